/- CodecUnframes: for every list of bytes: whether it begins with a frame, and what is in it, is as the document tells; what is handed in stays. Condition: the table of the half bytes as the program's text lays it (the card ties it). -/
import Derived.Test.YtadjdiocipahhaaDoorCodecOpen
import Derived.Test.YtadjdiocipahhaaDoorCodecAwake
import Derived.Test.YtadjdiocipahhaaDoorCodecAt
import Derived.Test.YtadjdiocipahhaaDoorCodecUnframe
import Derived.Test.YtadjdiocipahhaaDoorCodecRefUnframe
import Derived.Test.YtadjdiocipahhaaDoorOwn8
import Derived.Test.YtadjdiocipahhaaDoorCards
import Derived.Test.YtadjdiocipahhaaDoorTie
import Derived.Deep.DeepHandedRow
import Derived.Lib.LaidTab
namespace Go.Proofs.YtadjdiocipahhaaDoor
namespace CodecUnframes
open Go.ChangeShapes Go.WideShapes Go.ChangeAt Go.RowKit B8 Cm
set_option linter.unusedVariables false

/-- what Unframe answers: the bytes, the frame's size, the fault -/
def unfA (bs : List Int) : List Int × Int × Int :=
  if bs.length < 8 then ([], 0, 20) else if 65536 < fwordV bs then ([], 0, 22) else if (bs.length : Int) < 8 + fwordV bs then ([], 0, 20)
  else if fwordV (bs.drop 4) = (fsum (bs.take 4 ++ (bs.drop 8).take (fwordV bs).toNat) : Nat) then ((bs.drop 8).take (fwordV bs).toNat, 8 + fwordV bs, 0) else ([], 0, 23)
def Unf (w : World) (bs : List Int) (e : Ending) (w' : World) : Prop :=
  ∃ a cp, e = .returned (.tuple #[.slice a (unfA bs).1.length cp, .int .i64 (unfA bs).2.1, .int .i64 (unfA bs).2.2]) ∧ Sq w' a (unfA bs).1.length cp (unfA bs).1 ∧ Below w.heap.size w w'
theorem sq_none (w : World) : Sq w none 0 0 [] := ⟨rfl, Nat.le_refl _, fun _ => rfl, fun h => absurd h (by omega), wfs_nil⟩
theorem unfA_len (bs : List Int) : (unfA bs).1.length ≤ bs.length := by
  unfold unfA
  split
  · exact Nat.zero_le _
  split
  · exact Nat.zero_le _
  split
  · exact Nat.zero_le _
  split
  · show (List.take _ (List.drop _ bs)).length ≤ _
    simp; omega
  · exact Nat.zero_le _

theorem land {a : Option Addr} {len cap : Nat} {bs : List Int} {w : World} (h : Sq w a len cap bs) (ht : Tab w) (hm : len ≤ 140737488355328) :
    Calls Tryd.prog 19 #[.slice a len cap] w (Unf w bs) := by
  have hl := h.length
  unfold Unf unfA
  rw [hl]
  by_cases h0 : len < 8
  · rw [if_pos h0]
    refine (cunframe_short a len cap w h0).mono ?_
    rintro e w' ⟨rfl, b⟩
    exact ⟨none, 0, rfl, sq_none _, b⟩
  · rw [if_neg h0]
    obtain ⟨b, off, rfl, _⟩ := h.cells (by omega)
    have hb := fwordV_bd bs h.wf
    by_cases h1 : 65536 < fwordV bs
    · rw [if_pos h1]
      refine (cunframe_long h (by omega) h1).mono ?_
      rintro e w' ⟨rfl, b⟩
      exact ⟨none, 0, rfl, sq_none _, b⟩
    · rw [if_neg h1]
      by_cases h2 : (len : Int) < 8 + fwordV bs
      · rw [if_pos h2]
        refine (cunframe_less h (by omega) (by omega) h2).mono ?_
        rintro e w' ⟨rfl, b⟩
        exact ⟨none, 0, rfl, sq_none _, b⟩
      · rw [if_neg h2]
        have hn : fwordV bs = ((fwordV bs).toNat : Nat) := by omega
        refine (cunframe_some h ht (by omega) hm hn (by omega)).mono ?_
        rintro e w' ⟨h3, b⟩
        have hlen : ((bs.drop 8).take (fwordV bs).toNat).length = (fwordV bs).toNat := by simp; omega
        rcases h3 with ⟨hE, a', rfl, m⟩ | ⟨hE, rfl⟩
        · rw [if_pos hE]
          refine ⟨a', (fwordV bs).toNat, ?_, ?_, b⟩
          · show _ = Ending.returned (.tuple #[.slice a' ((bs.drop 8).take (fwordV bs).toNat).length (fwordV bs).toNat, .int .i64 (8 + fwordV bs), .int .i64 0])
            rw [hlen, show ((8 + (fwordV bs).toNat : Nat) : Int) = 8 + fwordV bs by omega]
          · show Sq w' a' ((bs.drop 8).take (fwordV bs).toNat).length _ ((bs.drop 8).take (fwordV bs).toNat)
            rw [hlen]
            exact m.sq
        · rw [if_neg hE]
          exact ⟨none, 0, rfl, sq_none _, b⟩

theorem word_split (v : Int) (h0 : 0 ≤ v) (h1 : v ≤ 4294967295) (y0 y1 y2 y3 : Int) (z0 : 0 ≤ y0 ∧ y0 ≤ 255) (z1 : 0 ≤ y1 ∧ y1 ≤ 255) (z2 : 0 ≤ y2 ∧ y2 ≤ 255) (z3 : 0 ≤ y3 ∧ y3 ≤ 255) :
    (v % 256 = y0 ∧ v / 256 % 256 = y1 ∧ v / 65536 % 256 = y2 ∧ v / 16777216 = y3) ↔ y0 + y1 * 256 + y2 * 65536 + y3 * 16777216 = v := by
  constructor
  · rintro ⟨rfl, rfl, rfl, rfl⟩; omega
  · rintro rfl; omega
theorem ref_iff (bs : List Int) (hz : wfs bs) (n : Nat) (h8 : 8 + n ≤ bs.length) (hn : fwordV bs = n) (hn1 : n ≤ 65536) :
    (∀ j, j < 8 → (frameB ((bs.drop 8).take n))[j]?.getD 0 = bs[j]?.getD 0) ↔ fwordV (bs.drop 4) = (fsum (bs.take 4 ++ (bs.drop 8).take n) : Nat) := by
  have hl : ((bs.drop 8).take n).length = n := by simp; omega
  have hs := fsum_lt (bs.take 4 ++ (bs.drop 8).take n)
  have t4 : wordB ((bs.drop 8).take n).length = bs.take 4 := by
    rw [hl, ← hn]
    have z0 := bounds_u8 (hz 0)
    have z1 := bounds_u8 (hz 1)
    have z2 := bounds_u8 (hz 2)
    have z3 := bounds_u8 (hz 3)
    obtain ⟨a0, a1, a2, a3⟩ := (word_split (fwordV bs) (fwordV_bd bs hz).1 (fwordV_bd bs hz).2 _ _ _ _ z0 z1 z2 z3).2 rfl
    unfold wordB
    rw [a0, a1, a2, a3]
    match bs, h8 with
    | x0 :: x1 :: x2 :: x3 :: r, _ => simp
    | [], h => exact absurd h (by simp)
    | [_], h => exact absurd h (by simp; omega)
    | [_, _], h => exact absurd h (by simp; omega)
    | [_, _, _], h => exact absurd h (by simp; omega)
  have e : frameB ((bs.drop 8).take n) = bs.take 4 ++ wordB (fsum (bs.take 4 ++ (bs.drop 8).take n)) ++ (bs.drop 8).take n := by
    unfold frameB
    rw [t4]
    rfl
  rw [e]
  obtain ⟨s, es⟩ : ∃ s, s = fsum (bs.take 4 ++ (bs.drop 8).take n) := ⟨_, rfl⟩
  rw [← es] at hs ⊢
  clear es e t4
  have l4 : (bs.take 4).length = 4 := by simp; omega
  have z4 := bounds_u8 (hz 4)
  have z5 := bounds_u8 (hz 5)
  have z6 := bounds_u8 (hz 6)
  have z7 := bounds_u8 (hz 7)
  have hw := word_split (s : Int) (by omega) (by omega) _ _ _ _ z4 z5 z6 z7
  have hv : fwordV (bs.drop 4) = bs[4]?.getD 0 + bs[5]?.getD 0 * 256 + bs[6]?.getD 0 * 65536 + bs[7]?.getD 0 * 16777216 := by
    unfold fwordV
    simp [List.getElem?_drop]
  rw [hv, ← hw]
  have lo : ∀ j, j < 4 → (bs.take 4 ++ wordB (s : Int) ++ (bs.drop 8).take n)[j]?.getD 0 = bs[j]?.getD 0 := by
    intro j hj
    rw [List.getElem?_append_left (by simp [wordB]; omega), List.getElem?_append_left (by omega), List.getElem?_take, if_pos hj]
  have hi : ∀ j, j < 4 → (bs.take 4 ++ wordB (s : Int) ++ (bs.drop 8).take n)[4 + j]?.getD 0 = (wordB (s : Int))[j]?.getD 0 := by
    intro j hj
    rw [List.getElem?_append_left (by simp [wordB]; omega), List.getElem?_append_right (by omega), l4, Nat.add_sub_cancel_left]
  constructor
  · intro h
    have g4 := (hi 0 (by omega)).symm.trans (h 4 (by omega))
    have g5 := (hi 1 (by omega)).symm.trans (h 5 (by omega))
    have g6 := (hi 2 (by omega)).symm.trans (h 6 (by omega))
    have g7 := (hi 3 (by omega)).symm.trans (h 7 (by omega))
    exact ⟨g4, g5, g6, g7⟩
  · rintro ⟨g4, g5, g6, g7⟩ j hj
    match j, hj with
    | 0, _ => exact lo 0 (by omega)
    | 1, _ => exact lo 1 (by omega)
    | 2, _ => exact lo 2 (by omega)
    | 3, _ => exact lo 3 (by omega)
    | 4, _ => exact (hi 0 (by omega)).trans g4
    | 5, _ => exact (hi 1 (by omega)).trans g5
    | 6, _ => exact (hi 2 (by omega)).trans g6
    | 7, _ => exact (hi 3 (by omega)).trans g7

theorem refd {a : Option Addr} {len cap : Nat} {bs : List Int} {w : World} (h : Sq w a len cap bs) (hm : len ≤ 140737488351232) :
    Calls Tryd.prog 20 #[.slice a len cap] w (Unf w bs) := by
  have hl := h.length
  unfold Unf unfA
  rw [hl]
  by_cases h0 : len < 8
  · rw [if_pos h0]
    refine (refunframe_short a len cap w h0).mono ?_
    rintro e w' ⟨rfl, rfl⟩
    exact ⟨none, 0, rfl, sq_none _, Below.refl _ _⟩
  · rw [if_neg h0]
    obtain ⟨b, off, rfl, _⟩ := h.cells (by omega)
    obtain ⟨b', off', e', hc⟩ := h.cells (by omega)
    obtain ⟨rfl, rfl⟩ : b = b' ∧ off = off' := by simpa using e'
    have hb := fwordV_bd bs h.wf
    by_cases h1 : 65536 < fwordV bs
    · rw [if_pos h1]
      refine (refunframe_long b off len cap bs w h (by omega) hc h1).mono ?_
      rintro e w' ⟨rfl, b⟩
      exact ⟨none, 0, rfl, sq_none _, b⟩
    · rw [if_neg h1]
      by_cases h2 : (len : Int) < 8 + fwordV bs
      · rw [if_pos h2]
        refine (refunframe_less b off len cap bs w h (by omega) hc (by show fwordV bs ≤ _; omega) h2).mono ?_
        rintro e w' ⟨rfl, b⟩
        exact ⟨none, 0, rfl, sq_none _, b⟩
      · rw [if_neg h2]
        have hn : fwordV bs = ((fwordV bs).toNat : Nat) := by omega
        refine (refunframe_some b off len cap (fwordV bs).toNat bs w h (by omega) hm hc hn (by omega)).mono ?_
        rintro e w' ⟨h3, bb⟩
        have hlen : ((bs.drop 8).take (fwordV bs).toNat).length = (fwordV bs).toNat := by simp; omega
        have hiff := ref_iff bs h.wf (fwordV bs).toNat (by omega) hn (by omega)
        rcases h3 with ⟨hE, y, rfl, o⟩ | ⟨⟨j, hj, hE⟩, rfl⟩
        · rw [if_pos (hiff.1 hE)]
          obtain ⟨a', cp', rfl, q⟩ := sq_of_row hlen (wfs_take (wfs_drop h.wf 8) _) o
          refine ⟨a', cp', ?_, ?_, bb⟩
          · show _ = Ending.returned (.tuple #[.slice a' ((bs.drop 8).take (fwordV bs).toNat).length cp', .int .i64 (8 + fwordV bs), .int .i64 0])
            rw [hlen, ← hn]
          · show Sq w' a' ((bs.drop 8).take (fwordV bs).toNat).length _ ((bs.drop 8).take (fwordV bs).toNat)
            rw [hlen]
            exact q
        · rw [if_neg (fun h => hE (hiff.2 h j hj))]
          exact ⟨none, 0, rfl, sq_none _, bb⟩

set_option maxHeartbeats 1000000 in
theorem walk {a : Option Addr} {len cap : Nat} {bs : List Int} {w : World} (h : Sq w a len cap bs) (hr : cap * 1 ≤ 140737488351232) (ht : Tab w) :
    Calls Tryd.prog 4 #[.slice a len cap] w fun e w' => e = .returned (.bool true) ∧ Below w.heap.size w w' := by
  have HL := hide h.length
  have hlc := h.lecap
  have hlen : len ≤ 140737488351232 := by omega
  have H := hide h
  have HT := hide ht
  have HW := hide h.wf
  have lU := unfA_len bs
  rw [HL.out] at lU
  obtain ⟨U, eU⟩ : ∃ U, U = unfA bs := ⟨_, rfl⟩
  rw [← eU] at lU
  have CL : Hid (∀ {W : World} {A : Option Addr} {C : Nat}, Sq W A len C bs → Tab W → Calls Tryd.prog 19 #[.slice A len C] W fun e w' => ∃ a cp, e = .returned (.tuple #[.slice a U.1.length cp, .int .i64 U.2.1, .int .i64 U.2.2]) ∧ Sq w' a U.1.length cp U.1 ∧ Below W.heap.size W w') := by
    intro W A C hq hT
    have := land hq hT (by omega)
    unfold Unf at this
    rw [← eU] at this
    exact this
  have CR : Hid (∀ {W : World} {A : Option Addr} {C : Nat}, Sq W A len C bs → Calls Tryd.prog 20 #[.slice A len C] W fun e w' => ∃ a cp, e = .returned (.tuple #[.slice a U.1.length cp, .int .i64 U.2.1, .int .i64 U.2.2]) ∧ Sq w' a U.1.length cp U.1 ∧ Below W.heap.size W w') := by
    intro W A C hq
    have := refd hq (by omega)
    unfold Unf at this
    rw [← eU] at this
    exact this
  clear h ht eU
  obtain ⟨U1, U2, U3⟩ := U
  have lU' : U1.length ≤ len := lU
  have C1 := hide (own_sq 71 H.out (by omega))
  go_enter Tryd.func4, Tryd.ntmps4
  go_wp2_with fail
  refine C1.out.mono ?_
  rintro e w1 ⟨rfl, b1, o1⟩
  have B1 := hide b1
  have O1 := hide o1
  have IN : Hid (∀ W, Below w1.heap.size w1 W → Sq W (some ⟨w.heap.size, 0, none⟩) len (len + 2) bs ∧ W.cell? ⟨w.heap.size, len, none⟩ = some (.int .u8 71) ∧ W.cell? ⟨w.heap.size, len + 1, none⟩ = some (.int .u8 71)) := fun W hW => sq_own HL.out HW.out (row_below O1.out hW)
  have BA : Hid (∀ W, Below w1.heap.size w1 W → Below w.heap.size w W) := fun W hW => below_step B1.out hW
  clear b1 o1 C1
  go_wp2_with fail
  refine (CL.out (IN.out w1 (Below.refl _ _)).1 (HT.out.below B1.out)).mono ?_
  rintro e w2 ⟨a2, c2, rfl, q2, b2⟩
  have B2 := hide b2
  have Q2 := hide q2
  clear b2 q2
  go_wp2_with fail
  refine (CR.out (H.out.below (BA.out _ B2.out))).mono ?_
  rintro e w3 ⟨a3, c3, rfl, q3, b3⟩
  have B3 := hide (below_step B2.out b3)
  have Q3 := hide q3
  have Q2' := hide (Q2.out.below b3)
  clear b3 q3 Q2
  go_wp2_with fail
  refine (awake_any w3).mono ?_
  rintro e w4 ⟨rfl, b4⟩
  have B4 := hide (below_step B3.out b4)
  have Q2 := hide (Q2'.out.below b4)
  have Q3' := hide (Q3.out.below b4)
  clear b4 Q2' Q3 B3
  go_wp2_with fail
  refine (bytes_sq Q2.out Q3'.out (by show U1.length ≤ _; omega)).mono ?_
  rintro e w5 ⟨rfl, m5, e5⟩
  have B5 := hide (below_drewN B4.out m5)
  rw [← e5] at B5
  clear e5 Q2 Q3' B4
  obtain ⟨k1, k2, k3⟩ := IN.out w5 B5.out
  have CK := hide (kept_sq 71 k1 (H.out.below (BA.out _ B5.out)) (by omega) k2 k3)
  clear k1 k2 k3
  go_wp2_with fail
  refine CK.out.mono ?_
  rintro e w6 ⟨rfl, m6, rfl⟩
  go_wp2_with fail
  go_ret
  exact ⟨rfl, below_drewN (BA.out _ B5.out) _⟩

theorem gTab : Tryd.prog.globalNamed "purse/codec.halves" = some 0 := by kernel_rfl
theorem gTabType : (Tryd.prog.globals[0]?).map (·.type) = some 58 := by kernel_rfl
theorem cellsT : Tryd.prog.cellsOf 58 = 16 := by kernel_rfl
theorem cellsE : Tryd.prog.cellsOf 33 = 1 := by kernel_rfl
theorem table {W : World} (h : laidMetH Tryd.prog Rows.codecUnframesRow.laid W) : Tab W := by
  have t : Lib.TabIs Tryd.prog W "purse/codec.halves" .u32 Crc.tab := Lib.tabIs_of_head (rest := []) gTab gTabType Tryd.underlying58 Tryd.underlying33 cellsE cellsT h
  intro j hj
  rw [t.cell gTab j hj]
  simp [List.getD]
theorem contract (H : Type) (enc : TypeId × Value → H) (W : World) (base : Nat) (args : Array Value) (ds gs : List (DataW H)) (before : List MemPlace)
    (hval0 : ∀ (j : Nat) t v, Tryd.f4.params[j]? = some t → args[j]? = some v → Value.okWide Tryd.prog W .any base t v)
    (hW : DataW.Whole enc Tryd.prog Tryd.f4.params.toList Rows.codecUnframesSpec.vars false W args.toList ds gs before)
    (hsz0 : (DataW.weightsEach Tryd.prog (Tryd.f4.params.toList ++ Rows.codecUnframesSpec.plain.varTypes Tryd.prog) (ds ++ gs)).all (· ≤ reachBytes) = true) (hL : laidMetH Tryd.prog Rows.codecUnframesRow.laid W) :
    Calls Tryd.prog 4 args W fun e W' => ∃ v, e = .returned v ∧ Rows.codecUnframesSpec.post enc Tryd.prog Tryd.f4 false true false false W args v W' := by
  have hsz : (DataW.weightsEach Tryd.prog (Tryd.f4.params.toList ++ Rows.codecUnframesSpec.plain.varTypes Tryd.prog) (ds ++ gs)).all (· ≤ reachBytes) = true := hsz0
  have hval : ∀ (j : Nat) t v, Tryd.f4.params[j]? = some t → args[j]? = some v → Value.okWide Tryd.prog W .any base t v := hval0
  have hW' := hW
  obtain ⟨p, q, hA0, hV, rfl, hfz, hnd⟩ := hW
  have hA : DataW.TrodAll enc Tryd.prog W 0 (fun _ => true) true Tryd.f4.params.toList args.toList ds p := hA0
  rw [Tryd.params4] at hA hval hsz
  obtain ⟨v0, vs0, d0, ds0, p0, q0, hargs, rfl, rfl, h0, r0⟩ := trodAll_cons hA
  obtain ⟨rfl, rfl, rfl⟩ := trodAll_nil r0
  obtain rfl : args = #[v0] := by cases args; simp_all
  obtain ⟨rfl, rfl⟩ := trodVars_none hV
  have lt0 : ∀ x ∈ p0, x.block < W.heap.size := by obtain ⟨m, hm⟩ := h0; exact DataW.trod_lt m _ _ _ hm
  obtain ⟨a, len, cap, bs, rfl, h⟩ := open_sq_sized (hval 0 23 v0 rfl rfl) h0 (fun elems spare e => by have h := hsz; rw [e] at h; exact sized_slice h (j := 0) (t := 23) (e := 5) rfl rfl Tryd.underlying23)
  clear hA0 hval0
  refine (walk h.1 h.2 (table hL)).mono fun e W' ⟨he, bel⟩ => ?_
  subst he
  exact ⟨_, rfl, _, _, _, [], _, [], hW', trodAll_mk1 (shut_bool Tryd.underlying4 _), (trodAll_cons_mk (Below.trod laidOut (by kernel_rfl) (of_decide_eq_true (by kernel_rfl)) h0 bel lt0) trodAll_mk0), rfl, bel.frame _, fun h => by cases h⟩

noncomputable def laidWorld (os : Os) : World :=
  { World.holding Tryd.prog os ⟨#[], #[], []⟩ with heap := (World.holding Tryd.prog os ⟨#[], #[], []⟩).heap.modify 0 fun
      | .cells _ t frozen => .cells #[.int .u32 0, .int .u32 498536548, .int .u32 997073096, .int .u32 651767980, .int .u32 1994146192, .int .u32 1802195444, .int .u32 1303535960, .int .u32 1342533948, .int .u32 3988292384, .int .u32 4027552580, .int .u32 3604390888, .int .u32 3412177804, .int .u32 2607071920, .int .u32 2262029012, .int .u32 2685067896, .int .u32 3183342108] t frozen
      | o => o }
theorem laid_met (os : Os) : laidMet Tryd.prog Rows.codecUnframesRow.laid ((laidWorld os).forCall (fun _ _ => 0) ⟨#[], #[Value.slice none 0 0], []⟩).memory :=
  laidMet_of_run' 8 (by kernel_rfl) (by kernel_rfl)
theorem reads (os : Os) {H : Type} (enc : TypeId × Value → H) : ∃ places, DataW.whole enc Tryd.prog ((laidWorld os).forCall (fun _ _ => 0) ⟨#[], #[Value.slice none 0 0], []⟩).memory Tryd.f4.params.toList Rows.codecUnframesSpec.vars false #[Value.slice none 0 0].toList 8 = some ([.nil], [], places) :=
  ⟨[], by kernel_rfl⟩
set_option maxRecDepth 100000 in
theorem lifted (os : Os) (started : os.Started) (H : Type) (enc : TypeId × Value → H) (F : Stop.Interp) :
    ReturnsInHanded {} Tryd.checked os 4 .any ((OpenSpec.ofChange Rows.codecUnframesSpec).preRow enc Tryd.prog Tryd.f4 Rows.codecUnframesRow.domain false Rows.codecUnframesRow.laid) (((OpenSpec.ofChange Rows.codecUnframesSpec).at F).post enc Tryd.prog Tryd.f4 false true false false) := by
  obtain ⟨places, hx⟩ := reads os enc
  refine returnsInHanded_of_row (C := Tryd.checked) (s := OpenSpec.ofChange Rows.codecUnframesSpec) own started (by kernel_rfl) Tryd.func4
    (witness_row_at (enc := enc) (C := Tryd.checked) false (laidWorld os) #[Value.slice none 0 0] rfl (by kernel_rfl) (by kernel_rfl) (by kernel_rfl)
      (OpenSpec.preRow_of_cond 8 hx (by kernel_rfl) (fun k hk => by cases hk) (by kernel_rfl) (laid_met os))) ?_
  intro W base args ds gs before hval hW _ _ hsz hL _ _
  exact contract H enc W base args ds gs before hval hW hsz hL

theorem said : Rows.CodecUnframesSaid :=
  OpenClaim.holds_of_cond 4 Tryd.f4 rfl rfl rfl rfl rfl rfl rfl ⟨rfl, rfl, rfl, rfl, rfl⟩ rfl rfl rfl rfl rfl (by kernel_rfl) Tryd.func4 (by kernel_rfl)
    (of_decide_eq_true (by kernel_rfl)) (by unfold Func.isWrapper; first | (rw [if_pos (by decide +kernel)]; kernel_rfl) | (rw [if_neg (by decide +kernel)]; exact ⟨rfl, rfl⟩))
    (fun os started H enc _ F => by rw [OpenClaim.pre_eq_preRow]; exact lifted os started H enc F)
theorem plain (f : FuncId) (fn : Func) (hf : Tryd.pinned.checked.prog.funcNamed "purse/purselaw02.CodecUnframes" = some f) (hfn : Tryd.pinned.checked.prog.funcs[f]? = some fn) :
    false = Tryd.pinned.checked.prog.looks [] ∧ ∀ (j : Nat) t, fn.params[j]? = some t → Tryd.pinned.checked.prog.wantsStandIn t = false := by
  obtain rfl : f = 4 := Option.some.inj ((show Tryd.prog.funcNamed "purse/purselaw02.CodecUnframes" = some 4 by kernel_rfl).symm.trans hf) |>.symm
  obtain rfl : fn = Tryd.f4 := (Option.some.inj (Tryd.func4.symm.trans hfn)).symm
  refine ⟨by kernel_rfl, fun j t ht => ?_⟩
  rw [Tryd.params4] at ht
  have hmem := Array.mem_of_getElem? ht
  have ht2 : t = 23 := by simpa using hmem
  rcases ht2 with rfl
  exact (show Tryd.prog.wantsStandIn 23 = false by kernel_rfl)
theorem card : Rows.CodecUnframesCardSaid :=
  Claim7.holds_tied_plain_at .later [] _ _ _ _ said (fun _ h => by cases h) (by kernel_rfl) (fun _ h => by cases h) codecUnframes_row_tie rfl ⟨rfl, rfl⟩ (by kernel_rfl) rfl plain (by kernel_rfl)
#print axioms card
end CodecUnframes
theorem codecUnframes_holds : Rows.CodecUnframesCardSaid := CodecUnframes.card
end Go.Proofs.YtadjdiocipahhaaDoor
