/- SlotsPlays holds: whatever is put, fetched and cut, each answer and all that is told is the document's; for every input. No condition. -/
import Derived.Test.YtcbijiielikfmaaSlotsAgree
import Derived.Test.YtcbijiielikfmaaSlotsAwake
import Derived.Test.YtcbijiielikfmaaSlotsOpl
import Derived.Deep.Cut
namespace Go.Proofs.Ytcbijiielikfmaa
open Go.ChangeShapes Go.WideShapes Go.ChangeAt Go.RowKit Sx Ls Rf
set_option linter.unusedVariables false
namespace SlotsPlays
section
variable {w w' wr : World} {P R c : Nat} {L : Lay} {a : Option Addr} {s s2 : Ss ByteArray} {hs : List (Int × ByteArray)}
/-- a block that a log writes is of one of two types -/
theorem lg_tag (h : Lg w P L s) {k : Nat} (hk : L.M P k) : ∃ cs t, w.heap[k]? = some (.cells cs t (0, 0)) ∧ (t = 73 ∨ t = 77) := by
  rcases hk with rfl | hk
  · exact ⟨_, _, h.hd, .inl rfl⟩
  · obtain ⟨cs, h1, _⟩ := h.own hk
    exact ⟨cs, _, h1, .inr rfl⟩
theorem rg_tag (h : Rg w R a c s hs) {k : Nat} (hk : M R a hs.length c k) : ∃ cs t, w.heap[k]? = some (.cells cs t (0, 0)) ∧ (t = 76 ∨ t = 79) := by
  rcases hk with rfl | hk
  · exact ⟨_, _, h.hd, .inl rfl⟩
  · obtain ⟨cs, h1⟩ := h.own hk
    exact ⟨cs, _, h1, .inr rfl⟩
theorem apart (hl : Lg w P L s) (hr : Rg w R a c s2 hs) {k : Nat} (h1 : L.M P k) (h2 : M R a hs.length c k) : False := by
  obtain ⟨cs, t, e1, e2⟩ := lg_tag hl h1
  obtain ⟨cs', t', f1, f2⟩ := rg_tag hr h2
  rw [e1] at f1
  simp at f1
  obtain ⟨-, rfl⟩ := f1
  revert e2 f2
  rintro (rfl | rfl) (h | h) <;> cases h
theorem rg_far (hl : Lg w P L s) (hr : Rg w R a c s2 hs) (hc : Chg (L.M P) w w') : Rg w' R a c s2 hs := hr.same (fun k hk => hc.block k (hr.lt k hk) (fun h => apart hl hr h hk))
theorem lg_far (hl : Lg w P L s) (hr : Rg w R a c s2 hs) (hc : Chg (M R a hs.length c) w w') : Lg w' P L s := hl.far hc (fun k hk h => apart hl hr hk h) (fun k hk h => by
  obtain ⟨x, hx⟩ := hl.val hk
  obtain ⟨cs', t', f1, f2⟩ := rg_tag hr h
  rw [hx] at f1
  simp at f1
  obtain ⟨-, rfl⟩ := f1
  revert f2
  rintro (h | h) <;> cases h)
/-- both logs, and nothing old has turned -/
def Duo (w wr : World) (P R : Nat) (s : Ss ByteArray) : Prop := Below w.heap.size w wr ∧ ∃ L a c hs, Lg wr P L s ∧ Rg wr R a c s hs ∧ (∀ j, L.M P j → w.heap.size ≤ j) ∧ ∀ j, M R a hs.length c j → w.heap.size ≤ j
theorem Duo.below (h : Duo w wr P R s) (hb : Below wr.heap.size wr w') : Duo w w' P R s := by
  obtain ⟨h1, L, a, c, hs, h2, h3, h4, h5⟩ := h
  exact ⟨below_step h1 hb, L, a, c, hs, h2.below hb, h3.below hb, h4, h5⟩
/-- ours is driven, the document's not yet; the cells of the call stand -/
def Mid (w wr : World) (P R : Nat) (s s2 : Ss ByteArray) (b : Nat) (i : Int) (v : ByteArray) : Prop := Below w.heap.size w wr ∧ (∃ L a c hs, Lg wr P L s2 ∧ Rg wr R a c s hs ∧ (∀ j, L.M P j → w.heap.size ≤ j) ∧ ∀ j, M R a hs.length c j → w.heap.size ≤ j) ∧ ∃ cs, wr.heap[b]? = some (.cells cs 29 (0, 0)) ∧ wr.cell? ⟨b, 1, none⟩ = some (.int .i64 i) ∧ wr.cell? ⟨b, 2, none⟩ = some (.string v)
theorem to_mid {b : Nat} {i : Int} {v : ByteArray} {cs : Array Value} (hw : Below w.heap.size w wr) (hl : Lg wr P L s) (hr : Rg wr R a c s hs) (m1 : ∀ j, L.M P j → w.heap.size ≤ j) (m2 : ∀ j, M R a hs.length c j → w.heap.size ≤ j) (hb : wr.heap[b]? = some (.cells cs 29 (0, 0))) (o1 : wr.cell? ⟨b, 1, none⟩ = some (.int .i64 i)) (o2 : wr.cell? ⟨b, 2, none⟩ = some (.string v)) (h : LMv wr P L s2 w') : Mid w w' P R s s2 b i v := by
  obtain ⟨hc, L4, h4, m4⟩ := h
  have hbb : w'.heap[b]? = wr.heap[b]? := hc.block b (Array.getElem?_eq_some_iff.1 hb).1 (fun h => by
    obtain ⟨cs', t', f1, f2⟩ := lg_tag hl h
    rw [hb] at f1
    simp at f1
    obtain ⟨-, rfl⟩ := f1
    revert f2
    rintro (h | h) <;> cases h)
  refine ⟨hw.trans (hc.below hw.size m1), ⟨L4, a, c, hs, h4, rg_far hl hr hc, fun j hj => ?_, m2⟩, cs, hbb.trans hb, (World.cell?_of_block (a := ⟨b, 1, none⟩) hbb).trans o1, (World.cell?_of_block (a := ⟨b, 2, none⟩) hbb).trans o2⟩
  rcases m4 j hj with h | h
  · exact m1 j h
  · exact Nat.le_trans hw.size h
/-- the document's is driven too -/
def Fin (w wr : World) (P R : Nat) (s : Ss ByteArray) (b : Nat) (i : Int) (v : ByteArray) : Prop := Duo w wr P R s ∧ wr.cell? ⟨b, 1, none⟩ = some (.int .i64 i) ∧ wr.cell? ⟨b, 2, none⟩ = some (.string v)
theorem to_fin {b : Nat} {i : Int} {v : ByteArray} {L : Lay} (hw : Below w.heap.size w wr) (hl : Lg wr P L s2) (hr : Rg wr R a c s hs) (m1 : ∀ j, L.M P j → w.heap.size ≤ j) (m2 : ∀ j, M R a hs.length c j → w.heap.size ≤ j) {cs : Array Value} (hb : wr.heap[b]? = some (.cells cs 29 (0, 0))) (o1 : wr.cell? ⟨b, 1, none⟩ = some (.int .i64 i)) (o2 : wr.cell? ⟨b, 2, none⟩ = some (.string v)) (h : RMv wr R a hs.length c s2 w') : Fin w w' P R s2 b i v := by
  obtain ⟨hc, a4, c4, hs4, h4, m4⟩ := h
  have hbb : w'.heap[b]? = wr.heap[b]? := hc.block b (Array.getElem?_eq_some_iff.1 hb).1 (fun h => by
    obtain ⟨cs', t', f1, f2⟩ := rg_tag hr h
    rw [hb] at f1
    simp at f1
    obtain ⟨-, rfl⟩ := f1
    revert f2
    rintro (h | h) <;> cases h)
  refine ⟨⟨hw.trans (hc.below hw.size m2), L, a4, c4, hs4, lg_far hl hr hc, h4, m1, fun j hj => ?_⟩, (World.cell?_of_block (a := ⟨b, 1, none⟩) hbb).trans o1, (World.cell?_of_block (a := ⟨b, 2, none⟩) hbb).trans o2⟩
  rcases m4 j hj with h | h
  · exact m2 j h
  · exact Nat.le_trans hw.size h
theorem mid_cut {b : Nat} {i : Int} {v : ByteArray} (h : Mid w wr P R s (cutS s i) b i v) : Calls Try.prog 15 #[.pointer (some ⟨R, 0, none⟩), .int .i64 i] wr fun e w' => e = .returned (.int .i64 (cutN s i)) ∧ Fin w w' P R (cutS s i) b i v := by
  obtain ⟨hw, ⟨L, a, c, hs, hl, hr, m1, m2⟩, cs, hb, o1, o2⟩ := h
  exact (rcut_any hr i).mono fun e w' ⟨h1, h2⟩ => ⟨h1, to_fin hw hl hr m1 m2 hb o1 o2 h2⟩
theorem mid_put {b : Nat} {i : Int} {v : ByteArray} (hi : i ≤ 9223372036854775807) (h : Mid w wr P R s (putS s i v) b i v) : Calls Try.prog 17 #[.pointer (some ⟨R, 0, none⟩), .int .i64 i, .string v] wr fun e w' => e = .returned (.int .i64 (putE s i)) ∧ Fin w w' P R (putS s i v) b i v := by
  obtain ⟨hw, ⟨L, a, c, hs, hl, hr, m1, m2⟩, cs, hb, o1, o2⟩ := h
  exact (rput_any hr i hi v).mono fun e w' ⟨h1, h2⟩ => ⟨h1, to_fin hw hl hr m1 m2 hb o1 o2 h2⟩
end
set_option maxRecDepth 100000 in
set_option maxHeartbeats 4000000 in
theorem walk {w : World} {a : Option Addr} {len cap : Nat} {os : Nat → Opd} (f m : Int) (h : Ops w a len os) :
    Calls Try.prog 3 #[.int .i64 f, .int .i64 m, .slice a len cap] w fun e w' => e = .returned (.bool true) ∧ Below w.heap.size w w' := by
  have HO := hide h
  have RM : len ≤ 4398046511104 := by have := h.room; omega
  clear h
  go_enter Try.func3, Try.ntmps3
  go_wp2_with fail
  refine (Ls.new_any w f m).mono ?_
  rintro e w1 ⟨rfl, b1, h1⟩
  have H1 := hide h1
  have B1 := hide b1
  clear b1 h1
  go_wp2_with fail
  refine (rnew_any w1 f m).mono ?_
  rintro e w2 ⟨rfl, b2, h2⟩
  have D2 : Hid (Duo w w2 w.heap.size w1.heap.size (newS ByteArray f m)) := ⟨below_step B1.out b2, _, _, _, _, H1.out.below b2, h2, fun j hj => by
    rcases hj with rfl | hj
    · exact Nat.le_refl _
    · simp [Lay.v, Value.ownBlock] at hj, fun j hj => by
    rcases hj with rfl | hj
    · exact B1.out.size
    · simp [Value.ownBlock] at hj⟩
  clear b2 h2 B1 H1
  go_wp2_with fail
  refine (awake_any w2).mono ?_
  rintro e w3 ⟨rfl, b3⟩
  have D3 := hide (D2.out.below b3)
  clear b3 D2
  go_wp2_with fail
  go_loopw [9, 10, 11, 12, 13, 14] (fun iv _ _ _ _ _ wr => ∃ k : Nat, k ≤ len ∧ iv = .int .i64 k ∧ Hid (∃ s, Duo w wr w.heap.size w1.heap.size s)) (fun iv _ _ _ _ _ _ => len - (intOf iv).toNat)
  case atStart => exact ⟨0, by omega, rfl, hide ⟨_, D3.out⟩⟩
  case round =>
    obtain ⟨k, hk, rfl, HD⟩ := hrel
    obtain ⟨s, hd⟩ := HD.out
    have DU := hide hd
    clear hd HD D3
    by_cases hlt : k < len
    · obtain ⟨ob, off, rfl, oblt, hoc⟩ := HO.out.cells (by omega)
      have SZ := hide (HO.out.each k hlt)
      have hr := rangeAt_same (hoc k hlt) (DU.out.1.block ob oblt)
      generalize os k = o at *
      obtain ⟨kind, i, v⟩ := o
      obtain ⟨o0, o1, o2⟩ := opc_cells hr
      have i1 : (k : Int) < (len : Int) := by omega
      have i2 : (0 : Int) ≤ (k : Int) := by omega
      clear hr hoc oblt
      go_upto_region 9 with fail
      obtain ⟨W0, eW⟩ : ∃ W0, W0 = wr.alloc (.cells #[.int .i64 kind, .int .i64 i, .string v] 29) := ⟨_, rfl⟩
      rw [← eW]
      have DU0 : Hid (Duo w W0 w.heap.size w1.heap.size s) := by rw [eW]; exact DU.out.below (below_alloc (Below.refl _ _) _)
      have hb : W0.heap[wr.heap.size]? = some (.cells #[.int .i64 kind, .int .i64 i, .string v] 29 (0, 0)) := by rw [eW]; exact World.alloc_heap_new wr _
      clear o0 o1 o2
      have o0 : W0.cell? ⟨wr.heap.size, 0, none⟩ = some (.int .i64 kind) := by rw [cell_of_row _ _ 0 _ _ _ hb]; rfl
      have o1 : W0.cell? ⟨wr.heap.size, 1, none⟩ = some (.int .i64 i) := by rw [cell_of_row _ _ 1 _ _ _ hb]; rfl
      have o2 : W0.cell? ⟨wr.heap.size, 2, none⟩ = some (.string v) := by rw [cell_of_row _ _ 2 _ _ _ hb]; rfl
      have HBK := hide hb
      clear eW hb DU
      obtain ⟨hw0, L0, a0, c0, hs0, hl0, hr0, m10, m20⟩ := DU0.out
      by_cases k1 : kind = 1
      · subst k1
        have CG := hide (Ls.get_any hl0 i)
        have CR : Hid (∀ q, Calls Try.prog 13 #[.pointer (some ⟨w1.heap.size, 0, none⟩), .int .i64 i] (W0.drewN q) fun e w' => e = .returned (.tuple #[Ls.ansV (getV s i), .bool (getV s i).isSome]) ∧ w' = W0.drewN q) := fun q => rget_any (hr0.drewN q) i
        clear hw0 hl0 hr0 m10 m20
        cases eg : getV s i with
        | none =>
          rw [eg] at CG CR
          simp only [Ls.ansV, Option.isSome_none, Ls.zv] at CG CR
          clear eg
          go_wp2_with fail
          refine CG.out.mono ?_
          rintro e w4 ⟨rfl, q, rfl⟩
          go_wp2_with fail
          refine (CR.out q).mono ?_
          rintro e w4 ⟨rfl, rfl⟩
          have D5 := hide (DU0.out.below (w' := W0.drewN q) ⟨rfl, rfl, rfl, Nat.le_refl _, fun _ _ => rfl⟩)
          clear CG CR
          obtain ⟨hw5, L5, a5, c5, hs5, hl5, hr5, m15, m25⟩ := D5.out
          have CA := hide (agree_any hl5 hr5)
          clear hw5 hl5 hr5 m15 m25
          go_wp2_with fail
          refine CA.out.mono ?_
          rintro e w6 ⟨rfl, b6⟩
          have D6 := hide (D5.out.below b6)
          clear b6 CA
          go_wp2_with fail
          go_roundw
          case rel => exact ⟨k + 1, by omega, by go_num, hide ⟨_, D6.out⟩⟩
          case measure => simp [intOf]; omega
        | some x =>
          rw [eg] at CG CR
          simp only [Ls.ansV, Option.isSome_some, Ls.va] at CG CR
          clear eg
          go_wp2_with fail
          refine CG.out.mono ?_
          rintro e w4 ⟨rfl, q, rfl⟩
          go_wp2_with fail
          refine (CR.out q).mono ?_
          rintro e w4 ⟨rfl, rfl⟩
          have D5 := hide (DU0.out.below (w' := W0.drewN q) ⟨rfl, rfl, rfl, Nat.le_refl _, fun _ _ => rfl⟩)
          clear CG CR
          obtain ⟨hw5, L5, a5, c5, hs5, hl5, hr5, m15, m25⟩ := D5.out
          have CA := hide (agree_any hl5 hr5)
          clear hw5 hl5 hr5 m15 m25
          go_wp2_with fail
          refine CA.out.mono ?_
          rintro e w6 ⟨rfl, b6⟩
          have D6 := hide (D5.out.below b6)
          clear b6 CA
          go_wp2_with fail
          go_roundw
          case rel => exact ⟨k + 1, by omega, by go_num, hide ⟨_, D6.out⟩⟩
          case measure => simp [intOf]; omega
      · have z1 : (kind == 1) = false := by simpa using k1
        by_cases k2 : kind = 2
        · subst k2
          have CC : Hid (Calls Try.prog 14 #[.pointer (some ⟨w.heap.size, 0, none⟩), .int .i64 i] (W0.drewN 1) fun e w' => e = .returned (.int .i64 (cutN s i)) ∧ Mid w w' w.heap.size w1.heap.size s (cutS s i) wr.heap.size i v) := (Ls.cut_any (hl0.drewN 1) i).mono fun e w' ⟨h1, h2⟩ => ⟨h1, to_mid (wr := W0.drewN 1) (hw0.trans (show Below w.heap.size W0 (W0.drewN 1) from ⟨rfl, rfl, rfl, Nat.le_refl _, fun _ _ => rfl⟩)) (hl0.drewN 1) (hr0.drewN 1) m10 m20 HBK.out o1 o2 h2⟩
          clear hw0 hl0 hr0 m10 m20
          go_wp2_with fail
          go_region_held3 (fun u => u.cell? ⟨wr.heap.size, 1, none⟩ = some (.int .i64 i) ∧ u.cell? ⟨wr.heap.size, 2, none⟩ = some (.string v)) (first | go_keep | exact ⟨o1, o2⟩ | exact ⟨MI.out.2.2.choose_spec.2.1, MI.out.2.2.choose_spec.2.2⟩ | exact ⟨FI.out.2.1, FI.out.2.2⟩) ((first | (go_at_call 14; refine CC.out.mono ?_; rintro e w4 ⟨rfl, mi⟩; have MI := hide mi; clear mi) | (go_at_call 15; refine (mid_cut MI.out).mono ?_; rintro e w5 ⟨rfl, fi⟩; have FI := hide fi; clear fi)))
          have D5 := hide FI.out.1
          clear FI MI CC
          obtain ⟨hw5, L5, a5, c5, hs5, hl5, hr5, m15, m25⟩ := D5.out
          have CA := hide (agree_any hl5 hr5)
          clear hw5 hl5 hr5 m15 m25
          go_wp2_with fail
          refine CA.out.mono ?_
          rintro e w6 ⟨rfl, b6⟩
          have D6 := hide (D5.out.below b6)
          clear b6 CA
          go_wp2_with fail
          go_roundw
          case rel => exact ⟨k + 1, by omega, by go_num, hide ⟨_, D6.out⟩⟩
          case measure => simp [intOf]; omega
        · have z2 : (kind == 2) = false := by simpa using k2
          have CP : Hid (Calls Try.prog 16 #[.pointer (some ⟨w.heap.size, 0, none⟩), .int .i64 i, .string v] (W0.drewN 1) fun e w' => e = .returned (.int .i64 (putE s i)) ∧ Mid w w' w.heap.size w1.heap.size s (putS s i v) wr.heap.size i v) := (Ls.put_any (hl0.drewN 1) i SZ.out.2.2 v).mono fun e w' ⟨h1, h2⟩ => ⟨h1, to_mid (wr := W0.drewN 1) (hw0.trans (show Below w.heap.size W0 (W0.drewN 1) from ⟨rfl, rfl, rfl, Nat.le_refl _, fun _ _ => rfl⟩)) (hl0.drewN 1) (hr0.drewN 1) m10 m20 HBK.out o1 o2 h2⟩
          clear hw0 hl0 hr0 m10 m20
          go_wp2_with fail
          go_region_held3 (fun u => u.cell? ⟨wr.heap.size, 1, none⟩ = some (.int .i64 i) ∧ u.cell? ⟨wr.heap.size, 2, none⟩ = some (.string v)) (first | go_keep | exact ⟨o1, o2⟩ | exact ⟨MI.out.2.2.choose_spec.2.1, MI.out.2.2.choose_spec.2.2⟩ | exact ⟨FI.out.2.1, FI.out.2.2⟩) ((first | (go_at_call 16; refine CP.out.mono ?_; rintro e w4 ⟨rfl, mi⟩; have MI := hide mi; clear mi) | (go_at_call 17; refine (mid_put SZ.out.2.2 MI.out).mono ?_; rintro e w5 ⟨rfl, fi⟩; have FI := hide fi; clear fi)))
          have D5 := hide FI.out.1
          clear FI MI CP
          obtain ⟨hw5, L5, a5, c5, hs5, hl5, hr5, m15, m25⟩ := D5.out
          have CA := hide (agree_any hl5 hr5)
          clear hw5 hl5 hr5 m15 m25
          go_wp2_with fail
          refine CA.out.mono ?_
          rintro e w6 ⟨rfl, b6⟩
          have D6 := hide (D5.out.below b6)
          clear b6 CA
          go_wp2_with fail
          go_roundw
          case rel => exact ⟨k + 1, by omega, by go_num, hide ⟨_, D6.out⟩⟩
          case measure => simp [intOf]; omega
    · obtain rfl : k = len := by omega
      clear hk hlt
      go_wp2_with fail
      go_ret
      exact ⟨rfl, DU.out.1⟩

set_option maxRecDepth 100000 in
theorem lifted (os : Os) (started : os.Started) (H : Type) (enc : TypeId × Value → H) :
    ReturnsInHanded {} Try.checked os 3 .any (Rows.slotsPlaysSpec.pre6 enc Try.prog Try.f3 Rows.slotsPlaysRow.domain false) (Rows.slotsPlaysSpec.post enc Try.prog Try.f3 false true false false) := by
  refine returnsInHanded_of_change_sized (C := Try.checked) own started (by kernel_rfl) Try.func3
    (ChangeSpec.witness6 (enc := enc) (C := Try.checked) false ⟨#[], #[.int .i64 0, .int .i64 0, .slice none 0 0], []⟩ 8 (by kernel_rfl) (by kernel_rfl) (by kernel_rfl) (by kernel_rfl)) ?_
  intro W base args ds gs before hval0 hW hcnd hsz0 _
  have hsz : (DataW.weightsEach Try.prog (Try.f3.params.toList ++ Rows.slotsPlaysSpec.plain.varTypes Try.prog) (ds ++ gs)).all (· ≤ reachBytes) = true := hsz0
  have hval : ∀ (j : Nat) t v, Try.f3.params[j]? = some t → args[j]? = some v → Value.okWide Try.prog W .any base t v := hval0
  have hW' := hW
  obtain ⟨p, q, hA0, hV, rfl, hfz, hnd⟩ := hW
  have hA : DataW.TrodAll enc Try.prog W 0 (fun _ => true) true Try.f3.params.toList args.toList ds p := hA0
  rw [Try.params3] at hA hval hsz
  obtain ⟨v0, vs0, d0, ds0, p0, q0, hargs, rfl, rfl, h0, r0⟩ := trodAll_cons hA
  obtain ⟨v1, vs1, d1, ds1, p1, q1, rfl, rfl, rfl, h1, r1⟩ := trodAll_cons r0
  obtain ⟨v2, vs2, d2, ds2, p2, q2, rfl, rfl, rfl, h2, r2⟩ := trodAll_cons r1
  obtain ⟨rfl, rfl, rfl⟩ := trodAll_nil r2
  obtain rfl : args = #[v0, v1, v2] := by cases args; simp_all
  obtain ⟨rfl, rfl⟩ := trodVars_none hV
  have lt0 : ∀ x ∈ p0, x.block < W.heap.size := by obtain ⟨m, hm⟩ := h0; exact DataW.trod_lt m _ _ _ hm
  obtain ⟨f, rfl, fb1, fb2⟩ := open_i64 (hval 0 3 v0 rfl rfl) h0
  have lt1 : ∀ x ∈ p1, x.block < W.heap.size := by obtain ⟨m, hm⟩ := h1; exact DataW.trod_lt m _ _ _ hm
  obtain ⟨m, rfl, mb1, mb2⟩ := open_i64 (hval 1 3 v1 rfl rfl) h1
  have lt2 : ∀ x ∈ p2, x.block < W.heap.size := by obtain ⟨m, hm⟩ := h2; exact DataW.trod_lt m _ _ _ hm
  obtain ⟨a, len, cap, os, rfl, ho⟩ := open_ops_held (hval 2 22 v2 rfl rfl) h2 (fun n hn => by have h := List.all_eq_true.1 hsz n (DataW.weights_mem_each (j := 2) rfl rfl n hn); simpa using h)
  clear hA0 hval0
  refine (walk f m ho).mono fun e W' ⟨he, bel⟩ => ?_
  subst he
  exact ⟨_, rfl, _, _, _, [], _, [], hW', trodAll_mk1 (shut_bool Try.underlying4 _), (trodAll_cons_mk (Below.trod laidOut (by kernel_rfl) (of_decide_eq_true (by kernel_rfl)) h0 bel lt0) (trodAll_cons_mk (Below.trod laidOut (by kernel_rfl) (of_decide_eq_true (by kernel_rfl)) h1 bel lt1) (trodAll_cons_mk (Below.trod laidOut (by kernel_rfl) (of_decide_eq_true (by kernel_rfl)) h2 bel lt2) trodAll_mk0))), rfl, bel.frame _, fun h => by cases h⟩

theorem over : Rows.slotsPlaysRow.holds Try.pinned (OpenSpec.ofChange Rows.slotsPlaysSpec) :=
  OpenClaim.holds_of_wide 3 Try.f3 rfl rfl rfl rfl rfl rfl rfl ⟨rfl, rfl, rfl, rfl, rfl⟩ rfl rfl rfl rfl rfl (by kernel_rfl) Try.func3 (by kernel_rfl)
    (of_decide_eq_true (by kernel_rfl)) (by unfold Func.isWrapper; first | (rw [if_pos (by decide +kernel)]; kernel_rfl) | (rw [if_neg (by decide +kernel)]; exact ⟨rfl, rfl⟩))
    (fun os started H enc _ => lifted os started H enc)

theorem proved : Rows.SlotsPlaysSaid := over
#print axioms proved
end SlotsPlays
theorem slotsPlays_holds : Rows.SlotsPlaysSaid := SlotsPlays.proved
end Go.Proofs.Ytcbijiielikfmaa
