/- CodecWrites: for every number, int and list of bytes: numbers, texts, sums and frames are the bytes that the document tells; what is handed in stays. Condition: the table of the half bytes as the program's text lays it (the card ties it). -/
import Derived.Test.YtadjdiocipahhaaDoorCodecOpen
import Derived.Test.YtadjdiocipahhaaDoorCodecAwake
import Derived.Test.YtadjdiocipahhaaDoorCodecAt
import Derived.Test.YtadjdiocipahhaaDoorCodecFrame
import Derived.Test.YtadjdiocipahhaaDoorCodecRefFrame
import Derived.Test.YtadjdiocipahhaaDoorOwn8
import Derived.Test.YtadjdiocipahhaaDoorCards
import Derived.Test.YtadjdiocipahhaaDoorTie
import Derived.Deep.DeepHandedRow
import Derived.Lib.LaidTab
namespace Go.Proofs.YtadjdiocipahhaaDoor
namespace CodecWrites
open Go.ChangeShapes Go.WideShapes Go.ChangeAt Go.RowKit B8 Cm
set_option linter.unusedVariables false

/-- a frame, or why there is none -/
def frameA (bs : List Int) : List Int × Int := if 65536 < bs.length then ([], 22) else (fframe bs, 0)
theorem frame_same (bs : List Int) : frameB bs = fframe bs := rfl
theorem sum_same (bs : List Int) : sumB bs = fsum bs := rfl
theorem frameA_len (bs : List Int) : (frameA bs).1.length ≤ 65544 := by
  unfold frameA
  split
  · exact Nat.zero_le _
  · show (fframe bs).length ≤ _
    rw [fframe_length]; omega
/-- what a Frame promises -/
def Framed (w : World) (bs : List Int) (e : Ending) (w' : World) : Prop :=
  ∃ a cp, e = .returned (.tuple #[.slice a (frameA bs).1.length cp, .int .i64 (frameA bs).2]) ∧ Sq w' a (frameA bs).1.length cp (frameA bs).1 ∧ Below w.heap.size w w'
theorem sq_none (w : World) : Sq w none 0 0 [] := ⟨rfl, Nat.le_refl _, fun _ => rfl, fun h => absurd h (by omega), wfs_nil⟩

theorem land {a : Option Addr} {len cap : Nat} {bs : List Int} {w : World} (h : Sq w a len cap bs) (ht : Tab w) :
    Calls Tryd.prog 6 #[.slice a len cap] w (Framed w bs) := by
  have hl := h.length
  by_cases h0 : 65536 < len
  · have e : frameA bs = ([], 22) := if_pos (by rw [hl]; exact h0)
    unfold Framed
    rw [e]
    refine (cframe_long a len cap w h0).mono ?_
    rintro e w' ⟨rfl, rfl⟩
    exact ⟨none, 0, rfl, sq_none _, Below.refl _ _⟩
  · have e : frameA bs = (fframe bs, 0) := if_neg (by rw [hl]; exact h0)
    unfold Framed
    rw [e]
    refine (cframe_sq h ht (by omega)).mono ?_
    rintro e w' ⟨y, rfl, o, b⟩
    obtain ⟨a', cp', rfl, q⟩ := sq_of_row rfl (fframe_wfs bs h.wf (by omega)) o
    exact ⟨a', cp', rfl, q, b⟩
theorem refd {a : Option Addr} {len cap : Nat} {bs : List Int} {w : World} (h : Sq w a len cap bs) :
    Calls Tryd.prog 7 #[.slice a len cap] w (Framed w bs) := by
  have hl := h.length
  by_cases h0 : 65536 < len
  · have e : frameA bs = ([], 22) := if_pos (by rw [hl]; exact h0)
    unfold Framed
    rw [e]
    refine (refframe_long a len cap w h0).mono ?_
    rintro e w' ⟨rfl, rfl⟩
    exact ⟨none, 0, rfl, sq_none _, Below.refl _ _⟩
  · have e : frameA bs = (fframe bs, 0) := if_neg (by rw [hl]; exact h0)
    unfold Framed
    rw [e]
    refine (refframe_sq h (by omega)).mono ?_
    rintro e w' ⟨y, rfl, o, b⟩
    rw [frame_same] at o
    obtain ⟨a', cp', rfl, q⟩ := sq_of_row rfl (fframe_wfs bs h.wf (by omega)) o
    exact ⟨a', cp', rfl, q, b⟩

set_option maxHeartbeats 2000000 in
theorem walk (v n : Int) (v0 : 0 ≤ v) (v1 : v ≤ 18446744073709551615) (n0 : -9223372036854775808 ≤ n) (n1 : n ≤ 9223372036854775807) {a : Option Addr} {len cap : Nat} {bs : List Int} {w : World} (h : Sq w a len cap bs) (hr : cap * 1 ≤ 140737488351232) (ht : Tab w) :
    Calls Tryd.prog 3 #[.int .u64 v, .int .i64 n, .slice a len cap] w fun e w' => e = .returned (.bool true) ∧ Below w.heap.size w w' := by
  obtain ⟨V, rfl⟩ := Int.eq_ofNat_of_zero_le v0
  have hV : V < 18446744073709551616 := by omega
  have hz := zig_lt n n0 n1
  have l1 := (numB_length V).2
  have l2 := (numB_length (zig n)).2
  have l3 := (numB_length bs.length).2
  have HL := hide h.length
  have hlc := h.lecap
  have hlen : len ≤ 140737488351232 := by omega
  have H := hide h
  have HT := hide ht
  have HW := hide h.wf
  have lF := frameA_len bs
  obtain ⟨F, eF⟩ : ∃ F, F = frameA bs := ⟨_, rfl⟩
  rw [← eF] at lF
  obtain ⟨S, eS⟩ : ∃ S, S = fsum bs := ⟨_, rfl⟩
  have CLand : Hid (∀ {W : World} {A : Option Addr} {C : Nat}, Sq W A len C bs → Tab W → Calls Tryd.prog 6 #[.slice A len C] W fun e w' => ∃ a cp, e = .returned (.tuple #[.slice a F.1.length cp, .int .i64 F.2]) ∧ Sq w' a F.1.length cp F.1 ∧ Below W.heap.size W w') := by
    intro W A C hq hT
    have := land hq hT
    unfold Framed at this
    rw [← eF] at this
    exact this
  have CRef : Hid (∀ {W : World} {A : Option Addr} {C : Nat}, Sq W A len C bs → Calls Tryd.prog 7 #[.slice A len C] W fun e w' => ∃ a cp, e = .returned (.tuple #[.slice a F.1.length cp, .int .i64 F.2]) ∧ Sq w' a F.1.length cp F.1 ∧ Below W.heap.size W w') := by
    intro W A C hq
    have := refd hq
    unfold Framed at this
    rw [← eF] at this
    exact this
  have CSum : Hid (∀ {W : World} {A : Option Addr} {C : Nat}, Sq W A len C bs → Tab W → Calls Tryd.prog 16 #[.slice A len C] W fun e w' => e = .returned (.int .u32 (S : Nat)) ∧ w' = W) := by
    intro W A C hq hT
    rw [eS]
    exact csum_sq hq hT (by omega)
  have RSum : Hid (∀ {W : World} {A : Option Addr} {C : Nat}, Sq W A len C bs → Calls Tryd.prog 17 #[.slice A len C] W fun e w' => e = .returned (.int .u32 (S : Nat)) ∧ w' = W) := by
    intro W A C hq
    rw [eS, ← sum_same]
    exact refsum_sq hq (by omega)
  obtain ⟨T, eT⟩ : ∃ T, T = numB bs.length ++ bs := ⟨_, rfl⟩
  have wT : wfs T := by rw [eT]; exact wfs_append (cnumB_wfs _ (by rw [HL.out]; omega)) HW.out
  have lT : T.length ≤ 10 + len := by rw [eT]; have := HL.out; simp; omega
  have CT : Hid (∀ {W : World} {A : Option Addr} {C : Nat}, Sq W A len C bs → Calls Tryd.prog 13 #[.slice A len C] W fun e w' => ∃ y, e = .returned y ∧ w'.ownsRow W.heap.size 5 1 y T.length (vals T) ∧ Below W.heap.size W w') := by
    intro W A C hq
    rw [eT]
    exact ctextw_sq hq (by omega)
  have RT : Hid (∀ {W : World} {A : Option Addr} {C : Nat}, Sq W A len C bs → Calls Tryd.prog 14 #[.slice A len C] W fun e w' => ∃ y, e = .returned y ∧ w'.ownsRow W.heap.size 5 1 y T.length (vals T) ∧ Below W.heap.size W w') := by
    intro W A C hq
    rw [eT]
    exact reftext_sq hq (by omega)
  have WT := hide wT
  clear h ht eF eS eT wT
  obtain ⟨F1, F2⟩ := F
  have lF' : F1.length ≤ 65544 := lF
  have C1 := hide (own_sq 71 H.out (by omega))
  go_enter Tryd.func3, Tryd.ntmps3
  go_wp2_with fail
  refine C1.out.mono ?_
  rintro e w1 ⟨rfl, b1, o1⟩
  have B1 := hide b1
  have O1 := hide o1
  have IN : Hid (∀ W, Below w1.heap.size w1 W → Sq W (some ⟨w.heap.size, 0, none⟩) len (len + 2) bs ∧ W.cell? ⟨w.heap.size, len, none⟩ = some (.int .u8 71) ∧ W.cell? ⟨w.heap.size, len + 1, none⟩ = some (.int .u8 71)) := fun W hW => sq_own HL.out HW.out (row_below O1.out hW)
  have BA : Hid (∀ W, Below w1.heap.size w1 W → Below w.heap.size w W) := fun W hW => below_step B1.out hW
  clear b1 o1 C1
  go_wp2_with fail
  refine (CLand.out (IN.out w1 (Below.refl _ _)).1 (HT.out.below B1.out)).mono ?_
  rintro e w2 ⟨a2, c2, rfl, q2, b2⟩
  have B2 := hide b2
  have Q2 := hide q2
  clear b2 q2
  go_wp2_with fail
  refine (CRef.out (H.out.below (BA.out _ B2.out))).mono ?_
  rintro e w3 ⟨a3, c3, rfl, q3, b3⟩
  have B3 := hide (below_step B2.out b3)
  have Q3 := hide q3
  have Q2' := hide (Q2.out.below b3)
  clear b3 q3 Q2
  go_wp2_with fail
  refine (cnumw_any V w3 hV).mono ?_
  rintro e w4 ⟨x4, rfl, o4, b4⟩
  obtain ⟨a4, c4, rfl, q4⟩ := sq_of_row rfl (cnumB_wfs V hV) o4
  have B4 := hide (below_step B3.out b4)
  have Q4 := hide q4
  have Q2 := hide (Q2'.out.below b4)
  have Q3' := hide (Q3.out.below b4)
  clear b4 q4 o4 Q2' Q3
  go_wp2_with fail
  refine (refnum_any V w4 hV).mono ?_
  rintro e w5 ⟨x5, rfl, o5, b5⟩
  obtain ⟨a5, c5, rfl, q5⟩ := sq_of_row rfl (cnumB_wfs V hV) o5
  have B5 := hide (below_step B4.out b5)
  have CB := hide (bytes_sq (Q4.out.below b5) q5 (by omega))
  have Q2' := hide (Q2.out.below b5)
  have Q3 := hide (Q3'.out.below b5)
  clear b5 q5 o5 Q2 Q3' Q4
  go_wp2_with fail
  refine CB.out.mono ?_
  rintro e w6 ⟨rfl, m6, e6⟩
  have B6 := hide (below_drewN B5.out m6)
  have Q2 := hide (Q2'.out.drew m6)
  have Q3' := hide (Q3.out.drew m6)
  rw [← e6] at B6 Q2 Q3'
  clear e6 CB Q2' Q3 B5
  go_wp2_with fail
  refine (cintw_any n w6 n0 n1).mono ?_
  rintro e w7 ⟨x7, rfl, o7, b7⟩
  obtain ⟨a7, c7, rfl, q7⟩ := sq_of_row rfl (cnumB_wfs (zig n) hz) o7
  have B7 := hide (below_step B6.out b7)
  have Q7 := hide q7
  have Q2' := hide (Q2.out.below b7)
  have Q3 := hide (Q3'.out.below b7)
  clear b7 q7 o7 Q2 Q3' B6
  go_wp2_with fail
  refine (refint_any n w7 n0 n1).mono ?_
  rintro e w8 ⟨x8, rfl, o8, b8⟩
  obtain ⟨a8, c8, rfl, q8⟩ := sq_of_row rfl (cnumB_wfs (zig n) hz) o8
  have B8' := hide (below_step B7.out b8)
  have CB := hide (bytes_sq (Q7.out.below b8) q8 (by omega))
  have Q2 := hide (Q2'.out.below b8)
  have Q3' := hide (Q3.out.below b8)
  clear b8 q8 o8 Q2' Q3 B7 Q7
  go_wp2_with fail
  refine CB.out.mono ?_
  rintro e w9 ⟨rfl, m9, e9⟩
  have B9 := hide (below_drewN B8'.out m9)
  have Q2' := hide (Q2.out.drew m9)
  have Q3 := hide (Q3'.out.drew m9)
  rw [← e9] at B9 Q2' Q3
  clear e9 CB Q2 Q3' B8'
  go_wp2_with fail
  refine (CT.out (IN.out w9 B9.out).1).mono ?_
  rintro e w10 ⟨x10, rfl, o10, b10⟩
  obtain ⟨a10, c10, rfl, q10⟩ := sq_of_row rfl WT.out o10
  have B10 := hide (below_step B9.out b10)
  have Q10 := hide q10
  have Q2 := hide (Q2'.out.below b10)
  have Q3' := hide (Q3.out.below b10)
  clear b10 q10 o10 Q2' Q3 B9
  go_wp2_with fail
  refine (RT.out (H.out.below (BA.out _ B10.out))).mono ?_
  rintro e w11 ⟨x11, rfl, o11, b11⟩
  obtain ⟨a11, c11, rfl, q11⟩ := sq_of_row rfl WT.out o11
  have B11 := hide (below_step B10.out b11)
  have CB := hide (bytes_sq (Q10.out.below b11) q11 (by omega))
  have Q2' := hide (Q2.out.below b11)
  have Q3 := hide (Q3'.out.below b11)
  clear b11 q11 o11 Q2 Q3' B10 Q10
  go_wp2_with fail
  refine CB.out.mono ?_
  rintro e w12 ⟨rfl, m12, e12⟩
  have B12 := hide (below_drewN B11.out m12)
  have Q2 := hide (Q2'.out.drew m12)
  have Q3' := hide (Q3.out.drew m12)
  rw [← e12] at B12 Q2 Q3'
  clear e12 CB Q2' Q3 B11
  go_wp2_with fail
  refine (awake_any w12).mono ?_
  rintro e w13 ⟨rfl, b13⟩
  have B13 := hide (below_step B12.out b13)
  have Q2' := hide (Q2.out.below b13)
  have Q3 := hide (Q3'.out.below b13)
  clear b13 Q2 Q3' B12
  go_wp2_with fail
  refine (CSum.out (IN.out w13 B13.out).1 (HT.out.below (BA.out _ B13.out))).mono ?_
  rintro e wx ⟨rfl, rfl⟩
  go_wp2_with fail
  refine (RSum.out (H.out.below (BA.out _ B13.out))).mono ?_
  rintro e wx ⟨rfl, rfl⟩
  go_wp2_with fail
  refine (bytes_sq Q2'.out Q3.out (by show F1.length ≤ _; omega)).mono ?_
  rintro e w14 ⟨rfl, m14, e14⟩
  have B14 := hide (below_drewN B13.out m14)
  rw [← e14] at B14
  clear e14 Q2' Q3 B13
  obtain ⟨k1, k2, k3⟩ := IN.out w14 B14.out
  have CK := hide (kept_sq 71 k1 (H.out.below (BA.out _ B14.out)) (by omega) k2 k3)
  clear k1 k2 k3
  go_wp2_with fail
  refine CK.out.mono ?_
  rintro e w15 ⟨rfl, m15, rfl⟩
  go_wp2_with fail
  go_ret
  exact ⟨rfl, below_drewN (BA.out _ B14.out) _⟩

theorem gTab : Tryd.prog.globalNamed "purse/codec.halves" = some 0 := by kernel_rfl
theorem gTabType : (Tryd.prog.globals[0]?).map (·.type) = some 58 := by kernel_rfl
theorem cellsT : Tryd.prog.cellsOf 58 = 16 := by kernel_rfl
theorem cellsE : Tryd.prog.cellsOf 33 = 1 := by kernel_rfl
theorem table {W : World} (h : laidMetH Tryd.prog Rows.codecWritesRow.laid W) : Tab W := by
  have t : Lib.TabIs Tryd.prog W "purse/codec.halves" .u32 Crc.tab := Lib.tabIs_of_head (rest := []) gTab gTabType Tryd.underlying58 Tryd.underlying33 cellsE cellsT h
  intro j hj
  rw [t.cell gTab j hj]
  simp [List.getD]
theorem contract (H : Type) (enc : TypeId × Value → H) (W : World) (base : Nat) (args : Array Value) (ds gs : List (DataW H)) (before : List MemPlace)
    (hval0 : ∀ (j : Nat) t v, Tryd.f3.params[j]? = some t → args[j]? = some v → Value.okWide Tryd.prog W .any base t v)
    (hW : DataW.Whole enc Tryd.prog Tryd.f3.params.toList Rows.codecWritesSpec.vars false W args.toList ds gs before)
    (hsz0 : (DataW.weightsEach Tryd.prog (Tryd.f3.params.toList ++ Rows.codecWritesSpec.plain.varTypes Tryd.prog) (ds ++ gs)).all (· ≤ reachBytes) = true) (hL : laidMetH Tryd.prog Rows.codecWritesRow.laid W) :
    Calls Tryd.prog 3 args W fun e W' => ∃ v, e = .returned v ∧ Rows.codecWritesSpec.post enc Tryd.prog Tryd.f3 false true false false W args v W' := by
  have hsz : (DataW.weightsEach Tryd.prog (Tryd.f3.params.toList ++ Rows.codecWritesSpec.plain.varTypes Tryd.prog) (ds ++ gs)).all (· ≤ reachBytes) = true := hsz0
  have hval : ∀ (j : Nat) t v, Tryd.f3.params[j]? = some t → args[j]? = some v → Value.okWide Tryd.prog W .any base t v := hval0
  have hW' := hW
  obtain ⟨p, q, hA0, hV, rfl, hfz, hnd⟩ := hW
  have hA : DataW.TrodAll enc Tryd.prog W 0 (fun _ => true) true Tryd.f3.params.toList args.toList ds p := hA0
  rw [Tryd.params3] at hA hval hsz
  obtain ⟨v0, vs0, d0, ds0, p0, q0, hargs, rfl, rfl, h0, r0⟩ := trodAll_cons hA
  obtain ⟨v1, vs1, d1, ds1, p1, q1, rfl, rfl, rfl, h1, r1⟩ := trodAll_cons r0
  obtain ⟨v2, vs2, d2, ds2, p2, q2, rfl, rfl, rfl, h2, r2⟩ := trodAll_cons r1
  obtain ⟨rfl, rfl, rfl⟩ := trodAll_nil r2
  obtain rfl : args = #[v0, v1, v2] := by cases args; simp_all
  obtain ⟨rfl, rfl⟩ := trodVars_none hV
  have lt0 : ∀ x ∈ p0, x.block < W.heap.size := by obtain ⟨m, hm⟩ := h0; exact DataW.trod_lt m _ _ _ hm
  obtain ⟨v, rfl, vb⟩ := open_u64 (hval 0 22 v0 rfl rfl) h0
  have lt1 : ∀ x ∈ p1, x.block < W.heap.size := by obtain ⟨m, hm⟩ := h1; exact DataW.trod_lt m _ _ _ hm
  obtain ⟨n, rfl, nb⟩ := open_i64 (hval 1 3 v1 rfl rfl) h1
  have lt2 : ∀ x ∈ p2, x.block < W.heap.size := by obtain ⟨m, hm⟩ := h2; exact DataW.trod_lt m _ _ _ hm
  obtain ⟨a, len, cap, bs, rfl, h⟩ := open_sq_sized (hval 2 23 v2 rfl rfl) h2 (fun elems spare e => by have h := hsz; rw [e] at h; exact sized_slice h (j := 2) (t := 23) (e := 5) rfl rfl Tryd.underlying23)
  clear hA0 hval0
  refine (walk v n vb.1 vb.2 nb.1 nb.2 h.1 h.2 (table hL)).mono fun e W' ⟨he, bel⟩ => ?_
  subst he
  exact ⟨_, rfl, _, _, _, [], _, [], hW', trodAll_mk1 (shut_bool Tryd.underlying4 _), (trodAll_cons_mk (Below.trod laidOut (by kernel_rfl) (of_decide_eq_true (by kernel_rfl)) h0 bel lt0) (trodAll_cons_mk (Below.trod laidOut (by kernel_rfl) (of_decide_eq_true (by kernel_rfl)) h1 bel lt1) (trodAll_cons_mk (Below.trod laidOut (by kernel_rfl) (of_decide_eq_true (by kernel_rfl)) h2 bel lt2) trodAll_mk0))), rfl, bel.frame _, fun h => by cases h⟩

noncomputable def laidWorld (os : Os) : World :=
  { World.holding Tryd.prog os ⟨#[], #[], []⟩ with heap := (World.holding Tryd.prog os ⟨#[], #[], []⟩).heap.modify 0 fun
      | .cells _ t frozen => .cells #[.int .u32 0, .int .u32 498536548, .int .u32 997073096, .int .u32 651767980, .int .u32 1994146192, .int .u32 1802195444, .int .u32 1303535960, .int .u32 1342533948, .int .u32 3988292384, .int .u32 4027552580, .int .u32 3604390888, .int .u32 3412177804, .int .u32 2607071920, .int .u32 2262029012, .int .u32 2685067896, .int .u32 3183342108] t frozen
      | o => o }
theorem laid_met (os : Os) : laidMet Tryd.prog Rows.codecWritesRow.laid ((laidWorld os).forCall (fun _ _ => 0) ⟨#[], #[Value.int .u64 0, Value.int .i64 0, Value.slice none 0 0], []⟩).memory :=
  laidMet_of_run' 8 (by kernel_rfl) (by kernel_rfl)
theorem reads (os : Os) {H : Type} (enc : TypeId × Value → H) : ∃ places, DataW.whole enc Tryd.prog ((laidWorld os).forCall (fun _ _ => 0) ⟨#[], #[Value.int .u64 0, Value.int .i64 0, Value.slice none 0 0], []⟩).memory Tryd.f3.params.toList Rows.codecWritesSpec.vars false #[Value.int .u64 0, Value.int .i64 0, Value.slice none 0 0].toList 8 = some ([.lit (.int .u64 0), .lit (.int .i64 0), .nil], [], places) :=
  ⟨[], by kernel_rfl⟩
set_option maxRecDepth 100000 in
theorem lifted (os : Os) (started : os.Started) (H : Type) (enc : TypeId × Value → H) (F : Stop.Interp) :
    ReturnsInHanded {} Tryd.checked os 3 .any ((OpenSpec.ofChange Rows.codecWritesSpec).preRow enc Tryd.prog Tryd.f3 Rows.codecWritesRow.domain false Rows.codecWritesRow.laid) (((OpenSpec.ofChange Rows.codecWritesSpec).at F).post enc Tryd.prog Tryd.f3 false true false false) := by
  obtain ⟨places, hx⟩ := reads os enc
  refine returnsInHanded_of_row (C := Tryd.checked) (s := OpenSpec.ofChange Rows.codecWritesSpec) own started (by kernel_rfl) Tryd.func3
    (witness_row_at (enc := enc) (C := Tryd.checked) false (laidWorld os) #[Value.int .u64 0, Value.int .i64 0, Value.slice none 0 0] rfl (by kernel_rfl) (by kernel_rfl) (by kernel_rfl)
      (OpenSpec.preRow_of_cond 8 hx (by kernel_rfl) (fun k hk => by cases hk) (by kernel_rfl) (laid_met os))) ?_
  intro W base args ds gs before hval hW _ _ hsz hL _ _
  exact contract H enc W base args ds gs before hval hW hsz hL

theorem said : Rows.CodecWritesSaid :=
  OpenClaim.holds_of_cond 3 Tryd.f3 rfl rfl rfl rfl rfl rfl rfl ⟨rfl, rfl, rfl, rfl, rfl⟩ rfl rfl rfl rfl rfl (by kernel_rfl) Tryd.func3 (by kernel_rfl)
    (of_decide_eq_true (by kernel_rfl)) (by unfold Func.isWrapper; first | (rw [if_pos (by decide +kernel)]; kernel_rfl) | (rw [if_neg (by decide +kernel)]; exact ⟨rfl, rfl⟩))
    (fun os started H enc _ F => by rw [OpenClaim.pre_eq_preRow]; exact lifted os started H enc F)
theorem plain (f : FuncId) (fn : Func) (hf : Tryd.pinned.checked.prog.funcNamed "purse/purselaw02.CodecWrites" = some f) (hfn : Tryd.pinned.checked.prog.funcs[f]? = some fn) :
    false = Tryd.pinned.checked.prog.looks [] ∧ ∀ (j : Nat) t, fn.params[j]? = some t → Tryd.pinned.checked.prog.wantsStandIn t = false := by
  obtain rfl : f = 3 := Option.some.inj ((show Tryd.prog.funcNamed "purse/purselaw02.CodecWrites" = some 3 by kernel_rfl).symm.trans hf) |>.symm
  obtain rfl : fn = Tryd.f3 := (Option.some.inj (Tryd.func3.symm.trans hfn)).symm
  refine ⟨by kernel_rfl, fun j t ht => ?_⟩
  rw [Tryd.params3] at ht
  have hmem := Array.mem_of_getElem? ht
  have ht2 : t = 22 ∨ t = 3 ∨ t = 23 := by simpa using hmem
  rcases ht2 with rfl | rfl | rfl
  · exact (show Tryd.prog.wantsStandIn 22 = false by kernel_rfl)
  · exact (show Tryd.prog.wantsStandIn 3 = false by kernel_rfl)
  · exact (show Tryd.prog.wantsStandIn 23 = false by kernel_rfl)
theorem card : Rows.CodecWritesCardSaid :=
  Claim7.holds_tied_plain_at .later [] _ _ _ _ said (fun _ h => by cases h) (by kernel_rfl) (fun _ h => by cases h) codecWrites_row_tie rfl ⟨rfl, rfl⟩ (by kernel_rfl) rfl plain (by kernel_rfl)
#print axioms card
end CodecWrites
theorem codecWrites_holds : Rows.CodecWritesCardSaid := CodecWrites.card
end Go.Proofs.YtadjdiocipahhaaDoor
