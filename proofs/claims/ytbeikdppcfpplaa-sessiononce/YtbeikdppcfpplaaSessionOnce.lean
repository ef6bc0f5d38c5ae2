/- SessionOnce: a number that has ended never begins again, nor behind a Join with whatever other table, on either side; no condition. -/
import Derived.Test.YtbeikdppcfpplaaSesHelp
import Derived.Test.YtbeikdppcfpplaaSesJoin
import Derived.Test.YtbeikdppcfpplaaSesRef
import Derived.Test.YtbeikdppcfpplaaSesLawMath
namespace Go.Proofs.Ytbeikdppcfpplaa
namespace SessionOnce
open Go.ChangeShapes Go.WideShapes Go.ChangeAt Go.RowKit Sn
set_option linter.unusedVariables false

/-- the table in which the number has ended -/
structure Ends (C : List Mk) (c q : Int) (x : An) : Prop where
  right : Right C
  at_ : lkM C c = some ⟨c, q, false, x⟩
  e : beginE C c q = 0
  f : beginF C c q = false
theorem ends_of {l : List Mk} {c q : Int} {x : An} (h : beginF l c q = true) : openE (beginL l c q) c q = 0 ∧ Ends (endL (beginL l c q) c q x) c q x := by
  obtain ⟨e0, hR, hc, hq, eL, hm⟩ := fresh_of h
  have hRb := right_with hR hm
  have hlb : lkM (withL l (opened c q)) c = some (opened c q) := lk_with_same hR hm
  have eo := openE_of hRb hlb
  rw [eL]
  refine ⟨eo, ?_⟩
  have hm2 : mayB ⟨c, q, false, x⟩ = true := may_ended x hc ⟨by omega, hq.2⟩
  have e : endL (withL l (opened c q)) c q x = withL (withL l (opened c q)) ⟨c, q, false, x⟩ := by unfold endL; rw [if_pos eo]
  rw [e]
  have h1 := right_with hRb hm2
  have h2 : lkM (withL (withL l (opened c q)) ⟨c, q, false, x⟩) c = some ⟨c, q, false, x⟩ := lk_with_same hRb hm2
  obtain ⟨h3, h4⟩ := begin_at h1 hc hq h2
  exact ⟨h1, h2, by rw [h3]; simp, by rw [h4]; simp⟩
theorem Ends.join {C o : List Mk} {c q : Int} {x : An} (h : Ends C c q x) (ho : Right o) : beginF (joinL C o) c q = false ∧ beginF (joinL o C) c q = false := by
  constructor
  · obtain ⟨z, hz, hq⟩ := pick_ge (g := lkM o c) (q := q) h.at_ (Int.le_refl _)
    exact beginF_low (by rw [look_join h.right ho]; exact hz) hq
  · obtain ⟨z, hz, hq⟩ := pick_ge' (f := lkM o c) (q := q) h.at_ (Int.le_refl _)
    exact beginF_low (by rw [look_join ho h.right]; exact hz) hq
set_option maxRecDepth 100000 in
set_option maxHeartbeats 2000000 in
theorem walk {w : World} {a a' : Option Addr} {n cp n' cp' : Nat} {l o : List Mk} {c q : Int} {x : An} (h : Ms w a n l) (hno : a = none → cp = 0) (h' : Ms w a' n' o) (hno' : a' = none → cp' = 0) :
    Calls Try.prog 5 #[.slice a n cp, .int .i64 c, .int .i64 q, aval x, .slice a' n' cp'] w fun e w' => e = .returned (.bool true) ∧ Below w.heap.size w w' := by
  have H := hide h
  have N := hide hno
  have H' := hide h'
  have N' := hide hno'
  clear h hno h' hno'
  have A0 : Hid (aval x = .agg #[.int .i64 x.e, .int .i64 x.v, .int .i64 x.lo, .int .i64 x.hi]) := rfl
  unfold aval
  go_enter Try.func5, Try.ntmps5
  go_wp2_with fail
  refine (awake_any _).mono ?_
  rintro e w1 ⟨rfl, hb1⟩
  have HB1 : Hid (Below w.heap.size w w1) := (Below.alloc (Below.refl _ _) (Nat.le_refl _) _).trans (hb1.mono (by simp))
  have HX1 : Hid (w1.heap[w.heap.size]? = some (.cells #[.int .i64 x.e, .int .i64 x.v, .int .i64 x.lo, .int .i64 x.hi] 25 (0, 0))) := (hb1.block _ (by simp)).trans (heap_alloc_new w _)
  clear hb1
  go_wp2_with fail
  refine (own_l (H.out.below HB1.out) N.out).mono ?_
  rintro e w2 ⟨g2, rfl, hb2, ho2⟩
  have HB2 : Hid (Below w.heap.size w w2) := HB1.out.trans (hb2.mono HB1.out.size)
  have HX2 : Hid (w2.heap[w.heap.size]? = _) := (hb2.block _ (Array.getElem?_eq_some_iff.1 HX1.out).1).trans HX1.out
  have HO2 := hide ho2
  clear hb2 ho2 HB1 HX1
  go_wp2_with fail
  refine (begin_any HO2.out.ms).mono ?_
  rintro e w3 ⟨a3, n3, c3, rfl, hm3, hb3⟩
  have HB3 : Hid (Below w.heap.size w w3) := HB2.out.trans (hb3.mono HB2.out.size)
  have HX3 : Hid (w3.heap[w.heap.size]? = _) := (hb3.block _ (Array.getElem?_eq_some_iff.1 HX2.out).1).trans HX2.out
  have HM3 := hide hm3
  clear hb3 hm3 HO2 HB2 HX2
  cases hf : beginF l c q with
  | false =>
    obtain ⟨r, er⟩ : ∃ r, r = beginE l c q := ⟨_, rfl⟩
    rw [← er]
    clear hf er
    by_cases hr : r = 0
    · subst hr
      go_wp2_with fail
      go_returns
      exact ⟨rfl, HB3.out⟩
    · have hr2 : (r != 0) = true := by simpa using hr
      go_wp2_with fail
      go_returns
      exact ⟨rfl, HB3.out⟩
  | true =>
    rw [(fresh_of hf).1]
    obtain ⟨eo, en⟩ := ends_of (x := x) hf
    have EO := hide eo
    have EN := hide en
    clear hf eo en
    obtain ⟨L, eL⟩ : ∃ L, L = beginL l c q := ⟨_, rfl⟩
    rw [← eL] at HM3 EO EN
    clear eL
    obtain ⟨C, eC⟩ : ∃ C, C = endL L c q x := ⟨_, rfl⟩
    rw [← eC] at EN
    have EC := hide eC
    clear eC
    have z0 : w3.cell? ⟨w.heap.size, 0, none⟩ = some (.int .i64 x.e) := by rw [cell_of_row _ _ _ _ _ _ HX3.out]; rfl
    have z1 : w3.cell? ⟨w.heap.size, 1, none⟩ = some (.int .i64 x.v) := by rw [cell_of_row _ _ _ _ _ _ HX3.out]; rfl
    have z2 : w3.cell? ⟨w.heap.size, 2, none⟩ = some (.int .i64 x.lo) := by rw [cell_of_row _ _ _ _ _ _ HX3.out]; rfl
    have z3 : w3.cell? ⟨w.heap.size, 3, none⟩ = some (.int .i64 x.hi) := by rw [cell_of_row _ _ _ _ _ _ HX3.out]; rfl
    have EA := hide (end_any (cp := c3) (c := c) (q := q) (x := x) HM3.out)
    rw [A0.out, EO.out, ← EC.out] at EA
    clear A0 EC EO
    go_wp2_with fail
    refine EA.out.mono ?_
    rintro e w4 ⟨a4, n4, c4, rfl, hm4, hb4⟩
    have HB4 : Hid (Below w.heap.size w w4) := HB3.out.trans (hb4.mono HB3.out.size)
    have HX4 : Hid (w4.heap[w.heap.size]? = _) := (hb4.block _ (Array.getElem?_eq_some_iff.1 HX3.out).1).trans HX3.out
    have HM4 := hide hm4
    clear hb4 hm4 z0 z1 z2 z3 EA HB3 HX3 HM3
    have FI := hide (find_any (cp := c4) (c := c) HM4.out)
    rw [find_ok EN.out.right, EN.out.at_] at FI
    unfold mval at FI
    simp only [Option.getD_some, Option.isSome_some] at FI
    go_wp2_with fail
    refine FI.out.mono ?_
    rintro e w5 ⟨rfl, hb5⟩
    have HB5 : Hid (Below w.heap.size w w5) := HB4.out.trans (hb5.mono HB4.out.size)
    have HX5 : Hid (w5.heap[w.heap.size]? = some (.cells #[.int .i64 x.e, .int .i64 x.v, .int .i64 x.lo, .int .i64 x.hi] 25 (0, 0))) := (hb5.block _ (Array.getElem?_eq_some_iff.1 HX4.out).1).trans HX4.out
    have HM5 := hide (HM4.out.below hb5)
    clear hb5 HB4 HX4 HM4 FI
    have HB6 := hide (HB5.out.alloc HB5.out.size (.cells #[.int .i64 c, .int .i64 q, .bool false, .int .i64 x.e, .int .i64 x.v, .int .i64 x.lo, .int .i64 x.hi] 29))
    have HM6 := hide (HM5.out.below (Below.alloc (Below.refl _ _) (Nat.le_refl _) (.cells #[.int .i64 c, .int .i64 q, .bool false, .int .i64 x.e, .int .i64 x.v, .int .i64 x.lo, .int .i64 x.hi] 29)))
    have HX6 : Hid ((w5.alloc (.cells #[.int .i64 c, .int .i64 q, .bool false, .int .i64 x.e, .int .i64 x.v, .int .i64 x.lo, .int .i64 x.hi] 29)).heap[w.heap.size]? = some (.cells #[.int .i64 x.e, .int .i64 x.v, .int .i64 x.lo, .int .i64 x.hi] 25 (0, 0))) := (Below.heap_alloc _ _ _ (Array.getElem?_eq_some_iff.1 HX5.out).1).trans HX5.out
    have z0 : (w5.alloc (.cells #[.int .i64 c, .int .i64 q, .bool false, .int .i64 x.e, .int .i64 x.v, .int .i64 x.lo, .int .i64 x.hi] 29)).cell? ⟨w.heap.size, 0, none⟩ = some (.int .i64 x.e) := by rw [cell_of_row _ _ _ _ _ _ HX6.out]; rfl
    have z1 : (w5.alloc (.cells #[.int .i64 c, .int .i64 q, .bool false, .int .i64 x.e, .int .i64 x.v, .int .i64 x.lo, .int .i64 x.hi] 29)).cell? ⟨w.heap.size, 1, none⟩ = some (.int .i64 x.v) := by rw [cell_of_row _ _ _ _ _ _ HX6.out]; rfl
    have z2 : (w5.alloc (.cells #[.int .i64 c, .int .i64 q, .bool false, .int .i64 x.e, .int .i64 x.v, .int .i64 x.lo, .int .i64 x.hi] 29)).cell? ⟨w.heap.size, 2, none⟩ = some (.int .i64 x.lo) := by rw [cell_of_row _ _ _ _ _ _ HX6.out]; rfl
    have z3 : (w5.alloc (.cells #[.int .i64 c, .int .i64 q, .bool false, .int .i64 x.e, .int .i64 x.v, .int .i64 x.lo, .int .i64 x.hi] 29)).cell? ⟨w.heap.size, 3, none⟩ = some (.int .i64 x.hi) := by rw [cell_of_row _ _ _ _ _ _ HX6.out]; rfl
    have BE := hide (begin_any (cp := c4) (c := c) (q := q) HM6.out)
    rw [EN.out.e, EN.out.f] at BE
    clear HX5 HX6 HM5 HB5
    go_wp2_with fail
    refine BE.out.mono ?_
    rintro e w7 ⟨a7, n7, c7, rfl, hm7, hb7⟩
    have HB7 : Hid (Below w.heap.size w w7) := HB6.out.trans (hb7.mono HB6.out.size)
    have HM7 := hide (HM6.out.below hb7)
    clear hb7 hm7 HB6 HM6 BE z0 z1 z2 z3
    go_wp2_with fail
    refine (own_l (H'.out.below HB7.out) N'.out).mono ?_
    rintro e w8 ⟨g8, rfl, hb8, ho8⟩
    have HB8 : Hid (Below w.heap.size w w8) := HB7.out.trans (hb8.mono HB7.out.size)
    have HM8 := hide (HM7.out.below hb8)
    have HO8 := hide ho8
    clear hb8 ho8 HB7 HM7
    go_wp2_with fail
    refine (join_any HM8.out HO8.out.ms).mono ?_
    rintro e w9 ⟨a9, n9, c9, rfl, hm9, hb9⟩
    have HB9 : Hid (Below w.heap.size w w9) := HB8.out.trans (hb9.mono HB8.out.size)
    have HM9 := hide (HM8.out.below hb9)
    have HJ9 := hide hm9
    clear hb9 hm9 HB8 HM8 HO8
    go_wp2_with fail
    refine (own_l (H'.out.below HB9.out) N'.out).mono ?_
    rintro e w10 ⟨g10, rfl, hb10, ho10⟩
    have HB10 : Hid (Below w.heap.size w w10) := HB9.out.trans (hb10.mono HB9.out.size)
    have HM10 := hide (HM9.out.below hb10)
    have HJ10 := hide (HJ9.out.below hb10)
    have HO10 := hide ho10
    clear hb10 ho10 HB9 HM9 HJ9
    go_wp2_with fail
    refine (join_any HO10.out.ms HM10.out).mono ?_
    rintro e w11 ⟨a11, n11, c11, rfl, hm11, hb11⟩
    have HB11 : Hid (Below w.heap.size w w11) := HB10.out.trans (hb11.mono HB10.out.size)
    have HJ11 := hide (HJ10.out.below hb11)
    have HK11 := hide hm11
    clear hb11 hm11 HB10 HM10 HJ10 HO10
    cases hro : rightB 0 o with
    | false =>
      have j1 : joinE C o = 21 := by unfold joinE; rw [hro, Bool.and_false]; rfl
      have j2 : joinE o C = 21 := by unfold joinE; rw [hro, Bool.false_and]; rfl
      rw [j1, j2]
      have RO := hide (rright_any (c := cp') (H'.out.below HB11.out))
      rw [hro] at RO
      clear hro j1 j2
      go_wp2_with fail
      refine RO.out.mono ?_
      rintro e w12 ⟨rfl, hb12⟩
      have HB12 : Hid (Below w.heap.size w w12) := HB11.out.trans (hb12.mono HB11.out.size)
      clear hb12
      go_wp2_with fail
      go_returns
      exact ⟨by simp, HB12.out⟩
    | true =>
      rw [joinE_ok EN.out.right hro, joinE_ok hro EN.out.right]
      have EJ := hide (EN.out.join hro)
      clear hro
      have B1 := hide (begin_any (cp := c9) (c := c) (q := q) HJ11.out)
      rw [EJ.out.1] at B1
      generalize beginE (joinL C o) c q = r1 at B1
      go_wp2_with fail
      refine B1.out.mono ?_
      rintro e w12 ⟨a12, n12, c12, rfl, hm12, hb12⟩
      have HB12 : Hid (Below w.heap.size w w12) := HB11.out.trans (hb12.mono HB11.out.size)
      have B2 := hide (begin_any (cp := c11) (c := c) (q := q) (HK11.out.below hb12))
      rw [EJ.out.2] at B2
      generalize beginE (joinL o C) c q = r2 at B2
      clear hb12 hm12 HB11 HJ11 HK11 B1
      go_wp2_with fail
      refine B2.out.mono ?_
      rintro e w13 ⟨a13, n13, c13, rfl, hm13, hb13⟩
      have HB13 : Hid (Below w.heap.size w w13) := HB12.out.trans (hb13.mono HB12.out.size)
      clear hb13 hm13 HB12 B2
      go_wp2_with fail
      go_returns
      exact ⟨by simp, HB13.out⟩

set_option maxRecDepth 100000 in
theorem lifted (os : Os) (started : os.Started) (H : Type) (enc : TypeId × Value → H) :
    ReturnsInHanded {} Try.checked os 5 .any (Rows.sessionOnceSpec.pre6 enc Try.prog Try.f5 Rows.sessionOnceRow.domain false) (Rows.sessionOnceSpec.post enc Try.prog Try.f5 false true false false) := by
  refine returnsInHanded_of_change_sized (C := Try.checked) own started (by kernel_rfl) Try.func5
    (ChangeSpec.witness6 (enc := enc) (C := Try.checked) false ⟨#[], #[.slice none 0 0, .int .i64 0, .int .i64 0, .agg #[.int .i64 0, .int .i64 0, .int .i64 0, .int .i64 0], .slice none 0 0], []⟩ 8 (by kernel_rfl) (by kernel_rfl) (by kernel_rfl) (by kernel_rfl)) ?_
  intro W base args ds gs before hval0 hW hcnd hsz0 _
  have hsz : (DataW.weightsEach Try.prog (Try.f5.params.toList ++ Rows.sessionOnceSpec.plain.varTypes Try.prog) (ds ++ gs)).all (· ≤ reachBytes) = true := hsz0
  have hval : ∀ (j : Nat) t v, Try.f5.params[j]? = some t → args[j]? = some v → Value.okWide Try.prog W .any base t v := hval0
  have hW' := hW
  obtain ⟨p, q, hA0, hV, rfl, hfz, hnd⟩ := hW
  have hA : DataW.TrodAll enc Try.prog W 0 (fun _ => true) true Try.f5.params.toList args.toList ds p := hA0
  rw [Try.params5] at hA hval hsz
  obtain ⟨v0, vs0, d0, ds0, p0, q0, hargs, rfl, rfl, h0, r0⟩ := trodAll_cons hA
  obtain ⟨v1, vs1, d1, ds1, p1, q1, rfl, rfl, rfl, h1, r1⟩ := trodAll_cons r0
  obtain ⟨v2, vs2, d2, ds2, p2, q2, rfl, rfl, rfl, h2, r2⟩ := trodAll_cons r1
  obtain ⟨v3, vs3, d3, ds3, p3, q3, rfl, rfl, rfl, h3, r3⟩ := trodAll_cons r2
  obtain ⟨v4, vs4, d4, ds4, p4, q4, rfl, rfl, rfl, h4, r4⟩ := trodAll_cons r3
  obtain ⟨rfl, rfl, rfl⟩ := trodAll_nil r4
  obtain rfl : args = #[v0, v1, v2, v3, v4] := by cases args; simp_all
  obtain ⟨rfl, rfl⟩ := trodVars_none hV
  have lt0 : ∀ x ∈ p0, x.block < W.heap.size := by obtain ⟨m, hm⟩ := h0; exact DataW.trod_lt m _ _ _ hm
  obtain ⟨a, n, cp, l, rfl, k0, o0⟩ := open_marks_held (hval 0 22 v0 rfl rfl) h0 (fun n hn => by have h := List.all_eq_true.1 hsz n (DataW.weights_mem_each (j := 0) rfl rfl n hn); simpa using h)
  have lt1 : ∀ x ∈ p1, x.block < W.heap.size := by obtain ⟨m, hm⟩ := h1; exact DataW.trod_lt m _ _ _ hm
  obtain ⟨c, rfl, hc⟩ := open_i64 (hval 1 3 v1 rfl rfl) h1
  have lt2 : ∀ x ∈ p2, x.block < W.heap.size := by obtain ⟨m, hm⟩ := h2; exact DataW.trod_lt m _ _ _ hm
  obtain ⟨q, rfl, hq⟩ := open_i64 (hval 2 3 v2 rfl rfl) h2
  have lt3 : ∀ x ∈ p3, x.block < W.heap.size := by obtain ⟨m, hm⟩ := h3; exact DataW.trod_lt m _ _ _ hm
  obtain ⟨x, rfl, hx⟩ := open_answer_held (hval 3 25 v3 rfl rfl) h3 (fun n hn => by have h := List.all_eq_true.1 hsz n (DataW.weights_mem_each (j := 3) rfl rfl n hn); simpa using h)
  have lt4 : ∀ x ∈ p4, x.block < W.heap.size := by obtain ⟨m, hm⟩ := h4; exact DataW.trod_lt m _ _ _ hm
  obtain ⟨a', n', cp', l', rfl, k1, o1⟩ := open_marks_held (hval 4 22 v4 rfl rfl) h4 (fun n hn => by have h := List.all_eq_true.1 hsz n (DataW.weights_mem_each (j := 4) rfl rfl n hn); simpa using h)
  clear hA0 hval0
  refine (walk k0 o0 k1 o1).mono fun e W' ⟨he, bel⟩ => ?_
  subst he
  exact ⟨_, rfl, _, _, _, [], _, [], hW', trodAll_mk1 (shut_bool Try.underlying4 _), (trodAll_cons_mk (Below.trod laidOut (by kernel_rfl) (of_decide_eq_true (by kernel_rfl)) h0 bel lt0) (trodAll_cons_mk (Below.trod laidOut (by kernel_rfl) (of_decide_eq_true (by kernel_rfl)) h1 bel lt1) (trodAll_cons_mk (Below.trod laidOut (by kernel_rfl) (of_decide_eq_true (by kernel_rfl)) h2 bel lt2) (trodAll_cons_mk (Below.trod laidOut (by kernel_rfl) (of_decide_eq_true (by kernel_rfl)) h3 bel lt3) (trodAll_cons_mk (Below.trod laidOut (by kernel_rfl) (of_decide_eq_true (by kernel_rfl)) h4 bel lt4) trodAll_mk0))))), rfl, bel.frame _, fun h => by cases h⟩

theorem over : Rows.sessionOnceRow.holds Try.pinned (OpenSpec.ofChange Rows.sessionOnceSpec) :=
  OpenClaim.holds_of_wide 5 Try.f5 rfl rfl rfl rfl rfl rfl rfl ⟨rfl, rfl, rfl, rfl, rfl⟩ rfl rfl rfl rfl rfl (by kernel_rfl) Try.func5 (by kernel_rfl)
    (of_decide_eq_true (by kernel_rfl)) (by unfold Func.isWrapper; first | (rw [if_pos (by decide +kernel)]; kernel_rfl) | (rw [if_neg (by decide +kernel)]; exact ⟨rfl, rfl⟩))
    (fun os started H enc _ => lifted os started H enc)

theorem proved : Rows.SessionOnceSaid := over
#print axioms proved
end SessionOnce
theorem sessionOnce_holds : Rows.SessionOnceSaid := SessionOnce.proved
end Go.Proofs.Ytbeikdppcfpplaa
