/- SessionOthers: what is done for one client changes no other one's mark; no condition. -/
import Derived.Test.YtbeikdppcfpplaaSesHelp
import Derived.Test.YtbeikdppcfpplaaSesLawMath
namespace Go.Proofs.Ytbeikdppcfpplaa
namespace SessionOthers
open Go.ChangeShapes Go.WideShapes Go.ChangeAt Go.RowKit Sn
set_option linter.unusedVariables false

theorem begin_other {l : List Mk} {c q o : Int} (he : beginE l c q = 0) (hc : ¬ o = c) : findM (beginL l c q) o = findM l o := by
  have hR := right_begin he
  obtain ⟨hr, h1, h2, h3, h4⟩ := begin_of he
  rw [find_ok hR, find_ok hr]
  unfold beginL
  rw [if_pos he]
  split
  · exact lk_with_other hr (may_opened ⟨h1, h2⟩ ⟨h3, h4⟩) hc
  · rfl
theorem end_other {l : List Mk} {c q o : Int} {x : An} (he : openE l c q = 0) (hc : ¬ o = c) : findM (endL l c q x) o = findM l o ∧ (endL l c q x).length = l.length := by
  obtain ⟨hr, hl, h1, h2, h3, h4⟩ := open_of he
  have hm := may_ended x ⟨h1, h2⟩ ⟨by omega, h4⟩ (c := c) (s := q)
  have e : endL l c q x = withL l ⟨c, q, false, x⟩ := by unfold endL; rw [if_pos he]
  rw [e, find_ok (right_with hr hm), find_ok hr]
  refine ⟨lk_with_other hr hm hc, ?_⟩
  have := (with_old hr hm (y := opened c q) hl).1
  rw [this]
  simp
set_option maxRecDepth 100000 in
set_option maxHeartbeats 2000000 in
theorem walk {w : World} {a : Option Addr} {n cp : Nat} {l : List Mk} {c q o : Int} {x : An} (h : Ms w a n l) (hno : a = none → cp = 0) :
    Calls Try.prog 8 #[.slice a n cp, .int .i64 c, .int .i64 q, .int .i64 o, aval x] w fun e w' => e = .returned (.bool true) ∧ Below w.heap.size w w' := by
  have H := hide h
  have N := hide hno
  clear h hno
  have A0 : Hid (aval x = .agg #[.int .i64 x.e, .int .i64 x.v, .int .i64 x.lo, .int .i64 x.hi]) := rfl
  unfold aval
  by_cases hco : c = o
  · subst hco
    go_enter Try.func8, Try.ntmps8
    go_wp2_with fail
    refine (awake_any _).mono ?_
    rintro e w1 ⟨rfl, hb1⟩
    have HB1 : Hid (Below w.heap.size w w1) := (Below.alloc (Below.refl _ _) (Nat.le_refl _) _).trans (hb1.mono (by simp))
    clear hb1
    go_wp2_with fail
    refine (awake_any _).mono ?_
    rintro e w2 ⟨rfl, hb2⟩
    have HB2 : Hid (Below w.heap.size w w2) := HB1.out.trans (hb2.mono HB1.out.size)
    clear hb2
    go_wp2_with fail
    go_returns
    exact ⟨rfl, HB2.out⟩
  · have HCO : Hid (¬ o = c) := fun e => hco e.symm
    go_enter Try.func8, Try.ntmps8
    go_wp2_with fail
    refine (awake_any _).mono ?_
    rintro e w1 ⟨rfl, hb1⟩
    have HB1 : Hid (Below w.heap.size w w1) := (Below.alloc (Below.refl _ _) (Nat.le_refl _) _).trans (hb1.mono (by simp))
    have HX1 : Hid (w1.heap[w.heap.size]? = some (.cells #[.int .i64 x.e, .int .i64 x.v, .int .i64 x.lo, .int .i64 x.hi] 25 (0, 0))) := (hb1.block _ (by simp)).trans (heap_alloc_new w _)
    clear hb1
    go_wp2_with fail
    refine (own_l (H.out.below HB1.out) N.out).mono ?_
    rintro e w2 ⟨g2, rfl, hb2, ho2⟩
    have HB2 : Hid (Below w.heap.size w w2) := HB1.out.trans (hb2.mono HB1.out.size)
    have HX2 : Hid (w2.heap[w.heap.size]? = _) := (hb2.block _ (Array.getElem?_eq_some_iff.1 HX1.out).1).trans HX1.out
    have HO2 := hide ho2
    clear hb2 ho2 HB1 HX1
    go_wp2_with fail
    refine (find_any HO2.out.ms).mono ?_
    rintro e w3 ⟨rfl, hb3⟩
    have HB3 : Hid (Below w.heap.size w w3) := HB2.out.trans (hb3.mono HB2.out.size)
    have HX3 : Hid (w3.heap[w.heap.size]? = _) := (hb3.block _ (Array.getElem?_eq_some_iff.1 HX2.out).1).trans HX2.out
    clear hb3 HO2 HB2 HX2
    obtain ⟨f, ef⟩ : ∃ f, f = findM l o := ⟨_, rfl⟩
    rw [← ef]
    have EF := hide ef
    clear ef
    obtain ⟨y, ey⟩ : ∃ y, y = f.getD mk0 := ⟨_, rfl⟩
    rw [← ey]
    have EY := hide ey
    clear ey
    obtain ⟨bf, ebf⟩ : ∃ b, b = f.isSome := ⟨_, rfl⟩
    rw [← ebf]
    have EBF := hide ebf
    clear ebf
    unfold mval
    have HB3a := hide (HB3.out.alloc HB3.out.size (.cells #[.int .i64 y.c, .int .i64 y.s, .bool y.o, .int .i64 y.a.e, .int .i64 y.a.v, .int .i64 y.a.lo, .int .i64 y.a.hi] 29))
    go_wp2_with fail
    refine (own_l (H.out.below HB3a.out) N.out).mono ?_
    rintro e w4 ⟨g4, rfl, hb4, ho4⟩
    have HB4 : Hid (Below w.heap.size w w4) := HB3a.out.trans (hb4.mono HB3a.out.size)
    have HX4 : Hid (w4.heap[w.heap.size]? = _) := (hb4.block _ (by have := (Array.getElem?_eq_some_iff.1 HX3.out).1; simp; omega)).trans ((Below.heap_alloc _ _ _ (Array.getElem?_eq_some_iff.1 HX3.out).1).trans HX3.out)
    have HY4 : Hid (w4.heap[w3.heap.size]? = some (.cells #[.int .i64 y.c, .int .i64 y.s, .bool y.o, .int .i64 y.a.e, .int .i64 y.a.v, .int .i64 y.a.lo, .int .i64 y.a.hi] 29 (0, 0))) := (hb4.block _ (by simp)).trans (heap_alloc_new w3 _)
    have HO4 := hide ho4
    clear hb4 ho4 HB3a HX3 HB3
    go_wp2_with fail
    refine (begin_any HO4.out.ms).mono ?_
    rintro e w5 ⟨a5, n5, c5, rfl, hm5, hb5⟩
    have HB5 : Hid (Below w.heap.size w w5) := HB4.out.trans (hb5.mono HB4.out.size)
    have HX5 : Hid (w5.heap[w.heap.size]? = _) := (hb5.block _ (Array.getElem?_eq_some_iff.1 HX4.out).1).trans HX4.out
    have HY5 : Hid (w5.heap[w3.heap.size]? = _) := (hb5.block _ (Array.getElem?_eq_some_iff.1 HY4.out).1).trans HY4.out
    have HM5 := hide hm5
    clear hb5 hm5 HO4 HB4 HX4 HY4
    by_cases he : beginE l c q = 0
    · have HBO := hide (begin_other he HCO.out)
      rw [he]
      clear he
      obtain ⟨L, eL⟩ : ∃ L, L = beginL l c q := ⟨_, rfl⟩
      rw [← eL] at HM5 HBO
      clear eL
      have z0 : w5.cell? ⟨w.heap.size, 0, none⟩ = some (.int .i64 x.e) := by rw [cell_of_row _ _ _ _ _ _ HX5.out]; rfl
      have z1 : w5.cell? ⟨w.heap.size, 1, none⟩ = some (.int .i64 x.v) := by rw [cell_of_row _ _ _ _ _ _ HX5.out]; rfl
      have z2 : w5.cell? ⟨w.heap.size, 2, none⟩ = some (.int .i64 x.lo) := by rw [cell_of_row _ _ _ _ _ _ HX5.out]; rfl
      have z3 : w5.cell? ⟨w.heap.size, 3, none⟩ = some (.int .i64 x.hi) := by rw [cell_of_row _ _ _ _ _ _ HX5.out]; rfl
      have EN := hide (end_any (cp := c5) (c := c) (q := q) (x := x) HM5.out)
      rw [A0.out] at EN
      clear A0 HX5
      go_wp2_with fail
      refine EN.out.mono ?_
      rintro e w6 ⟨a6, n6, c6, rfl, hm6, hb6⟩
      have HB6 : Hid (Below w.heap.size w w6) := HB5.out.trans (hb6.mono HB5.out.size)
      have HY6 : Hid (w6.heap[w3.heap.size]? = _) := (hb6.block _ (Array.getElem?_eq_some_iff.1 HY5.out).1).trans HY5.out
      have HM6 := hide hm6
      have HM56 := hide (HM5.out.below hb6)
      clear hb6 hm6 z0 z1 z2 z3 EN HB5 HY5 HM5
      go_wp2_with fail
      refine (find_any HM56.out).mono ?_
      rintro e w7 ⟨rfl, hb7⟩
      rw [HBO.out, ← EF.out, ← EY.out, ← EBF.out]
      have HB7 : Hid (Below w.heap.size w w7) := HB6.out.trans (hb7.mono HB6.out.size)
      have HY7 : Hid (w7.heap[w3.heap.size]? = _) := (hb7.block _ (Array.getElem?_eq_some_iff.1 HY6.out).1).trans HY6.out
      have HM67 := hide (HM6.out.below hb7)
      have HL5 : Hid (L.length = n5) := HM56.out.len
      clear hb7 HM6 HM56 HB6 HY6
      unfold mval
      have HB8 := hide (HB7.out.alloc HB7.out.size (.cells #[.int .i64 y.c, .int .i64 y.s, .bool y.o, .int .i64 y.a.e, .int .i64 y.a.v, .int .i64 y.a.lo, .int .i64 y.a.hi] 29))
      have HY8 : Hid ((w7.alloc (.cells #[.int .i64 y.c, .int .i64 y.s, .bool y.o, .int .i64 y.a.e, .int .i64 y.a.v, .int .i64 y.a.lo, .int .i64 y.a.hi] 29)).heap[w3.heap.size]? = _) := (Below.heap_alloc _ _ _ (Array.getElem?_eq_some_iff.1 HY7.out).1).trans HY7.out
      obtain ⟨y0, y1, y2, y3, y4, y5, y6⟩ := mk_row y HY8.out
      have FI := hide (find_any (cp := c6) (c := o) (HM67.out.below ((Below.alloc (Below.refl _ _) (Nat.le_refl _) (.cells #[.int .i64 y.c, .int .i64 y.s, .bool y.o, .int .i64 y.a.e, .int .i64 y.a.v, .int .i64 y.a.lo, .int .i64 y.a.hi] 29)))))
      by_cases hop : openE L c q = 0
      · have HEO := hide (end_other (x := x) hop HCO.out)
        rw [HEO.out.1, HBO.out, ← EF.out, ← EY.out, ← EBF.out] at FI
        have HLN : Hid (n6 = n5) := by show _ = _; rw [← HM67.out.len, HEO.out.2]; exact HL5.out
        obtain rfl := HLN.out
        rw [hop]
        unfold mval at FI
        clear hop HEO HM67 HLN HL5
        go_wp2_with fail
        refine FI.out.mono ?_
        rintro e w9 ⟨rfl, hb9⟩
        have HB9 : Hid (Below w.heap.size w w9) := HB8.out.trans (hb9.mono HB8.out.size)
        have HY9 : Hid (w9.heap[w3.heap.size]? = _) := (hb9.block _ (Array.getElem?_eq_some_iff.1 HY8.out).1).trans HY8.out
        have HB10 := hide (HB9.out.alloc HB9.out.size (.cells #[.int .i64 y.c, .int .i64 y.s, .bool y.o, .int .i64 y.a.e, .int .i64 y.a.v, .int .i64 y.a.lo, .int .i64 y.a.hi] 29))
        have HY10 : Hid ((w9.alloc (.cells #[.int .i64 y.c, .int .i64 y.s, .bool y.o, .int .i64 y.a.e, .int .i64 y.a.v, .int .i64 y.a.lo, .int .i64 y.a.hi] 29)).heap[w3.heap.size]? = _) := (Below.heap_alloc _ _ _ (Array.getElem?_eq_some_iff.1 HY9.out).1).trans HY9.out
        clear hb9 y0 y1 y2 y3 y4 y5 y6
        obtain ⟨y0, y1, y2, y3, y4, y5, y6⟩ := mk_row y HY10.out
        clear HY8 HY9 HY7 HB7 HB8 FI HY10
        go_wp2_with fail
        go_returns
        exact ⟨by simp, HB10.out⟩
      · have e6 : endL L c q x = [] := by unfold endL; rw [if_neg hop]
        have HLN : Hid (n6 = 0) := by show _ = _; rw [← HM67.out.len, e6]; rfl
        obtain rfl := HLN.out
        obtain ⟨r, er⟩ : ∃ r, r = openE L c q := ⟨_, rfl⟩
        rw [← er] at hop ⊢
        have hr2 : (r != 0) = true := by simpa using hop
        clear er e6 HLN HM67 FI
        go_wp2_with fail
        go_returns
        exact ⟨by simp, HB8.out⟩
    · have e5 : beginL l c q = [] := by unfold beginL; rw [if_neg he]
      have HLN : Hid (n5 = 0) := by show _ = _; rw [← HM5.out.len, e5]; rfl
      obtain rfl := HLN.out
      obtain ⟨r, er⟩ : ∃ r, r = beginE l c q := ⟨_, rfl⟩
      rw [← er] at he ⊢
      have hr2 : (r != 0) = true := by simpa using he
      clear er e5 HLN HM5
      go_wp2_with fail
      go_returns
      exact ⟨by simp, HB5.out⟩

set_option maxRecDepth 100000 in
theorem lifted (os : Os) (started : os.Started) (H : Type) (enc : TypeId × Value → H) :
    ReturnsInHanded {} Try.checked os 8 .any (Rows.sessionOthersSpec.pre6 enc Try.prog Try.f8 Rows.sessionOthersRow.domain false) (Rows.sessionOthersSpec.post enc Try.prog Try.f8 false true false false) := by
  refine returnsInHanded_of_change_sized (C := Try.checked) own started (by kernel_rfl) Try.func8
    (ChangeSpec.witness6 (enc := enc) (C := Try.checked) false ⟨#[], #[.slice none 0 0, .int .i64 0, .int .i64 0, .int .i64 0, .agg #[.int .i64 0, .int .i64 0, .int .i64 0, .int .i64 0]], []⟩ 8 (by kernel_rfl) (by kernel_rfl) (by kernel_rfl) (by kernel_rfl)) ?_
  intro W base args ds gs before hval0 hW hcnd hsz0 _
  have hsz : (DataW.weightsEach Try.prog (Try.f8.params.toList ++ Rows.sessionOthersSpec.plain.varTypes Try.prog) (ds ++ gs)).all (· ≤ reachBytes) = true := hsz0
  have hval : ∀ (j : Nat) t v, Try.f8.params[j]? = some t → args[j]? = some v → Value.okWide Try.prog W .any base t v := hval0
  have hW' := hW
  obtain ⟨p, q, hA0, hV, rfl, hfz, hnd⟩ := hW
  have hA : DataW.TrodAll enc Try.prog W 0 (fun _ => true) true Try.f8.params.toList args.toList ds p := hA0
  rw [Try.params8] at hA hval hsz
  obtain ⟨v0, vs0, d0, ds0, p0, q0, hargs, rfl, rfl, h0, r0⟩ := trodAll_cons hA
  obtain ⟨v1, vs1, d1, ds1, p1, q1, rfl, rfl, rfl, h1, r1⟩ := trodAll_cons r0
  obtain ⟨v2, vs2, d2, ds2, p2, q2, rfl, rfl, rfl, h2, r2⟩ := trodAll_cons r1
  obtain ⟨v3, vs3, d3, ds3, p3, q3, rfl, rfl, rfl, h3, r3⟩ := trodAll_cons r2
  obtain ⟨v4, vs4, d4, ds4, p4, q4, rfl, rfl, rfl, h4, r4⟩ := trodAll_cons r3
  obtain ⟨rfl, rfl, rfl⟩ := trodAll_nil r4
  obtain rfl : args = #[v0, v1, v2, v3, v4] := by cases args; simp_all
  obtain ⟨rfl, rfl⟩ := trodVars_none hV
  have lt0 : ∀ x ∈ p0, x.block < W.heap.size := by obtain ⟨m, hm⟩ := h0; exact DataW.trod_lt m _ _ _ hm
  obtain ⟨a, n, cp, l, rfl, k0, o0⟩ := open_marks_held (hval 0 22 v0 rfl rfl) h0 (fun n hn => by have h := List.all_eq_true.1 hsz n (DataW.weights_mem_each (j := 0) rfl rfl n hn); simpa using h)
  have lt1 : ∀ x ∈ p1, x.block < W.heap.size := by obtain ⟨m, hm⟩ := h1; exact DataW.trod_lt m _ _ _ hm
  obtain ⟨c, rfl, hc⟩ := open_i64 (hval 1 3 v1 rfl rfl) h1
  have lt2 : ∀ x ∈ p2, x.block < W.heap.size := by obtain ⟨m, hm⟩ := h2; exact DataW.trod_lt m _ _ _ hm
  obtain ⟨q, rfl, hq⟩ := open_i64 (hval 2 3 v2 rfl rfl) h2
  have lt3 : ∀ x ∈ p3, x.block < W.heap.size := by obtain ⟨m, hm⟩ := h3; exact DataW.trod_lt m _ _ _ hm
  obtain ⟨o, rfl, ho⟩ := open_i64 (hval 3 3 v3 rfl rfl) h3
  have lt4 : ∀ x ∈ p4, x.block < W.heap.size := by obtain ⟨m, hm⟩ := h4; exact DataW.trod_lt m _ _ _ hm
  obtain ⟨x, rfl, hx⟩ := open_answer_held (hval 4 25 v4 rfl rfl) h4 (fun n hn => by have h := List.all_eq_true.1 hsz n (DataW.weights_mem_each (j := 4) rfl rfl n hn); simpa using h)
  clear hA0 hval0
  refine (walk k0 o0).mono fun e W' ⟨he, bel⟩ => ?_
  subst he
  exact ⟨_, rfl, _, _, _, [], _, [], hW', trodAll_mk1 (shut_bool Try.underlying4 _), (trodAll_cons_mk (Below.trod laidOut (by kernel_rfl) (of_decide_eq_true (by kernel_rfl)) h0 bel lt0) (trodAll_cons_mk (Below.trod laidOut (by kernel_rfl) (of_decide_eq_true (by kernel_rfl)) h1 bel lt1) (trodAll_cons_mk (Below.trod laidOut (by kernel_rfl) (of_decide_eq_true (by kernel_rfl)) h2 bel lt2) (trodAll_cons_mk (Below.trod laidOut (by kernel_rfl) (of_decide_eq_true (by kernel_rfl)) h3 bel lt3) (trodAll_cons_mk (Below.trod laidOut (by kernel_rfl) (of_decide_eq_true (by kernel_rfl)) h4 bel lt4) trodAll_mk0))))), rfl, bel.frame _, fun h => by cases h⟩

theorem over : Rows.sessionOthersRow.holds Try.pinned (OpenSpec.ofChange Rows.sessionOthersSpec) :=
  OpenClaim.holds_of_wide 8 Try.f8 rfl rfl rfl rfl rfl rfl rfl ⟨rfl, rfl, rfl, rfl, rfl⟩ rfl rfl rfl rfl rfl (by kernel_rfl) Try.func8 (by kernel_rfl)
    (of_decide_eq_true (by kernel_rfl)) (by unfold Func.isWrapper; first | (rw [if_pos (by decide +kernel)]; kernel_rfl) | (rw [if_neg (by decide +kernel)]; exact ⟨rfl, rfl⟩))
    (fun os started H enc _ => lifted os started H enc)

theorem proved : Rows.SessionOthersSaid := over
#print axioms proved
end SessionOthers
theorem sessionOthers_holds : Rows.SessionOthersSaid := SessionOthers.proved
end Go.Proofs.Ytbeikdppcfpplaa
