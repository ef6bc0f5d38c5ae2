/- Which lists are maps: the document's Right. Condition: the list can be read. -/
import Derived.Test.YthfjndlmihepbaaRgSplit
namespace Go.Proofs.Ythfjndlmihepbaa
open Go.ChangeShapes Go.WideShapes Go.ChangeAt Go.RowKit Rg
set_option linter.unusedVariables false

theorem grp_take {l : List Pc} {k j : Nat} (g : Int) (h : j < k) : grpAt (l.take k) g j = grpAt l g j := by
  unfold grpAt
  rw [List.getElem?_take, if_pos h]
theorem of_take_no {l : List Pc} {k : Nat} {g : Int} (hk : k ≤ l.length) (h : ∀ j, j < k → grpAt l g j = false) : ofB (l.take k) g = false := by
  unfold ofB ofO
  rw [List.length_take, Nat.min_eq_left hk, first_none (fun j hj => by rw [grp_take g hj]; exact h j hj)]
  rfl
theorem of_take_yes {l : List Pc} {k j : Nat} {g : Int} (hk : k ≤ l.length) (hj : j < k) (h : grpAt l g j = true) : ofB (l.take k) g = true := by
  unfold ofB ofO
  rw [List.length_take, Nat.min_eq_left hk]
  cases e : firstO (grpAt (l.take k) g) k with
  | some q => rfl
  | none =>
    have := first_no e j hj
    rw [grp_take g hj, h] at this
    cases this
theorem ok_may {l : List Pc} {k : Nat} {p : Pc} (h : l[k]? = some p) (hm : mayB p = false) : okAt l k = false := by unfold okAt; rw [h]; simp [hm]
theorem ok_twice {l : List Pc} {k : Nat} {p : Pc} (h : l[k]? = some p) (hm : ofB (l.take k) p.g = true) : okAt l k = false := by unfold okAt; rw [h]; simp [hm]
set_option maxRecDepth 100000 in
set_option maxHeartbeats 4000000 in
theorem rright_any {w : World} {a : Option Addr} {n c : Nat} {l : List Pc} (h : Ps w a n l) :
    Calls Try.prog 17 #[.slice a n c] w fun e w' => e = .returned (.bool (rightB l)) ∧ Below w.heap.size w w' := by
  have H := hide h
  have HL := hide h.len
  have hr := h.room
  clear h
  by_cases hn0 : n < 1
  · have e0 : rightB l = false := by unfold rightB; rw [decide_eq_false (by rw [HL.out]; omega)]; rfl
    rw [e0]
    have i1 : (n : Int) < 1 := by omega
    clear H
    go_enter Try.func17, Try.ntmps17
    go_wp2_with fail
    go_returns
    exact ⟨rfl, by go_grown⟩
  by_cases hn8 : 8 ≤ n
  · have e0 : rightB l = false := by unfold rightB; rw [decide_eq_false (show ¬ l.length < 8 by rw [HL.out]; omega)]; simp
    rw [e0]
    have i1 : ¬ (n : Int) < 1 := by omega
    have i2 : (7 : Int) < (n : Int) := by omega
    clear H
    go_enter Try.func17, Try.ntmps17
    go_wp2_with fail
    go_returns
    exact ⟨rfl, by go_grown⟩
  have i1 : ¬ (n : Int) < 1 := by omega
  have i2 : ¬ (7 : Int) < (n : Int) := by omega
  obtain ⟨b, off, x0, rfl, hx0, hb0, M0⟩ := ps_at H.out (show 0 < n by omega)
  rw [Nat.zero_mul, Nat.add_zero] at M0
  obtain ⟨m0, m1, m2⟩ := M0
  have i3 : (0 : Int) < (n : Int) := by omega
  have hf : firstB l = decide (x0.k = none0) := by
    cases l with
    | nil => simp at hx0
    | cons z r => simp at hx0; subst hx0; rfl
  have q3 : (x0.k.toList == none0.toList) = decide (x0.k = none0) := by
    by_cases h : x0.k = none0
    · rw [h]; simp
    · rw [decide_eq_false h, beq_eq_false_iff_ne]; exact fun e => h (tl_inj e)
  rw [show none0.toList = [] from nl_none] at q3
  clear hx0 hb0
  have HF := hide hf
  clear hf
  generalize hz : decide (x0.k = none0) = z at q3 HF
  clear hz
  cases z
  · have e0 : rightB l = false := by unfold rightB; rw [HF.out]; simp
    rw [e0]
    go_enter Try.func17, Try.ntmps17
    go_wp2_with fail
    go_returns
    exact ⟨rfl, by go_grown⟩
  go_enter Try.func17, Try.ntmps17
  go_wp2_with fail
  clear m0 m1 m2 q3
  go_loopw [3] (fun iv wr => ∃ k : Nat, k ≤ n ∧ iv = .int .i64 k ∧ Hid (Below w.heap.size w wr) ∧ Hid (∀ j, j < k → okAt l j = true)) (fun iv _ => n - (intOf iv).toNat)
  case atStart => exact ⟨0, Nat.zero_le _, rfl, Below.refl _ _, fun j h => by omega⟩
  case round =>
    obtain ⟨k, hk, rfl, HB, HU⟩ := hrel
    by_cases hlt : k < n
    · obtain ⟨b', off', x, e9, hx, hb, M⟩ := ps_at (H.out.below HB.out) hlt
      cases e9
      obtain ⟨c0, c1, c2⟩ := M
      have HX := hide hx
      have i4 : (k : Int) < (n : Int) := by omega
      clear hx hb
      obtain ⟨w1, ew⟩ : ∃ w1, w1 = wr.alloc (.cells #[.int .i64 x.g, .string x.k, .int .i64 x.ep] 39) := ⟨_, rfl⟩
      have RX := hide (pb_new wr x)
      rw [← ew] at RX
      obtain ⟨e0, e1, e2⟩ := RX.out.at_
      have HW : Hid (Below w.heap.size w w1) := by rw [ew]; exact below_alloc HB.out _
      go_wp2_with fail
      rw [← ew]
      clear ew c0 c1 c2 RX HB
      generalize wr.heap.size = P at e0 e1 e2 ⊢
      by_cases hg1 : x.g < 1
      · have HM : Hid (mayB x = false) := by show _ = _; unfold mayB grpB; simp <;> omega
        go_wp2_with fail
        refine wp_region_cells w [(⟨P, 0, none⟩, .int .i64 x.g), (⟨P, 1, none⟩, .string x.k), (⟨P, 2, none⟩, .int .i64 x.ep)] (by kernel_rfl) (by kernel_rfl) HW.out (by simp [AllCells, e0, e1, e2]) ?_
        intro hne qq
        simp only [AllCells, and_true] at qq
        clear e0 e1 e2
        repeat (go_big_quiet_step (fail))
        refine wpQuiet_nil ?_
        rintro _ ⟨y8, rfl⟩
        have BR : Hid (Below w.heap.size w y8.x) := y8.below
        obtain ⟨e0, e1, e2⟩ : _ ∧ _ ∧ _ := by have e := allCells_of y8.cells; simp only [AllCells, and_true] at e; exact e
        generalize y8.x = W2 at BR e0 e1 e2 ⊢
        clear qq hne
        go_wp2_with fail
        go_returns
        exact ⟨by rw [right_no (j := k) (by rw [HL.out]; omega) (ok_may HX.out HM.out)]; rfl, BR.out⟩
      have hg1f : (x.g < 1) = False := eq_false hg1
      have hg1b : decide (x.g < 1) = false := decide_eq_false hg1
      by_cases hg8 : 8 ≤ x.g
      · have HM : Hid (mayB x = false) := by show _ = _; unfold mayB grpB; simp <;> omega
        go_wp2_with fail
        refine wp_region_cells w [(⟨P, 0, none⟩, .int .i64 x.g), (⟨P, 1, none⟩, .string x.k), (⟨P, 2, none⟩, .int .i64 x.ep)] (by kernel_rfl) (by kernel_rfl) HW.out (by simp [AllCells, e0, e1, e2]) ?_
        intro hne qq
        simp only [AllCells, and_true] at qq
        clear e0 e1 e2
        repeat (go_big_quiet_step (fail))
        refine wpQuiet_nil ?_
        rintro _ ⟨y8, rfl⟩
        have BR : Hid (Below w.heap.size w y8.x) := y8.below
        obtain ⟨e0, e1, e2⟩ : _ ∧ _ ∧ _ := by have e := allCells_of y8.cells; simp only [AllCells, and_true] at e; exact e
        generalize y8.x = W2 at BR e0 e1 e2 ⊢
        clear qq hne
        go_wp2_with fail
        go_returns
        exact ⟨by rw [right_no (j := k) (by rw [HL.out]; omega) (ok_may HX.out HM.out)]; rfl, BR.out⟩
      have hg8f : (8 ≤ x.g) = False := eq_false hg8
      have hg8b : decide (8 ≤ x.g) = false := decide_eq_false hg8
      by_cases he1 : x.ep < 1
      · have HM : Hid (mayB x = false) := by show _ = _; unfold mayB grpB; simp <;> omega
        go_wp2_with fail
        refine wp_region_cells w [(⟨P, 0, none⟩, .int .i64 x.g), (⟨P, 1, none⟩, .string x.k), (⟨P, 2, none⟩, .int .i64 x.ep)] (by kernel_rfl) (by kernel_rfl) HW.out (by simp [AllCells, e0, e1, e2]) ?_
        intro hne qq
        simp only [AllCells, and_true] at qq
        clear e0 e1 e2
        repeat (go_big_quiet_step (fail))
        refine wpQuiet_nil ?_
        rintro _ ⟨y8, rfl⟩
        have BR : Hid (Below w.heap.size w y8.x) := y8.below
        obtain ⟨e0, e1, e2⟩ : _ ∧ _ ∧ _ := by have e := allCells_of y8.cells; simp only [AllCells, and_true] at e; exact e
        generalize y8.x = W2 at BR e0 e1 e2 ⊢
        clear qq hne
        go_wp2_with fail
        go_returns
        exact ⟨by rw [right_no (j := k) (by rw [HL.out]; omega) (ok_may HX.out HM.out)]; rfl, BR.out⟩
      have he1f : (x.ep < 1) = False := eq_false he1
      have he1b : decide (x.ep < 1) = false := decide_eq_false he1
      by_cases he2 : 4611686018427387904 < x.ep
      · have HM : Hid (mayB x = false) := by show _ = _; unfold mayB grpB; simp <;> omega
        go_wp2_with fail
        refine wp_region_cells w [(⟨P, 0, none⟩, .int .i64 x.g), (⟨P, 1, none⟩, .string x.k), (⟨P, 2, none⟩, .int .i64 x.ep)] (by kernel_rfl) (by kernel_rfl) HW.out (by simp [AllCells, e0, e1, e2]) ?_
        intro hne qq
        simp only [AllCells, and_true] at qq
        clear e0 e1 e2
        repeat (go_big_quiet_step (fail))
        refine wpQuiet_nil ?_
        rintro _ ⟨y8, rfl⟩
        have BR : Hid (Below w.heap.size w y8.x) := y8.below
        obtain ⟨e0, e1, e2⟩ : _ ∧ _ ∧ _ := by have e := allCells_of y8.cells; simp only [AllCells, and_true] at e; exact e
        generalize y8.x = W2 at BR e0 e1 e2 ⊢
        clear qq hne
        go_wp2_with fail
        go_returns
        exact ⟨by rw [right_no (j := k) (by rw [HL.out]; omega) (ok_may HX.out HM.out)]; rfl, BR.out⟩
      have he2f : (4611686018427387904 < x.ep) = False := eq_false he2
      have he2b : decide (4611686018427387904 < x.ep) = false := decide_eq_false he2
      by_cases hs : 16 < x.k.size
      · have hs' : (16 : Int) < (x.k.size : Int) := by omega
        have HM : Hid (mayB x = false) := by show _ = _; unfold mayB; simp <;> omega
        go_wp2_with fail
        refine wp_region_cells w [(⟨P, 0, none⟩, .int .i64 x.g), (⟨P, 1, none⟩, .string x.k), (⟨P, 2, none⟩, .int .i64 x.ep)] (by kernel_rfl) (by kernel_rfl) HW.out (by simp [AllCells, e0, e1, e2]) ?_
        intro hne qq
        simp only [AllCells, and_true] at qq
        clear e0 e1 e2
        repeat (go_big_quiet_step (fail))
        refine wpQuiet_nil ?_
        rintro _ ⟨y8, rfl⟩
        have BR : Hid (Below w.heap.size w y8.x) := y8.below
        obtain ⟨e0, e1, e2⟩ : _ ∧ _ ∧ _ := by have e := allCells_of y8.cells; simp only [AllCells, and_true] at e; exact e
        generalize y8.x = W2 at BR e0 e1 e2 ⊢
        clear qq hne
        go_wp2_with fail
        go_returns
        exact ⟨by rw [right_no (j := k) (by rw [HL.out]; omega) (ok_may HX.out HM.out)]; rfl, BR.out⟩
      have hsf : ((16 : Int) < (x.k.size : Int)) = False := eq_false (by omega)
      have hsb : decide (16 < x.k.size) = false := decide_eq_false hs
      have hs' : ¬ (16 : Int) < (x.k.size : Int) := by omega
      have HM : Hid (mayB x = true) := by show _ = _; unfold mayB grpB; simp <;> omega
      by_cases hk0 : k = 0
      · have g1 : (0 < k) = False := eq_false (by omega)
        have g1' : decide (0 < k) = false := decide_eq_false (by omega)
        have HK := hide hk0
        clear hk0
        go_wp2_with fail
        refine wp_region_cells w [(⟨P, 0, none⟩, .int .i64 x.g), (⟨P, 1, none⟩, .string x.k), (⟨P, 2, none⟩, .int .i64 x.ep)] (by kernel_rfl) (by kernel_rfl) HW.out (by simp [AllCells, e0, e1, e2]) ?_
        intro hne qq
        simp only [AllCells, and_true] at qq
        clear e0 e1 e2
        repeat (go_big_quiet_step (fail))
        refine wpQuiet_nil ?_
        rintro _ ⟨y8, rfl⟩
        have BR : Hid (Below w.heap.size w y8.x) := y8.below
        obtain ⟨e0, e1, e2⟩ : _ ∧ _ ∧ _ := by have e := allCells_of y8.cells; simp only [AllCells, and_true] at e; exact e
        generalize y8.x = W2 at BR e0 e1 e2 ⊢
        clear qq hne
        clear e1 e2
        go_wp2_with fail
        go_loopw [5] (fun jv wr2 => ∃ j : Nat, j ≤ k ∧ jv = .int .i64 j ∧ Hid (Below w.heap.size w wr2) ∧ Hid (wr2.cell? ⟨P, 0, none⟩ = some (.int .i64 x.g)) ∧ Hid (∀ i, i < j → grpAt l x.g i = false)) (fun jv _ => k - (intOf jv).toNat)
        case atStart => exact ⟨0, Nat.zero_le _, rfl, BR.out, e0, fun i h => by omega⟩
        case round =>
          clear e0
          obtain ⟨j, hj, rfl, HB2, HC, HN⟩ := hrel
          by_cases hjk : j < k
          · obtain ⟨b', off', z, e9, hz, hb, M'⟩ := ps_at (H.out.below HB2.out) (show j < n by omega)
            cases e9
            obtain ⟨f0, f1, f2⟩ := M'
            have HZ := hide (grpAt_at (g := x.g) hz)
            have j1 : (j : Int) < (k : Int) := by omega
            have j2 : (j : Int) < (n : Int) := by omega
            have e0 := HC.out
            clear hz hb f1 f2
            by_cases hg : z.g = x.g
            · have HG := hide hg
              have hgd : decide (z.g = x.g) = true := decide_eq_true hg
              rw [hg] at f0
              clear hg hgd
              go_wp2_with fail
              refine wp_region_cells w [(⟨P, 0, none⟩, .int .i64 x.g), (⟨b, off + j * 3, none⟩, .int .i64 x.g)] (by kernel_rfl) (by kernel_rfl) HB2.out (by simp [AllCells, e0, f0]) ?_
              intro hne qq
              simp only [AllCells, and_true] at qq
              clear e0 f0
              repeat (go_big_quiet_step (fail))
              refine wpQuiet_nil ?_
              rintro _ ⟨y7, rfl⟩
              have BS : Hid (Below w.heap.size w y7.x) := y7.below
              clear qq hne
              go_wp2_with fail
              go_returns
              exact ⟨by rw [right_no (j := k) (by rw [HL.out]; omega) (ok_twice HX.out (of_take_yes (by rw [HL.out]; omega) hjk (by rw [HZ.out, decide_eq_true HG.out])))]; rfl, BS.out⟩
            · have HG := hide hg
              go_wp2_with fail
              refine wp_region_cells w [(⟨P, 0, none⟩, .int .i64 x.g), (⟨b, off + j * 3, none⟩, .int .i64 z.g)] (by kernel_rfl) (by kernel_rfl) HB2.out (by simp [AllCells, e0, f0]) ?_
              intro hne qq
              simp only [AllCells, and_true] at qq
              clear e0 f0
              repeat (go_big_quiet_step (fail))
              refine wpQuiet_nil ?_
              rintro _ ⟨y7, rfl⟩
              have BS : Hid (Below w.heap.size w y7.x) := y7.below
              obtain ⟨e0, f0⟩ : _ ∧ _ := by have e := allCells_of y7.cells; simp only [AllCells, and_true] at e; exact e
              generalize y7.x = W3 at BS e0 f0 ⊢
              have HE := hide e0
              clear qq hne f0 e0
              go_wp2_with fail
              go_roundw
              case rel =>
                refine ⟨j + 1, by omega, by go_num, BS, HE, fun i hi => ?_⟩
                by_cases e : i = j
                · rw [e, HZ.out, decide_eq_false HG.out]
                · exact HN.out i (by omega)
              case measure => simp [intOf]; omega
          · obtain rfl : j = k := by omega
            go_wp2_with fail
            go_roundw
            case rel => exact ⟨j + 1, by omega, by go_num, HB2, all_next HU.out (by rw [HK.out] at HX HN ⊢; rw [ok_zero HX.out, HM.out, of_take_no (by omega) HN.out]; rfl)⟩
            case measure => simp [intOf]; omega
      · obtain ⟨q, hq⟩ : ∃ q, k = q + 1 := ⟨k - 1, by omega⟩
        have g1 : (0 < k) = True := eq_true (by omega)
        have g1' : decide (0 < k) = true := decide_eq_true (by omega)
        have g2 : IntKind.i64.wrap ((k : Int) - 1) = (q : Int) := by rw [IntKind.wrap_i64]; omega
        have g3 : (q : Int) < (n : Int) := by omega
        obtain ⟨b', off', y, e9, hy, hb', M'⟩ := ps_at (H.out.below HW.out) (show q < n by omega)
        cases e9
        obtain ⟨d0, d1, d2⟩ := M'
        have HY := hide hy
        have HK := hide hq
        clear hy hb' hq hk0 d0 d2
        have qu : Op.bytesLess x.k.toList y.k.toList = ltB x.k y.k := rfl
        have qv := key_eq x.k y.k
        have ho := lt_or x.k y.k
        generalize ltB x.k y.k = zu at qu ho
        generalize decide (x.k = y.k) = zv at qv ho
        generalize hz2 : ltB y.k x.k = z2 at ho
        have HZ2 := hide hz2
        clear hz2
        cases z2
        · skip
          cases zu
          · obtain rfl : zv = true := by cases zv <;> simp_all
            clear ho
            go_wp2_with fail
            refine wp_region_cells w [(⟨P, 0, none⟩, .int .i64 x.g), (⟨P, 1, none⟩, .string x.k), (⟨P, 2, none⟩, .int .i64 x.ep), (⟨b, off + q * 3 + 1, none⟩, .string y.k)] (by kernel_rfl) (by kernel_rfl) HW.out (by simp [AllCells, e0, e1, e2, d1]) ?_
            intro hne qq
            simp only [AllCells, and_true] at qq
            clear e0 e1 e2 d1
            repeat (go_big_quiet_step (fail))
            refine wpQuiet_nil ?_
            rintro _ ⟨y8, rfl⟩
            have BR : Hid (Below w.heap.size w y8.x) := y8.below
            obtain ⟨e0, e1, e2, d1⟩ : _ ∧ _ ∧ _ ∧ _ := by have e := allCells_of y8.cells; simp only [AllCells, and_true] at e; exact e
            generalize y8.x = W2 at BR e0 e1 e2 ⊢
            clear qq hne
            go_wp2_with fail
            go_returns
            exact ⟨by rw [right_no (j := k) (by rw [HL.out]; omega) (by rw [HK.out] at HX ⊢; rw [ok_next HY.out HX.out, HZ2.out]; simp)]; rfl, BR.out⟩
          · clear ho
            go_wp2_with fail
            refine wp_region_cells w [(⟨P, 0, none⟩, .int .i64 x.g), (⟨P, 1, none⟩, .string x.k), (⟨P, 2, none⟩, .int .i64 x.ep), (⟨b, off + q * 3 + 1, none⟩, .string y.k)] (by kernel_rfl) (by kernel_rfl) HW.out (by simp [AllCells, e0, e1, e2, d1]) ?_
            intro hne qq
            simp only [AllCells, and_true] at qq
            clear e0 e1 e2 d1
            repeat (go_big_quiet_step (fail))
            refine wpQuiet_nil ?_
            rintro _ ⟨y8, rfl⟩
            have BR : Hid (Below w.heap.size w y8.x) := y8.below
            obtain ⟨e0, e1, e2, d1⟩ : _ ∧ _ ∧ _ ∧ _ := by have e := allCells_of y8.cells; simp only [AllCells, and_true] at e; exact e
            generalize y8.x = W2 at BR e0 e1 e2 ⊢
            clear qq hne
            go_wp2_with fail
            go_returns
            exact ⟨by rw [right_no (j := k) (by rw [HL.out]; omega) (by rw [HK.out] at HX ⊢; rw [ok_next HY.out HX.out, HZ2.out]; simp)]; rfl, BR.out⟩
        · obtain ⟨rfl, rfl⟩ : zu = false ∧ zv = false := by cases zu <;> cases zv <;> simp_all
          clear ho
          go_wp2_with fail
          refine wp_region_cells w [(⟨P, 0, none⟩, .int .i64 x.g), (⟨P, 1, none⟩, .string x.k), (⟨P, 2, none⟩, .int .i64 x.ep), (⟨b, off + q * 3 + 1, none⟩, .string y.k)] (by kernel_rfl) (by kernel_rfl) HW.out (by simp [AllCells, e0, e1, e2, d1]) ?_
          intro hne qq
          simp only [AllCells, and_true] at qq
          clear e0 e1 e2 d1
          repeat (go_big_quiet_step (fail))
          refine wpQuiet_nil ?_
          rintro _ ⟨y8, rfl⟩
          have BR : Hid (Below w.heap.size w y8.x) := y8.below
          obtain ⟨e0, e1, e2, d1⟩ : _ ∧ _ ∧ _ ∧ _ := by have e := allCells_of y8.cells; simp only [AllCells, and_true] at e; exact e
          generalize y8.x = W2 at BR e0 e1 e2 ⊢
          clear qq hne
          clear d1 qu qv
          clear e1 e2
          go_wp2_with fail
          go_loopw [5] (fun jv wr2 => ∃ j : Nat, j ≤ k ∧ jv = .int .i64 j ∧ Hid (Below w.heap.size w wr2) ∧ Hid (wr2.cell? ⟨P, 0, none⟩ = some (.int .i64 x.g)) ∧ Hid (∀ i, i < j → grpAt l x.g i = false)) (fun jv _ => k - (intOf jv).toNat)
          case atStart => exact ⟨0, Nat.zero_le _, rfl, BR.out, e0, fun i h => by omega⟩
          case round =>
            clear e0
            obtain ⟨j, hj, rfl, HB2, HC, HN⟩ := hrel
            by_cases hjk : j < k
            · obtain ⟨b', off', z, e9, hz, hb, M'⟩ := ps_at (H.out.below HB2.out) (show j < n by omega)
              cases e9
              obtain ⟨f0, f1, f2⟩ := M'
              have HZ := hide (grpAt_at (g := x.g) hz)
              have j1 : (j : Int) < (k : Int) := by omega
              have j2 : (j : Int) < (n : Int) := by omega
              have e0 := HC.out
              clear hz hb f1 f2
              by_cases hg : z.g = x.g
              · have HG := hide hg
                have hgd : decide (z.g = x.g) = true := decide_eq_true hg
                rw [hg] at f0
                clear hg hgd
                go_wp2_with fail
                refine wp_region_cells w [(⟨P, 0, none⟩, .int .i64 x.g), (⟨b, off + j * 3, none⟩, .int .i64 x.g)] (by kernel_rfl) (by kernel_rfl) HB2.out (by simp [AllCells, e0, f0]) ?_
                intro hne qq
                simp only [AllCells, and_true] at qq
                clear e0 f0
                repeat (go_big_quiet_step (fail))
                refine wpQuiet_nil ?_
                rintro _ ⟨y7, rfl⟩
                have BS : Hid (Below w.heap.size w y7.x) := y7.below
                clear qq hne
                go_wp2_with fail
                go_returns
                exact ⟨by rw [right_no (j := k) (by rw [HL.out]; omega) (ok_twice HX.out (of_take_yes (by rw [HL.out]; omega) hjk (by rw [HZ.out, decide_eq_true HG.out])))]; rfl, BS.out⟩
              · have HG := hide hg
                go_wp2_with fail
                refine wp_region_cells w [(⟨P, 0, none⟩, .int .i64 x.g), (⟨b, off + j * 3, none⟩, .int .i64 z.g)] (by kernel_rfl) (by kernel_rfl) HB2.out (by simp [AllCells, e0, f0]) ?_
                intro hne qq
                simp only [AllCells, and_true] at qq
                clear e0 f0
                repeat (go_big_quiet_step (fail))
                refine wpQuiet_nil ?_
                rintro _ ⟨y7, rfl⟩
                have BS : Hid (Below w.heap.size w y7.x) := y7.below
                obtain ⟨e0, f0⟩ : _ ∧ _ := by have e := allCells_of y7.cells; simp only [AllCells, and_true] at e; exact e
                generalize y7.x = W3 at BS e0 f0 ⊢
                have HE := hide e0
                clear qq hne f0 e0
                go_wp2_with fail
                go_roundw
                case rel =>
                  refine ⟨j + 1, by omega, by go_num, BS, HE, fun i hi => ?_⟩
                  by_cases e : i = j
                  · rw [e, HZ.out, decide_eq_false HG.out]
                  · exact HN.out i (by omega)
                case measure => simp [intOf]; omega
            · obtain rfl : j = k := by omega
              go_wp2_with fail
              go_roundw
              case rel => exact ⟨j + 1, by omega, by go_num, HB2, all_next HU.out (by have hl := HL.out; rw [HK.out] at HX HN ⊢; rw [ok_next HY.out HX.out, HM.out, of_take_no (by have := HK.out; omega) HN.out, HZ2.out]; rfl)⟩
              case measure => simp [intOf]; omega
    · obtain rfl : k = n := by omega
      go_wp2_with fail
      go_returns
      exact ⟨by rw [right_of (by rw [HL.out]; omega) (by rw [HL.out]; omega) HF.out (by rw [HL.out]; exact HU.out)]; rfl, HB.out⟩
end Go.Proofs.Ythfjndlmihepbaa
