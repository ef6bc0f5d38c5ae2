/- Which lists are maps: the landed Check. Condition: the list can be read, and is no longer than its capacity. -/
import Derived.Test.YthfjndlmihepbaaRgFind
import Derived.Test.YthfjndlmihepbaaHeld
namespace Go.Proofs.Ythfjndlmihepbaa
open Go.ChangeShapes Go.WideShapes Go.ChangeAt Go.RowKit Rg
set_option linter.unusedVariables false

theorem ps_take {w : World} {a : Option Addr} {n : Nat} {l : List Pc} (h : Ps w a n l) {k : Nat} (hk : k ≤ n) : Ps w a k (l.take k) := by
  refine ⟨by rw [List.length_take, h.len]; omega, fun h0 => ?_, by have := h.room; have : k * 32 ≤ n * 32 := Nat.mul_le_mul_right _ hk; omega⟩
  obtain ⟨b, off, e, hb, hc⟩ := h.cells (by omega)
  exact ⟨b, off, e, hb, fun j x hj => hc j x (by
    rw [List.getElem?_take] at hj
    split at hj
    · exact hj
    · cases hj)⟩
theorem check_ok {l : List Pc} (h1 : 1 ≤ l.length) (h2 : l.length < 8) (h3 : firstB l = true) (h4 : ∀ j, j < l.length → okAt l j = true) : checkE l = 0 := by
  unfold checkE
  rw [right_of h1 h2 h3 h4]
  rfl
theorem check_no {l : List Pc} {k : Nat} (hk : k < l.length) (h : okAt l k = false) : checkE l = 21 := by
  unfold checkE
  rw [right_no hk h]
  rfl
theorem check_bad {l : List Pc} (h : rightB l = false) : checkE l = 21 := by
  unfold checkE
  rw [h]
  rfl
theorem ok_zero {l : List Pc} {p : Pc} (h : l[0]? = some p) : okAt l 0 = (mayB p && !ofB (l.take 0) p.g) := by unfold okAt; rw [h]; simp
theorem ok_next {l : List Pc} {q : Nat} {y p : Pc} (hy : l[q]? = some y) (h : l[q + 1]? = some p) : okAt l (q + 1) = (mayB p && !ofB (l.take (q + 1)) p.g && ltB y.k p.k) := by unfold okAt; rw [h]; simp [hy]
theorem all_next {l : List Pc} {k : Nat} (h : ∀ j, j < k → okAt l j = true) (g : okAt l k = true) : ∀ j, j < k + 1 → okAt l j = true := fun j hj => by
  by_cases e : j = k
  · rw [e]; exact g
  · exact h j (by omega)
set_option maxRecDepth 100000 in
set_option maxHeartbeats 4000000 in
theorem check_any {w : World} {a : Option Addr} {n c : Nat} {l : List Pc} (h : Ps w a n l) (hcp : Cp a n c) :
    Calls Try.prog 19 #[.slice a n c] w fun e w' => e = .returned (.int .i64 (checkE l)) ∧ Below w.heap.size w w' := by
  have H := hide h
  have HL := hide h.len
  have hr := h.room
  have hle := hcp.le
  clear h
  by_cases hn0 : n = 0
  · have e0 : checkE l = 21 := check_bad (by unfold rightB; rw [decide_eq_false (by rw [HL.out]; omega)]; rfl)
    rw [e0]
    subst hn0
    clear H
    go_enter Try.func19, Try.ntmps19
    go_wp2_with fail
    go_returns
    exact ⟨rfl, by go_grown⟩
  by_cases hn8 : 8 ≤ n
  · have e0 : checkE l = 21 := check_bad (by unfold rightB; rw [decide_eq_false (show ¬ l.length < 8 by rw [HL.out]; omega)]; simp)
    rw [e0]
    have i1 : ¬ (n : Int) = 0 := by omega
    have i2 : (8 : Int) ≤ (n : Int) := by omega
    clear H
    go_enter Try.func19, Try.ntmps19
    go_wp2_with fail
    go_returns
    exact ⟨rfl, by go_grown⟩
  have i1 : ¬ (n : Int) = 0 := by omega
  have i2 : ¬ (8 : Int) ≤ (n : Int) := by omega
  obtain ⟨b, off, x0, rfl, hx0, hb0, M0⟩ := ps_at H.out (show 0 < n by omega)
  rw [Nat.zero_mul, Nat.add_zero] at M0
  obtain ⟨m0, m1, m2⟩ := M0
  have i3 : (0 : Int) < (n : Int) := by omega
  have hf : firstB l = decide (x0.k = none0) := by
    cases l with
    | nil => simp at hx0
    | cons z r => simp at hx0; subst hx0; rfl
  have q3 : (x0.k.toList == none0.toList) = decide (x0.k = none0) := by
    by_cases h : x0.k = none0
    · rw [h]; simp
    · rw [decide_eq_false h, beq_eq_false_iff_ne]; exact fun e => h (tl_inj e)
  rw [show none0.toList = [] from nl_none] at q3
  clear hx0 hb0 hcp
  have HF := hide hf
  clear hf
  generalize hz : decide (x0.k = none0) = z at q3 HF
  clear hz
  cases z
  · have e0 : checkE l = 21 := check_bad (by unfold rightB; rw [HF.out]; simp)
    rw [e0]
    go_enter Try.func19, Try.ntmps19
    go_wp2_with fail
    go_returns
    exact ⟨rfl, by go_grown⟩
  have CO : ∀ (k : Nat) (W : World) (g : Int), k ≤ n → Below w.heap.size w W → Hid _ := fun k W g hk hb => hide (of_any (c := c) (ps_take (H.out.below hb) hk) g)
  go_enter Try.func19, Try.ntmps19
  go_wp2_with fail
  clear m0 m1 m2 q3
  go_loopw [24] (fun iv wr => ∃ k : Nat, k ≤ n ∧ iv = .int .i64 k ∧ Hid (Below w.heap.size w wr) ∧ Hid (∀ j, j < k → okAt l j = true)) (fun iv _ => n - (intOf iv).toNat)
  case atStart => exact ⟨0, Nat.zero_le _, rfl, Below.refl _ _, fun j h => by omega⟩
  case round =>
    obtain ⟨k, hk, rfl, HB, HU⟩ := hrel
    by_cases hlt : k < n
    · obtain ⟨b', off', x, e9, hx, hb, M⟩ := ps_at (H.out.below HB.out) hlt
      cases e9
      obtain ⟨c0, c1, c2⟩ := M
      have HX := hide hx
      have i4 : (k : Int) < (n : Int) := by omega
      have i5 : (k : Int) ≤ (c : Int) := by omega
      have i6 : ¬ c = 0 := by omega
      have MY := fun W => hide (may_any x W)
      unfold pval at MY
      have CK := fun W => CO k W x.g hk
      clear hx hb CO
      obtain ⟨w1, ew⟩ : ∃ w1, w1 = wr.alloc (.cells #[.int .i64 x.g, .string x.k, .int .i64 x.ep] 39) := ⟨_, rfl⟩
      have RX := hide (pb_new wr x)
      rw [← ew] at RX
      obtain ⟨e0, e1, e2⟩ := RX.out.at_
      have HW : Hid (Below w.heap.size w w1) := by rw [ew]; exact below_alloc HB.out _
      go_wp2_with fail
      rw [← ew]
      clear ew c0 c1 c2
      refine wp_region_cells w [(⟨wr.heap.size, 0, none⟩, .int .i64 x.g), (⟨wr.heap.size, 1, none⟩, .string x.k), (⟨wr.heap.size, 2, none⟩, .int .i64 x.ep)] (by kernel_rfl) (by kernel_rfl) HW.out (by simp [AllCells, e0, e1, e2]) ?_
      intro hne qq
      simp only [AllCells, and_true] at qq
      clear e0 e1 e2
      repeat (go_big_quiet_step (first | (go_at_call 11; exact Held.call _ (CK _ (Held.below _)).out)))
      refine wpQuiet_nil ?_
      rintro _ ⟨y9, rfl⟩
      have BQ : Hid (Below w.heap.size w y9.x) := y9.below
      obtain ⟨e0, e1, e2⟩ : _ ∧ _ ∧ _ := by have e := allCells_of y9.cells; simp only [AllCells, and_true] at e; exact e
      generalize y9.x = W2 at BQ e0 e1 e2 ⊢
      clear qq hne CK
      have HM : Hid (∃ m, mayB x = m ∧ ∀ W, Hid (Calls Try.prog 34 #[.agg #[.int .i64 x.g, .string x.k, .int .i64 x.ep]] W fun e w' => e = .returned (.bool m) ∧ Below W.heap.size W w')) := ⟨_, rfl, MY⟩
      clear MY
      obtain ⟨m, hm, MY⟩ := HM.out
      clear HM
      have HM := hide hm
      clear hm
      generalize ht : ofB (l.take k) x.g = tw
      have HT := hide ht
      clear ht
      by_cases hk0 : k = 0
      · have g1 : (0 < k) = False := eq_false (by omega)
        have g1' : decide (0 < k) = false := decide_eq_false (by omega)
        have HK := hide hk0
        clear hk0
        cases m
        · go_wp2_with fail
          refine wp_region_cells w [(⟨wr.heap.size, 0, none⟩, .int .i64 x.g), (⟨wr.heap.size, 1, none⟩, .string x.k), (⟨wr.heap.size, 2, none⟩, .int .i64 x.ep)] (by kernel_rfl) (by kernel_rfl) BQ.out (by simp [AllCells, e0, e1, e2]) ?_
          intro hne qq
          simp only [AllCells, and_true] at qq
          clear e0 e1 e2
          repeat (go_big_quiet_step (first | (go_at_call 34; exact Held.call _ (MY _).out)))
          refine wpQuiet_nil ?_
          rintro _ ⟨y8, rfl⟩
          have BR : Hid (Below w.heap.size w y8.x) := y8.below
          clear qq hne MY
          go_wp2_with fail
          go_returns
          exact ⟨by rw [check_no (k := k) (by rw [HL.out]; omega) (by rw [HK.out] at HX ⊢; rw [ok_zero HX.out, HM.out]; rfl)]; rfl, BR.out⟩
        · cases tw
          · go_wp2_with fail
            refine wp_region_cells w [(⟨wr.heap.size, 0, none⟩, .int .i64 x.g), (⟨wr.heap.size, 1, none⟩, .string x.k), (⟨wr.heap.size, 2, none⟩, .int .i64 x.ep)] (by kernel_rfl) (by kernel_rfl) BQ.out (by simp [AllCells, e0, e1, e2]) ?_
            intro hne qq
            simp only [AllCells, and_true] at qq
            clear e0 e1 e2
            repeat (go_big_quiet_step (first | (go_at_call 34; exact Held.call _ (MY _).out)))
            refine wpQuiet_nil ?_
            rintro _ ⟨y8, rfl⟩
            have BR : Hid (Below w.heap.size w y8.x) := y8.below
            clear qq hne MY
            go_wp2_with fail
            go_roundw
            case rel => exact ⟨k + 1, by omega, by go_num, BR, all_next HU.out (by rw [HK.out] at HX HT ⊢; rw [ok_zero HX.out, HM.out, HT.out]; rfl)⟩
            case measure => simp [intOf]; omega
          · go_wp2_with fail
            refine wp_region_cells w [(⟨wr.heap.size, 0, none⟩, .int .i64 x.g), (⟨wr.heap.size, 1, none⟩, .string x.k), (⟨wr.heap.size, 2, none⟩, .int .i64 x.ep)] (by kernel_rfl) (by kernel_rfl) BQ.out (by simp [AllCells, e0, e1, e2]) ?_
            intro hne qq
            simp only [AllCells, and_true] at qq
            clear e0 e1 e2
            repeat (go_big_quiet_step (first | (go_at_call 34; exact Held.call _ (MY _).out)))
            refine wpQuiet_nil ?_
            rintro _ ⟨y8, rfl⟩
            have BR : Hid (Below w.heap.size w y8.x) := y8.below
            clear qq hne MY
            go_wp2_with fail
            go_returns
            exact ⟨by rw [check_no (k := k) (by rw [HL.out]; omega) (by rw [HK.out] at HX HT ⊢; rw [ok_zero HX.out, HM.out, HT.out]; rfl)]; rfl, BR.out⟩
      · obtain ⟨q, hq⟩ : ∃ q, k = q + 1 := ⟨k - 1, by omega⟩
        have g1 : (0 < k) = True := eq_true (by omega)
        have g1' : decide (0 < k) = true := decide_eq_true (by omega)
        have g2 : IntKind.i64.wrap ((k : Int) - 1) = (q : Int) := by rw [IntKind.wrap_i64]; omega
        have g3 : (q : Int) < (n : Int) := by omega
        obtain ⟨b', off', y, e9, hy, hb', M'⟩ := ps_at (H.out.below BQ.out) (show q < n by omega)
        cases e9
        obtain ⟨d0, d1, d2⟩ := M'
        have HY := hide hy
        have HK := hide hq
        clear hy hb' hq hk0 d0 d2
        have qy : Op.bytesLess y.k.toList x.k.toList = ltB y.k x.k := rfl
        generalize hz2 : ltB y.k x.k = z2 at qy
        have HZ := hide hz2
        clear hz2
        cases m
        · clear d1 qy
          go_wp2_with fail
          refine wp_region_cells w [(⟨wr.heap.size, 0, none⟩, .int .i64 x.g), (⟨wr.heap.size, 1, none⟩, .string x.k), (⟨wr.heap.size, 2, none⟩, .int .i64 x.ep)] (by kernel_rfl) (by kernel_rfl) BQ.out (by simp [AllCells, e0, e1, e2]) ?_
          intro hne qq
          simp only [AllCells, and_true] at qq
          clear e0 e1 e2
          repeat (go_big_quiet_step (first | (go_at_call 34; exact Held.call _ (MY _).out)))
          refine wpQuiet_nil ?_
          rintro _ ⟨y8, rfl⟩
          have BR : Hid (Below w.heap.size w y8.x) := y8.below
          clear qq hne MY
          go_wp2_with fail
          go_returns
          exact ⟨by rw [check_no (k := k) (by rw [HL.out]; omega) (by rw [HK.out] at HX ⊢; rw [ok_next HY.out HX.out, HM.out]; rfl)]; rfl, BR.out⟩
        · cases tw
          · cases z2
            · go_wp2_with fail
              refine wp_region_cells w [(⟨wr.heap.size, 0, none⟩, .int .i64 x.g), (⟨wr.heap.size, 1, none⟩, .string x.k), (⟨wr.heap.size, 2, none⟩, .int .i64 x.ep), (⟨b, off + q * 3 + 1, none⟩, .string y.k)] (by kernel_rfl) (by kernel_rfl) BQ.out (by simp [AllCells, e0, e1, e2, d1]) ?_
              intro hne qq
              simp only [AllCells, and_true] at qq
              clear e0 e1 e2 d1
              repeat (go_big_quiet_step (first | (go_at_call 34; exact Held.call _ (MY _).out)))
              refine wpQuiet_nil ?_
              rintro _ ⟨y8, rfl⟩
              have BR : Hid (Below w.heap.size w y8.x) := y8.below
              clear qq hne MY
              go_wp2_with fail
              go_returns
              exact ⟨by rw [check_no (k := k) (by rw [HL.out]; omega) (by rw [HK.out] at HX HT ⊢; rw [ok_next HY.out HX.out, HM.out, HT.out, HZ.out]; rfl)]; rfl, BR.out⟩
            · go_wp2_with fail
              refine wp_region_cells w [(⟨wr.heap.size, 0, none⟩, .int .i64 x.g), (⟨wr.heap.size, 1, none⟩, .string x.k), (⟨wr.heap.size, 2, none⟩, .int .i64 x.ep), (⟨b, off + q * 3 + 1, none⟩, .string y.k)] (by kernel_rfl) (by kernel_rfl) BQ.out (by simp [AllCells, e0, e1, e2, d1]) ?_
              intro hne qq
              simp only [AllCells, and_true] at qq
              clear e0 e1 e2 d1
              repeat (go_big_quiet_step (first | (go_at_call 34; exact Held.call _ (MY _).out)))
              refine wpQuiet_nil ?_
              rintro _ ⟨y8, rfl⟩
              have BR : Hid (Below w.heap.size w y8.x) := y8.below
              clear qq hne MY
              go_wp2_with fail
              go_roundw
              case rel => exact ⟨k + 1, by omega, by go_num, BR, all_next HU.out (by rw [HK.out] at HX HT ⊢; rw [ok_next HY.out HX.out, HM.out, HT.out, HZ.out]; rfl)⟩
              case measure => simp [intOf]; omega
          · clear d1 qy
            go_wp2_with fail
            refine wp_region_cells w [(⟨wr.heap.size, 0, none⟩, .int .i64 x.g), (⟨wr.heap.size, 1, none⟩, .string x.k), (⟨wr.heap.size, 2, none⟩, .int .i64 x.ep)] (by kernel_rfl) (by kernel_rfl) BQ.out (by simp [AllCells, e0, e1, e2]) ?_
            intro hne qq
            simp only [AllCells, and_true] at qq
            clear e0 e1 e2
            repeat (go_big_quiet_step (first | (go_at_call 34; exact Held.call _ (MY _).out)))
            refine wpQuiet_nil ?_
            rintro _ ⟨y8, rfl⟩
            have BR : Hid (Below w.heap.size w y8.x) := y8.below
            clear qq hne MY
            go_wp2_with fail
            go_returns
            exact ⟨by rw [check_no (k := k) (by rw [HL.out]; omega) (by rw [HK.out] at HX HT ⊢; rw [ok_next HY.out HX.out, HM.out, HT.out]; rfl)]; rfl, BR.out⟩
    · obtain rfl : k = n := by omega
      go_wp2_with fail
      go_returns
      exact ⟨by rw [check_ok (by rw [HL.out]; omega) (by rw [HL.out]; omega) HF.out (by rw [HL.out]; exact HU.out)]; rfl, HB.out⟩
end Go.Proofs.Ythfjndlmihepbaa
