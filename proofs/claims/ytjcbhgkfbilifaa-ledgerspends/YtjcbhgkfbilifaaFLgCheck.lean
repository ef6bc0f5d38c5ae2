/- Which lists are ledgers: the landed Check. Condition: the list can be read. -/
import Derived.Test.YtjcbhgkfbilifaaFLgOrder
import Derived.Test.YtjcbhgkfbilifaaJV
namespace Go.Proofs.Ytjcbhgkfbilifaa
open Go.ChangeShapes Go.WideShapes Go.ChangeAt Go.RowKit Ao Lg
set_option linter.unusedVariables false

def lcheckE (l : List Rt) : Int := if ledB l = true then 0 else 21
/-- the first k of them are as in a ledger -/
def UpTo (l : List Rt) (k : Nat) : Prop := (∀ (j : Nat) x, l[j]? = some x → j < k → mayB x = true) ∧ (∀ (j : Nat) x y, l[j]? = some x → l[j + 1]? = some y → j + 1 < k → ordR x y < 0)
theorem upto_all {l : List Rt} (h : UpTo l l.length) : ledB l = true := led_iff.2 (led_steps (fun j x hx => h.1 j x hx (List.getElem?_eq_some_iff.1 hx).1) (fun j x y hx hy => h.2 j x y hx hy (List.getElem?_eq_some_iff.1 hy).1))
theorem not_may {l : List Rt} {k : Nat} {x : Rt} (hx : l[k]? = some x) (h : mayB x = false) : ledB l = false := by
  cases e : ledB l
  · rfl
  · have := led_may (led_iff.1 e) hx
    rw [h] at this
    cases this
theorem not_ord {l : List Rt} {k : Nat} {x y : Rt} (hx : l[k]? = some x) (hy : l[k + 1]? = some y) (h : ¬ ordR x y < 0) : ledB l = false := by
  cases e : ledB l
  · rfl
  · exact absurd (led_get (led_iff.1 e) hx hy (by omega)) h
theorem upto_zero {l : List Rt} {x : Rt} (hx : l[0]? = some x) (h : mayB x = true) : UpTo l 1 := by
  refine ⟨fun j y hy hj => ?_, fun j y z _ _ hj => by omega⟩
  obtain rfl : j = 0 := by omega
  rw [hx] at hy
  obtain rfl := Option.some.inj hy
  exact h
theorem upto_next {l : List Rt} {k : Nat} {x y : Rt} (hu : UpTo l (k + 1)) (hx : l[k]? = some x) (hy : l[k + 1]? = some y) (h : mayB y = true) (ho : ordR x y < 0) : UpTo l (k + 1 + 1) := by
  refine ⟨fun j z hz hj => ?_, fun j z u hz hu2 hj => ?_⟩
  · by_cases e : j = k + 1
    · subst e
      rw [hy] at hz
      obtain rfl := Option.some.inj hz
      exact h
    · exact hu.1 j z hz (by omega)
  · by_cases e : j = k
    · subst e
      rw [hx] at hz
      rw [hy] at hu2
      obtain rfl := Option.some.inj hz
      obtain rfl := Option.some.inj hu2
      exact ho
    · exact hu.2 j z u hz hu2 (by omega)
set_option maxRecDepth 100000 in
set_option maxHeartbeats 4000000 in
theorem lcheck_any {w : World} {a : Option Addr} {n c : Nat} {l : List Rt} (h : Rs w a n l) :
    Calls Try.prog 20 #[.slice a n c] w fun e w' => e = .returned (.int .i64 (lcheckE l)) ∧ Below w.heap.size w w' := by
  have H := hide h
  have hr := h.room
  have HL := hide h.len
  clear h
  go_enter Try.func20, Try.ntmps20
  go_wp2_with fail
  go_loopw [7] (fun iv wr => ∃ k : Nat, k ≤ n ∧ iv = .int .i64 k ∧ Hid (Below w.heap.size w wr) ∧ Hid (UpTo l k)) (fun iv _ => n - (intOf iv).toNat)
  case atStart => exact ⟨0, Nat.zero_le _, rfl, Below.refl _ _, fun j x _ h => by omega, fun j x y _ _ h => by omega⟩
  case round =>
    obtain ⟨k, hk, rfl, HB, HU⟩ := hrel
    by_cases hlt : k < n
    · rcases Nat.eq_zero_or_pos k with rfl | hk0
      · obtain ⟨b, off, x, rfl, hx, hb, M⟩ := rs_at (H.out.below HB.out) hlt
        rw [Nat.zero_mul, Nat.add_zero] at M
        obtain ⟨c0, c1, c2, c3⟩ := M
        have HX := hide hx
        have i1 : (0 : Int) < (n : Int) := by omega
        have MY := fun W => hide (may_any x W)
        unfold rval at MY
        clear hx
        have RX := hide (rb_new wr x)
        obtain ⟨e0, e1, e2, e3⟩ := RX.out.at_
        obtain ⟨w1, ew⟩ : ∃ w1, w1 = wr.alloc (.cells #[.int .i64 x.g, .string x.k, .int .i64 x.ls, .int .i64 x.nt] 43) := ⟨_, rfl⟩
        have HBX : Hid (Below wr.heap.size wr w1) := by rw [ew]; exact Below.alloc (Below.refl _ _) (Nat.le_refl _) _
        have HW : Hid (Below w.heap.size w w1) := HB.out.trans (HBX.out.mono HB.out.size)
        rw [← ew] at e0 e1 e2 e3
        cases hm : mayB x
        · rw [hm] at MY
          have HF := hide hm
          clear hm
          go_wp2_with fail
          rw [← ew]
          clear ew c0 c1 c2 c3
          refine wp_region_cells w [(⟨wr.heap.size, 0, none⟩, .int .i64 x.g), (⟨wr.heap.size, 1, none⟩, .string x.k), (⟨wr.heap.size, 2, none⟩, .int .i64 x.ls), (⟨wr.heap.size, 3, none⟩, .int .i64 x.nt)] (by kernel_rfl) (by kernel_rfl) HW.out (by simp [AllCells, e0, e1, e2, e3]) ?_
          intro hne qq
          simp only [AllCells, and_true] at qq
          clear e0 e1 e2 e3
          repeat (go_big_quiet_step (first | (go_at_call 62; exact Held.call _ (MY _).out)))
          refine wpQuiet_nil ?_
          rintro _ ⟨y9, rfl⟩
          have BQ : Hid (Below w.heap.size w y9.x) := y9.below
          clear qq hne MY
          go_wp2_with fail
          go_returns
          exact ⟨by unfold lcheckE; rw [not_may HX.out HF.out]; rfl, BQ.out⟩
        · rw [hm] at MY
          have HF := hide hm
          clear hm
          go_wp2_with fail
          rw [← ew]
          clear ew c0 c1 c2 c3
          refine wp_region_cells w [(⟨wr.heap.size, 0, none⟩, .int .i64 x.g), (⟨wr.heap.size, 1, none⟩, .string x.k), (⟨wr.heap.size, 2, none⟩, .int .i64 x.ls), (⟨wr.heap.size, 3, none⟩, .int .i64 x.nt)] (by kernel_rfl) (by kernel_rfl) HW.out (by simp [AllCells, e0, e1, e2, e3]) ?_
          intro hne qq
          simp only [AllCells, and_true] at qq
          clear e0 e1 e2 e3
          repeat (go_big_quiet_step (first | (go_at_call 62; exact Held.call _ (MY _).out)))
          refine wpQuiet_nil ?_
          rintro _ ⟨y9, rfl⟩
          have BQ : Hid (Below w.heap.size w y9.x) := y9.below
          clear qq hne MY
          go_wp2_with fail
          go_roundw
          case rel => exact ⟨1, by omega, by go_num, BQ, upto_zero HX.out HF.out⟩
          case measure => simp [intOf]; omega
      · obtain ⟨q, rfl⟩ : ∃ q, k = q + 1 := ⟨k - 1, by omega⟩
        obtain ⟨b, off, x, rfl, hx, hb, M⟩ := rs_at (H.out.below HB.out) hlt
        obtain ⟨c0, c1, c2, c3⟩ := M
        have HX := hide hx
        have i1 : (q : Int) + 1 < (n : Int) := by omega
        have i2 : ((q : Int) + 1).toNat = q + 1 := by omega
        have i3 : (0 : Int) ≤ (q : Int) + 1 := by omega
        have i4 : (0 : Int) < (q : Int) + 1 := by omega
        have i5 : (q : Int) < (n : Int) := by omega
        have i6 : (0 : Int) ≤ (q : Int) := by omega
        have i7 : IntKind.i64.wrap (q : Int) = (q : Int) := by rw [IntKind.wrap_i64]; omega
        have MY := fun W => hide (may_any x W)
        unfold rval at MY
        clear hx
        have RX := hide (rb_new wr x)
        obtain ⟨e0, e1, e2, e3⟩ := RX.out.at_
        obtain ⟨w1, ew⟩ : ∃ w1, w1 = wr.alloc (.cells #[.int .i64 x.g, .string x.k, .int .i64 x.ls, .int .i64 x.nt] 43) := ⟨_, rfl⟩
        have HBX : Hid (Below wr.heap.size wr w1) := by rw [ew]; exact Below.alloc (Below.refl _ _) (Nat.le_refl _) _
        have HW : Hid (Below w.heap.size w w1) := HB.out.trans (HBX.out.mono HB.out.size)
        rw [← ew] at e0 e1 e2 e3
        obtain ⟨b', off', y, e9, hy, hb', M'⟩ := rs_at (H.out.below HW.out) (show q < n by omega)
        cases e9
        have HY := hide hy
        obtain ⟨d0, d1, d2, d3⟩ := M'
        have OD := fun W => hide (order_any y x W)
        unfold rval at OD
        clear hy hb'
        cases hm : mayB x
        · rw [hm] at MY
          have HF := hide hm
          clear hm
          clear OD d0 d1 d2 d3
          go_wp2_with fail
          rw [← ew]
          clear ew c0 c1 c2 c3
          refine wp_region_cells w [(⟨wr.heap.size, 0, none⟩, .int .i64 x.g), (⟨wr.heap.size, 1, none⟩, .string x.k), (⟨wr.heap.size, 2, none⟩, .int .i64 x.ls), (⟨wr.heap.size, 3, none⟩, .int .i64 x.nt)] (by kernel_rfl) (by kernel_rfl) HW.out (by simp [AllCells, e0, e1, e2, e3]) ?_
          intro hne qq
          simp only [AllCells, and_true] at qq
          clear e0 e1 e2 e3
          repeat (go_big_quiet_step (first | (go_at_call 62; exact Held.call _ (MY _).out)))
          refine wpQuiet_nil ?_
          rintro _ ⟨y9, rfl⟩
          have BQ : Hid (Below w.heap.size w y9.x) := y9.below
          clear qq hne MY
          go_wp2_with fail
          go_returns
          exact ⟨by unfold lcheckE; rw [not_may HX.out HF.out]; rfl, BQ.out⟩
        · rw [hm] at MY
          have HF := hide hm
          clear hm
          obtain ⟨o, eo⟩ : ∃ o, o = ordR y x := ⟨_, rfl⟩
          rw [← eo] at OD
          by_cases ho : o < 0
          · have g1 : ¬ 0 ≤ o := by omega
            have HO : Hid (ordR y x < 0) := by show _ < _; rw [← eo]; exact ho
            clear eo
            go_wp2_with fail
            rw [← ew]
            clear ew c0 c1 c2 c3
            refine wp_region_cells w [(⟨wr.heap.size, 0, none⟩, .int .i64 x.g), (⟨wr.heap.size, 1, none⟩, .string x.k), (⟨wr.heap.size, 2, none⟩, .int .i64 x.ls), (⟨wr.heap.size, 3, none⟩, .int .i64 x.nt), (⟨b, off + q * 4, none⟩, .int .i64 y.g), (⟨b, off + q * 4 + 1, none⟩, .string y.k), (⟨b, off + q * 4 + 2, none⟩, .int .i64 y.ls), (⟨b, off + q * 4 + 3, none⟩, .int .i64 y.nt)] (by kernel_rfl) (by kernel_rfl) HW.out (by simp [AllCells, e0, e1, e2, e3, d0, d1, d2, d3]) ?_
            intro hne qq
            simp only [AllCells, and_true] at qq
            clear e0 e1 e2 e3 d0 d1 d2 d3
            repeat (go_big_quiet_step (first | (go_at_call 62; exact Held.call _ (MY _).out) | (go_at_call 64; exact Held.call _ (OD _).out)))
            refine wpQuiet_nil ?_
            rintro _ ⟨y9, rfl⟩
            have BQ : Hid (Below w.heap.size w y9.x) := y9.below
            clear qq hne MY OD
            go_wp2_with fail
            go_roundw
            case rel => exact ⟨q + 1 + 1, by omega, by go_num, BQ, upto_next HU.out HY.out HX.out HF.out HO.out⟩
            case measure => simp [intOf]; omega
          · have g1 : 0 ≤ o := by omega
            have HO : Hid (¬ ordR y x < 0) := by show ¬ _ < _; rw [← eo]; exact ho
            clear eo
            go_wp2_with fail
            rw [← ew]
            clear ew c0 c1 c2 c3
            refine wp_region_cells w [(⟨wr.heap.size, 0, none⟩, .int .i64 x.g), (⟨wr.heap.size, 1, none⟩, .string x.k), (⟨wr.heap.size, 2, none⟩, .int .i64 x.ls), (⟨wr.heap.size, 3, none⟩, .int .i64 x.nt), (⟨b, off + q * 4, none⟩, .int .i64 y.g), (⟨b, off + q * 4 + 1, none⟩, .string y.k), (⟨b, off + q * 4 + 2, none⟩, .int .i64 y.ls), (⟨b, off + q * 4 + 3, none⟩, .int .i64 y.nt)] (by kernel_rfl) (by kernel_rfl) HW.out (by simp [AllCells, e0, e1, e2, e3, d0, d1, d2, d3]) ?_
            intro hne qq
            simp only [AllCells, and_true] at qq
            clear e0 e1 e2 e3 d0 d1 d2 d3
            repeat (go_big_quiet_step (first | (go_at_call 62; exact Held.call _ (MY _).out) | (go_at_call 64; exact Held.call _ (OD _).out)))
            refine wpQuiet_nil ?_
            rintro _ ⟨y9, rfl⟩
            have BQ : Hid (Below w.heap.size w y9.x) := y9.below
            clear qq hne MY OD
            go_wp2_with fail
            go_returns
            exact ⟨by unfold lcheckE; rw [not_ord HY.out HX.out (by have := HO.out; omega)]; rfl, BQ.out⟩
    · obtain rfl : k = n := by omega
      go_wp2_with fail
      go_returns
      exact ⟨by unfold lcheckE; rw [upto_all (by rw [HL.out]; exact HU.out)]; rfl, HB.out⟩
end Go.Proofs.Ytjcbhgkfbilifaa
