/- Where a right of that group and key is: the landed search by halves. Condition: the list is a ledger. -/
import Derived.Test.YtjcbhgkfbilifaaFLgCheck
import Derived.Laws.Shifts
namespace Go.Proofs.Ytjcbhgkfbilifaa
open Go.ChangeShapes Go.WideShapes Go.ChangeAt Go.RowKit Ao Lg
set_option linter.unusedVariables false

theorem led_low {l : List Rt} {r x y : Rt} {i j : Nat} (h : Led l) (hx : l[i]? = some x) (hy : l[j]? = some y) (hij : j ≤ i) (ho : ordR x r < 0) : ordR y r < 0 := by
  by_cases e : j = i
  · subst e
    rw [hx] at hy
    obtain rfl := Option.some.inj hy
    exact ho
  · exact ord_trans (led_get h hy hx (by omega)) ho
theorem led_high {l : List Rt} {r x y : Rt} {i j : Nat} (h : Led l) (hx : l[i]? = some x) (hy : l[j]? = some y) (hij : i ≤ j) (ho : ¬ ordR x r < 0) : ¬ ordR y r < 0 := fun h2 => ho (led_low h hy hx hij h2)
set_option maxRecDepth 100000 in
set_option maxHeartbeats 4000000 in
theorem lsearch_any {w : World} {a : Option Addr} {n cp : Nat} {l : List Rt} {r : Rt} (h : Rs w a n l) (hr : Led l) :
    Calls Try.prog 139 #[.slice a n cp, rval r, .func (.func 64) #[] #[]] w fun e w' => e = .returned (.tuple #[.int .i64 (posR r l : Nat), .bool (lkR l r).isSome]) ∧ Below w.heap.size w w' := by
  have hl := h.len
  have hn : n * 40 ≤ 140737488355328 := h.room
  have HR := hide hr
  obtain ⟨p, ep⟩ : ∃ p, p = posR r l := ⟨_, rfl⟩
  obtain ⟨f, ef⟩ : ∃ f, f = lkR l r := ⟨_, rfl⟩
  obtain ⟨fb, efb⟩ : ∃ fb, fb = f.isSome := ⟨_, rfl⟩
  rw [← ep, ← ef, ← efb]
  have HU : Hid (∀ q, q ≤ l.length → (∀ (j : Nat) x, l[j]? = some x → j < q → ordR x r < 0) → (∀ (j : Nat) x, l[j]? = some x → q ≤ j → 0 ≤ ordR x r) → p = q) := fun q h1 h2 h3 => by rw [ep]; exact (posR_unique h1 h2 (fun j x hx hj => by have := h3 j x hx hj; omega)).symm
  have HA : Hid (f = match l[p]? with | some x => if ordR x r = 0 then some x else none | none => none) := by show _ = _; rw [ef, ep]; rfl
  have EF := hide efb
  clear ep ef efb
  have HL := hide hl
  have AG := fun x W => hide (order_any x r W)
  obtain ⟨w0, ew⟩ : ∃ w0, w0 = w.alloc (.cells #[.int .i64 r.g, .string r.k, .int .i64 r.ls, .int .i64 r.nt] 43) := ⟨_, rfl⟩
  have HB0 : Hid (Below w.heap.size w w0) := by rw [ew]; exact Below.alloc (Below.refl _ _) (Nat.le_refl _) _
  have RX : Hid (Rb w0 w.heap.size r) := by rw [ew]; exact rb_new w r
  have H := hide (h.below HB0.out)
  clear h hr hl
  unfold rval at AG ⊢
  go_enter Try.func139, Try.ntmps139
  go_wp2_with fail
  rw [← ew]
  clear ew
  go_loopw [9, 10, 11] (fun s9 s10 _ wr => ∃ lo hi : Nat, s9 = .int .i64 lo ∧ s10 = .int .i64 hi ∧ lo ≤ hi ∧ hi ≤ n ∧ Hid (Below w0.heap.size w0 wr) ∧ Hid ((∀ (j : Nat) x, l[j]? = some x → j < lo → ordR x r < 0) ∧ (∀ (j : Nat) x, l[j]? = some x → hi ≤ j → 0 ≤ ordR x r))) (fun s9 s10 _ _ => (intOf s10).toNat - (intOf s9).toNat)
  case atStart => exact ⟨0, n, rfl, rfl, Nat.zero_le _, Nat.le_refl _, Below.refl _ _, fun j x _ h => absurd h (by omega), fun j x hx h => by have := (List.getElem?_eq_some_iff.1 hx).1; have := HL.out; omega⟩
  case round =>
    obtain ⟨lo, hi, rfl, rfl, hlh, hin, HB, I⟩ := hrel
    obtain ⟨e0, e1, e2, e3⟩ := (RX.out.below HB.out).at_
    by_cases hlt : lo < hi
    · obtain ⟨b, off, x, rfl, hx, hb, M⟩ := rs_at (H.out.below HB.out) (show (lo + hi) / 2 < n by omega)
      obtain ⟨c0, c1, c2, c3⟩ := M
      have HX := hide hx
      have AX := fun W => AG x W
      have qs := half_run ((lo : Int) + (hi : Int))
      clear hx hb AG
      obtain ⟨o, eo⟩ : ∃ o, o = ordR x r := ⟨_, rfl⟩
      by_cases hxc : ordR x r < 0
      · have J : Hid ((∀ (j : Nat) y, l[j]? = some y → j < (lo + hi) / 2 + 1 → ordR y r < 0) ∧ (∀ (j : Nat) y, l[j]? = some y → hi ≤ j → 0 ≤ ordR y r)) := ⟨fun j y hy hj => led_low HR.out HX.out hy (by omega) hxc, I.out.2⟩
        rw [← eo] at AX hxc
        clear eo
        go_wp2_with fail
        refine wp_region_cells w0 [(⟨w.heap.size, 0, none⟩, .int .i64 r.g), (⟨w.heap.size, 1, none⟩, .string r.k), (⟨w.heap.size, 2, none⟩, .int .i64 r.ls), (⟨w.heap.size, 3, none⟩, .int .i64 r.nt), (⟨b, off + (lo + hi) / 2 * 4, none⟩, .int .i64 x.g), (⟨b, off + (lo + hi) / 2 * 4 + 1, none⟩, .string x.k), (⟨b, off + (lo + hi) / 2 * 4 + 2, none⟩, .int .i64 x.ls), (⟨b, off + (lo + hi) / 2 * 4 + 3, none⟩, .int .i64 x.nt)] (by kernel_rfl) (by kernel_rfl) HB.out (by simp [AllCells, e0, e1, e2, e3, c0, c1, c2, c3]) ?_
        intro hne qq
        simp only [AllCells, and_true] at qq
        clear e0 e1 e2 e3 c0 c1 c2 c3
        repeat (go_big_quiet_step (first | (go_at_call 64; exact Held.call _ (AX _).out)))
        refine wpQuiet_nil ?_
        rintro _ ⟨y9, rfl⟩
        have HB1 : Hid (Below w0.heap.size w0 y9.x) := y9.below
        clear qq hne AX
        go_wp2_with fail
        go_roundw
        case rel => exact ⟨(lo + hi) / 2 + 1, hi, by rw [show ((lo : Int) + (hi : Int)) / 2 + 1 = (((lo + hi) / 2 + 1 : Nat) : Int) by omega], rfl, by omega, hin, HB1, J⟩
        case measure => simp [intOf]; omega
      · have J : Hid ((∀ (j : Nat) y, l[j]? = some y → j < lo → ordR y r < 0) ∧ (∀ (j : Nat) y, l[j]? = some y → (lo + hi) / 2 ≤ j → 0 ≤ ordR y r)) := ⟨I.out.1, fun j y hy hj => by have := led_high HR.out HX.out hy hj hxc; omega⟩
        rw [← eo] at AX hxc
        clear eo
        go_wp2_with fail
        refine wp_region_cells w0 [(⟨w.heap.size, 0, none⟩, .int .i64 r.g), (⟨w.heap.size, 1, none⟩, .string r.k), (⟨w.heap.size, 2, none⟩, .int .i64 r.ls), (⟨w.heap.size, 3, none⟩, .int .i64 r.nt), (⟨b, off + (lo + hi) / 2 * 4, none⟩, .int .i64 x.g), (⟨b, off + (lo + hi) / 2 * 4 + 1, none⟩, .string x.k), (⟨b, off + (lo + hi) / 2 * 4 + 2, none⟩, .int .i64 x.ls), (⟨b, off + (lo + hi) / 2 * 4 + 3, none⟩, .int .i64 x.nt)] (by kernel_rfl) (by kernel_rfl) HB.out (by simp [AllCells, e0, e1, e2, e3, c0, c1, c2, c3]) ?_
        intro hne qq
        simp only [AllCells, and_true] at qq
        clear e0 e1 e2 e3 c0 c1 c2 c3
        repeat (go_big_quiet_step (first | (go_at_call 64; exact Held.call _ (AX _).out)))
        refine wpQuiet_nil ?_
        rintro _ ⟨y9, rfl⟩
        have HB1 : Hid (Below w0.heap.size w0 y9.x) := y9.below
        clear qq hne AX
        go_wp2_with fail
        go_roundw
        case rel => exact ⟨lo, (lo + hi) / 2, rfl, by rw [show ((lo : Int) + (hi : Int)) / 2 = (((lo + hi) / 2 : Nat) : Int) by omega], by omega, by omega, HB1, J⟩
        case measure => simp [intOf]; omega
    · obtain rfl : hi = lo := by omega
      obtain rfl := HU.out hi (by rw [HL.out]; exact hin) I.out.1 I.out.2
      have HA2 := HA.out
      by_cases hh : p < n
      · obtain ⟨b, off, x, rfl, hx, hb, M⟩ := rs_at (H.out.below HB.out) hh
        obtain ⟨c0, c1, c2, c3⟩ := M
        have AX := fun W => AG x W
        have hi1 : (p : Int) < (n : Int) := by omega
        have hc := I.out.2 _ _ hx (Nat.le_refl _)
        rw [hx] at HA2
        simp only at HA2
        have HF : Hid (fb = decide (ordR x r = 0)) := by
          show _ = _
          rw [EF.out, HA2]
          by_cases e : ordR x r = 0
          · rw [if_pos e, decide_eq_true e]; rfl
          · rw [if_neg e, decide_eq_false e]; rfl
        generalize ordR x r = o at AX HF
        clear HA2 hx hb hc HA HU AG EF
        go_wp2_with fail
        refine wp_region_cells w0 [(⟨w.heap.size, 0, none⟩, .int .i64 r.g), (⟨w.heap.size, 1, none⟩, .string r.k), (⟨w.heap.size, 2, none⟩, .int .i64 r.ls), (⟨w.heap.size, 3, none⟩, .int .i64 r.nt), (⟨b, off + p * 4, none⟩, .int .i64 x.g), (⟨b, off + p * 4 + 1, none⟩, .string x.k), (⟨b, off + p * 4 + 2, none⟩, .int .i64 x.ls), (⟨b, off + p * 4 + 3, none⟩, .int .i64 x.nt)] (by kernel_rfl) (by kernel_rfl) HB.out (by simp [AllCells, e0, e1, e2, e3, c0, c1, c2, c3]) ?_
        intro hne qq
        simp only [AllCells, and_true] at qq
        clear e0 e1 e2 e3 c0 c1 c2 c3
        repeat (go_big_quiet_step (first | (go_at_call 64; exact Held.call _ (AX _).out)))
        refine wpQuiet_nil ?_
        rintro _ ⟨y9, rfl⟩
        have HB1 : Hid (Below w0.heap.size w0 y9.x) := y9.below
        clear qq hne AX
        go_wp2_with fail
        go_returns
        exact ⟨by rw [HF.out]; first | rfl | simp, HB0.out.trans (HB1.out.mono HB0.out.size)⟩
      · rw [List.getElem?_eq_none (by rw [HL.out]; omega)] at HA2
        simp only at HA2
        have HF : Hid (fb = false) := by show _ = _; rw [EF.out, HA2]; rfl
        have hh2 : ¬ (p : Int) < (n : Int) := by omega
        clear HA2 HA HU AG EF
        go_wp2_with fail
        refine wp_region_cells w0 [(⟨w.heap.size, 0, none⟩, .int .i64 r.g), (⟨w.heap.size, 1, none⟩, .string r.k), (⟨w.heap.size, 2, none⟩, .int .i64 r.ls), (⟨w.heap.size, 3, none⟩, .int .i64 r.nt)] (by kernel_rfl) (by kernel_rfl) HB.out (by simp [AllCells, e0, e1, e2, e3]) ?_
        intro hne qq
        simp only [AllCells, and_true] at qq
        clear e0 e1 e2 e3
        repeat (go_big_quiet_step (fail))
        refine wpQuiet_nil ?_
        rintro _ ⟨y9, rfl⟩
        have HB1 : Hid (Below w0.heap.size w0 y9.x) := y9.below
        clear qq hne
        go_wp2_with fail
        go_returns
        exact ⟨by rw [HF.out]; first | rfl | simp, HB0.out.trans (HB1.out.mono HB0.out.size)⟩
set_option maxRecDepth 100000 in
theorem lplace_any {w : World} {a : Option Addr} {n cp : Nat} {l : List Rt} {r : Rt} (h : Rs w a n l) (hr : Led l) :
    Calls Try.prog 119 #[.slice a n cp, rval r] w fun e w' => e = .returned (.tuple #[.int .i64 (posR r l : Nat), .bool (lkR l r).isSome]) ∧ Below w.heap.size w w' := by
  have C := fun W => hide (fun hW : Below w.heap.size w W => lsearch_any (cp := cp) (r := r) (h.below hW) hr)
  obtain ⟨w0, ew⟩ : ∃ w0, w0 = w.alloc (.cells #[.int .i64 r.g, .string r.k, .int .i64 r.ls, .int .i64 r.nt] 43) := ⟨_, rfl⟩
  have HB0 : Hid (Below w.heap.size w w0) := by rw [ew]; exact Below.alloc (Below.refl _ _) (Nat.le_refl _) _
  clear h hr
  generalize posR r l = p at C ⊢
  generalize (lkR l r).isSome = f at C ⊢
  unfold rval at C ⊢
  go_enter Try.func119, Try.ntmps119
  go_wp2_with fail
  rw [← ew]
  clear ew
  refine ((C _).out HB0.out).mono ?_
  rintro e w1 ⟨rfl, hb⟩
  have HB : Hid (Below w.heap.size w w1) := HB0.out.trans (hb.mono HB0.out.size)
  clear hb
  go_wp2_with fail
  go_returns
  exact ⟨rfl, HB.out⟩
end Go.Proofs.Ytjcbhgkfbilifaa
