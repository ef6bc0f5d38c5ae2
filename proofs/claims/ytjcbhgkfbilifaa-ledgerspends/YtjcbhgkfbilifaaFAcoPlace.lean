/- Where a node's holder is: the landed search by halves. Condition: the list is right. -/
import Derived.Test.YtjcbhgkfbilifaaFAcoCheck
import Derived.Test.YtjcbhgkfbilifaaJU
import Derived.Laws.Shifts
namespace Go.Proofs.Ytjcbhgkfbilifaa
open Go.ChangeShapes Go.WideShapes Go.ChangeAt Go.RowKit Ao
set_option linter.unusedVariables false

def cmpI (x y : Int) : Int := if x < y then -1 else if y < x then 1 else 0
theorem nan_any (x : Int) (w : World) : Calls Try.prog 142 #[.int .i64 x] w fun e w' => e = .returned (.bool false) ∧ w' = w := by
  go_enter Try.func142, Try.ntmps142
  go_wp2_with fail
  go_ret
  exact ⟨by simp, rfl⟩
theorem compare_any (x y : Int) (w : World) : Calls Try.prog 122 #[.int .i64 x, .int .i64 y] w fun e w' => e = .returned (.int .i64 (cmpI x y)) ∧ w' = w := by
  go_enter Try.func122, Try.ntmps122
  go_wp2_with (go_at_call 142; refine (nan_any _ _).mono ?_; rintro e w' ⟨rfl, hw⟩; rw [hw])
  all_goals (go_ret; refine ⟨?_, rfl⟩; unfold cmpI; (repeat' split) <;> first | rfl | (exfalso; omega))
theorem against_any (x : Hd) (c : Int) (w : World) : Calls Try.prog 135 #[hval x, .int .i64 c] w fun e w' => e = .returned (.int .i64 (cmpI x.nd c)) ∧ Below w.heap.size w w' := by
  have C1 := fun W => hide (compare_any x.nd c W)
  unfold hval
  generalize cmpI x.nd c = r at C1
  go_enter Try.func135, Try.ntmps135
  go_wp2_with fail
  refine (C1 _).out.mono ?_
  rintro e w1 ⟨rfl, rfl⟩
  go_wp2_with fail
  go_returns
  exact ⟨rfl, by go_grown⟩
theorem hs_mono {b : Int} : ∀ {l : List Hd} {i j : Nat} {x y : Hd}, hsB b l = true → l[i]? = some x → l[j]? = some y → i ≤ j → x.nd ≤ y.nd
  | [], i, j, x, y, _, h, _, _ => by simp at h
  | z :: r, 0, 0, x, y, h, hx, hy, _ => by simp at hx hy; subst hx; subst hy; exact Int.le_refl _
  | z :: r, 0, j + 1, x, y, h, hx, hy, _ => by
    obtain ⟨h1, h2, h3⟩ := hs_cons h
    simp at hx
    subst hx
    have := (hs_mem h3 y (List.mem_of_getElem? (by simpa using hy))).1
    omega
  | z :: r, i + 1, 0, x, y, h, hx, hy, hij => by omega
  | z :: r, i + 1, j + 1, x, y, h, hx, hy, hij => by
    obtain ⟨h1, h2, h3⟩ := hs_cons h
    exact hs_mono (l := r) h3 (by simpa using hx) (by simpa using hy) (by omega)
theorem half_run (x : Int) (W : World) : (binOp .shr 133 (.int .u64 x) (.int .u64 1)).run Try.prog W = .ok (.int .u64 (x / 2)) W := by
  rw [binOp_shr, shift_shr_any _ _ _ _ (by omega)]
  simp
  rw [show (2 : Int) ^ min 1 IntKind.u64.bits = 2 from rfl]
set_option maxRecDepth 100000 in
set_option maxHeartbeats 2000000 in
theorem search_any {w : World} {a : Option Addr} {n cp : Nat} {l : List Hd} {c : Int} (h : Hs w a n l) (hr : hsB 0 l = true) :
    Calls Try.prog 134 #[.slice a n cp, .int .i64 c, .func (.func 135) #[] #[]] w fun e w' => e = .returned (.tuple #[.int .i64 (posL c l : Nat), .bool (findH l c).isSome]) ∧ Below w.heap.size w w' := by
  have H := hide h
  have hl := h.len
  have hn : n ≤ 5 := by have := hs_length hr; omega
  have HR := hide hr
  obtain ⟨p, ep⟩ : ∃ p, p = posL c l := ⟨_, rfl⟩
  obtain ⟨f, ef⟩ : ∃ f, f = findH l c := ⟨_, rfl⟩
  obtain ⟨fb, efb⟩ : ∃ fb, fb = f.isSome := ⟨_, rfl⟩
  rw [← ep, ← ef, ← efb]
  have HU : Hid (∀ q, q ≤ l.length → (∀ j x, l[j]? = some x → j < q → x.nd < c) → (∀ j x, l[j]? = some x → q ≤ j → c ≤ x.nd) → p = q) := fun q h1 h2 h3 => by rw [ep]; exact (posL_unique hr h1 h2 h3).symm
  have HA : Hid (f = match l[p]? with | some x => if x.nd = c then some x else none | none => none) := by show _ = _; rw [ef, ep]; exact posL_at hr
  have EF := hide efb
  clear ep ef efb
  have HL := hide hl
  clear h hr hl
  have AG := fun x W => hide (against_any x c W)
  unfold hval at AG
  go_enter Try.func134, Try.ntmps134
  go_wp2_with fail
  go_loopw [9, 10, 11] (fun s9 s10 _ wr => ∃ lo hi : Nat, s9 = .int .i64 lo ∧ s10 = .int .i64 hi ∧ lo ≤ hi ∧ hi ≤ n ∧ Hid (Below w.heap.size w wr) ∧ Hid ((∀ j x, l[j]? = some x → j < lo → x.nd < c) ∧ (∀ j x, l[j]? = some x → hi ≤ j → c ≤ x.nd))) (fun s9 s10 _ _ => (intOf s10).toNat - (intOf s9).toNat)
  case atStart => exact ⟨0, n, rfl, rfl, Nat.zero_le _, Nat.le_refl _, Below.refl _ _, fun j x _ h => absurd h (by omega), fun j x hx h => by have := (List.getElem?_eq_some_iff.1 hx).1; have := HL.out; omega⟩
  case round =>
    obtain ⟨lo, hi, rfl, rfl, hlh, hin, HB, I⟩ := hrel
    by_cases hlt : lo < hi
    · obtain ⟨b, off, x, rfl, hx, hb, M⟩ := hs_at (H.out.below HB.out) (show (lo + hi) / 2 < n by omega)
      obtain ⟨c0, c1, c2, c3⟩ := M
      have HX := hide hx
      have AX := fun W => AG x W
      have qs := half_run ((lo : Int) + (hi : Int))
      clear hx hb
      by_cases hxc : x.nd < c
      · have e0 : cmpI x.nd c = -1 := by unfold cmpI; rw [if_pos hxc]
        rw [e0] at AX
        have J : Hid ((∀ j y, l[j]? = some y → j < (lo + hi) / 2 + 1 → y.nd < c) ∧ (∀ j y, l[j]? = some y → hi ≤ j → c ≤ y.nd)) := ⟨fun j y hy hj => by
          have := hs_mono HR.out hy HX.out (by omega)
          omega, I.out.2⟩
        clear hxc e0 AG
        go_wp2_with fail
        refine (AX _).out.mono ?_
        rintro e w1 ⟨rfl, hb1⟩
        have HB1 : Hid (Below w.heap.size w w1) := HB.out.trans (hb1.mono HB.out.size)
        clear hb1
        go_wp2_with fail
        go_roundw
        case rel => exact ⟨(lo + hi) / 2 + 1, hi, by rw [show ((lo : Int) + (hi : Int)) / 2 + 1 = (((lo + hi) / 2 + 1 : Nat) : Int) by omega], rfl, by omega, hin, HB1, J⟩
        case measure => simp [intOf]; omega
      · have e0 : cmpI x.nd c = if c < x.nd then 1 else 0 := by unfold cmpI; rw [if_neg hxc]
        obtain ⟨r, er⟩ : ∃ r, r = cmpI x.nd c := ⟨_, rfl⟩
        have hr0 : ¬ r < 0 := by rw [er, e0]; split <;> omega
        rw [← er] at AX
        have J : Hid ((∀ j y, l[j]? = some y → j < lo → y.nd < c) ∧ (∀ j y, l[j]? = some y → (lo + hi) / 2 ≤ j → c ≤ y.nd)) := ⟨I.out.1, fun j y hy hj => by
          have := hs_mono HR.out HX.out hy hj
          omega⟩
        clear hxc e0 AG er
        go_wp2_with fail
        refine (AX _).out.mono ?_
        rintro e w1 ⟨rfl, hb1⟩
        have HB1 : Hid (Below w.heap.size w w1) := HB.out.trans (hb1.mono HB.out.size)
        clear hb1
        go_wp2_with fail
        go_roundw
        case rel => exact ⟨lo, (lo + hi) / 2, rfl, by rw [show ((lo : Int) + (hi : Int)) / 2 = (((lo + hi) / 2 : Nat) : Int) by omega], by omega, by omega, HB1, J⟩
        case measure => simp [intOf]; omega
    · obtain rfl : hi = lo := by omega
      obtain rfl := HU.out hi (by rw [HL.out]; exact hin) I.out.1 I.out.2
      have HA2 := HA.out
      by_cases hh : p < n
      · obtain ⟨b, off, x, rfl, hx, hb, M⟩ := hs_at (H.out.below HB.out) hh
        obtain ⟨c0, c1, c2, c3⟩ := M
        have AX := fun W => AG x W
        have hi1 : (p : Int) < (n : Int) := by omega
        have hc := I.out.2 _ _ hx (Nat.le_refl _)
        rw [hx] at HA2
        simp only at HA2
        have HF : Hid (fb = decide (cmpI x.nd c = 0)) := by
          show _ = _
          rw [EF.out, HA2]
          unfold cmpI
          by_cases e : x.nd = c
          · rw [if_pos e, if_neg (by omega), if_neg (by omega)]; rfl
          · rw [if_neg e, if_neg (by omega), if_pos (by omega)]; rfl
        generalize cmpI x.nd c = r at AX HF
        clear HA2 hx hb hc HA HU AG EF
        go_wp2_with fail
        refine (AX _).out.mono ?_
        rintro e w1 ⟨rfl, hb1⟩
        have HB1 : Hid (Below w.heap.size w w1) := HB.out.trans (hb1.mono HB.out.size)
        clear hb1
        go_wp2_with fail
        go_returns
        exact ⟨by rw [HF.out]; first | rfl | simp, HB1.out⟩
      · rw [List.getElem?_eq_none (by rw [HL.out]; omega)] at HA2
        simp only at HA2
        have HF : Hid (fb = false) := by show _ = _; rw [EF.out, HA2]; rfl
        clear HA2 HA HU AG EF
        go_wp2_with fail
        go_returns
        exact ⟨by rw [HF.out]; first | rfl | simp, HB.out⟩
set_option maxRecDepth 100000 in
theorem place_any {w : World} {a : Option Addr} {n cp : Nat} {l : List Hd} {c : Int} (h : Hs w a n l) (hr : hsB 0 l = true) :
    Calls Try.prog 100 #[.slice a n cp, .int .i64 c] w fun e w' => e = .returned (.tuple #[.int .i64 (posL c l : Nat), .bool (findH l c).isSome]) ∧ Below w.heap.size w w' := by
  have C := hide (search_any (cp := cp) (c := c) h hr)
  clear h hr
  go_enter Try.func100, Try.ntmps100
  go_wp2_with fail
  refine C.out.mono ?_
  rintro e w1 ⟨rfl, hb⟩
  have HB := hide hb
  clear hb
  go_wp2_with fail
  go_returns
  exact ⟨rfl, HB.out⟩
end Go.Proofs.Ytjcbhgkfbilifaa
