/- Where a node's holder is, or would be; holders put in and taken out by places. No program, no condition. -/
import Derived.Test.YtjcbhgkfbilifabAcoLaws
namespace Go.Proofs.Ytjcbhgkfbilifab
namespace Ao
set_option linter.unusedVariables false

/-- where a client's mark is, or would be -/
def posL (c : Int) : List Hd → Nat
  | [] => 0
  | x :: r => if x.nd < c then posL c r + 1 else 0
theorem posL_le (c : Int) : ∀ (l : List Hd), posL c l ≤ l.length
  | [] => Nat.le_refl _
  | x :: r => by
    unfold posL
    split
    · have := posL_le c r; simp; omega
    · omega
theorem posL_below {c : Int} : ∀ {l : List Hd} {j : Nat} {x : Hd}, l[j]? = some x → j < posL c l → x.nd < c
  | [], j, x, h, _ => by simp at h
  | y :: r, j, x, h, hj => by
    unfold posL at hj
    split at hj
    · rename_i hy
      cases j with
      | zero => simp at h; subst h; exact hy
      | succ j => exact posL_below (l := r) (by simpa using h) (by omega)
    · omega
theorem posL_above {b c : Int} : ∀ {l : List Hd} {j : Nat} {x : Hd}, hsB b l = true → l[j]? = some x → posL c l ≤ j → c ≤ x.nd
  | [], j, x, _, h, _ => by simp at h
  | y :: r, j, x, hr, h, hj => by
    obtain ⟨h1, h2, h3⟩ := hs_cons hr
    unfold posL at hj
    by_cases hy : y.nd < c
    · rw [if_pos hy] at hj
      cases j with
      | zero => omega
      | succ j => exact posL_above (l := r) h3 (by simpa using h) (by omega)
    · cases j with
      | zero => simp at h; subst h; omega
      | succ j =>
        have h4 := (hs_mem h3 x (List.mem_of_getElem? (by simpa using h))).1
        omega
theorem posL_unique {b c : Int} {l : List Hd} {p : Nat} (hr : hsB b l = true) (hp : p ≤ l.length) (h1 : ∀ j x, l[j]? = some x → j < p → x.nd < c) (h2 : ∀ j x, l[j]? = some x → p ≤ j → c ≤ x.nd) : p = posL c l := by
  have h3 := posL_le c l
  rcases Nat.lt_trichotomy p (posL c l) with h | h | h
  · have hlt : p < l.length := by omega
    have a := posL_below (c := c) (List.getElem?_eq_getElem hlt) h
    have b := h2 p _ (List.getElem?_eq_getElem hlt) (Nat.le_refl _)
    omega
  · exact h
  · have hlt : posL c l < l.length := by omega
    have a := posL_above (c := c) hr (List.getElem?_eq_getElem hlt) (Nat.le_refl _)
    have b := h1 _ _ (List.getElem?_eq_getElem hlt) h
    omega
theorem posL_at {b c : Int} : ∀ {l : List Hd}, hsB b l = true → findH l c = match l[posL c l]? with | some x => if x.nd = c then some x else none | none => none
  | [], _ => rfl
  | y :: r, hr => by
    obtain ⟨h1, h2, h3⟩ := hs_cons hr
    rw [find_cons]
    unfold posL
    by_cases hy : y.nd < c
    · rw [if_pos hy, if_neg (by omega), List.getElem?_cons_succ]
      exact posL_at h3
    · rw [if_neg hy]
      simp only [List.getElem?_cons_zero]
      by_cases e : y.nd = c
      · rw [if_pos e, if_pos e]
      · rw [if_neg e, if_neg e]
        exact find_low h3 (by omega)
theorem ins_new {m : Hd} : ∀ {l : List Hd} {b : Int}, hsB b l = true → findH l m.nd = none → insH m l = l.take (posL m.nd l) ++ [m] ++ l.drop (posL m.nd l)
  | [], b, _, _ => rfl
  | x :: r, b, h, hn => by
    obtain ⟨h1, h2, h3⟩ := hs_cons h
    rw [find_cons] at hn
    have e2 : ¬ x.nd = m.nd := by
      intro e
      rw [if_pos e] at hn
      cases hn
    rw [if_neg e2] at hn
    unfold insH posL
    by_cases e : x.nd < m.nd
    · rw [if_pos e, if_pos e, ins_new h3 hn]
      simp
    · rw [if_neg e, if_neg e2, if_neg e]
      simp
theorem ins_old {m y : Hd} : ∀ {l : List Hd} {b : Int}, hsB b l = true → findH l m.nd = some y → insH m l = l.set (posL m.nd l) m ∧ posL m.nd l < l.length
  | [], b, _, hn => by cases hn
  | x :: r, b, h, hn => by
    obtain ⟨h1, h2, h3⟩ := hs_cons h
    rw [find_cons] at hn
    unfold insH posL
    by_cases e : x.nd < m.nd
    · rw [if_neg (by omega)] at hn
      obtain ⟨h4, h5⟩ := ins_old h3 hn
      rw [if_pos e, if_pos e, h4]
      simp; exact h5
    · by_cases e2 : x.nd = m.nd
      · rw [if_neg e, if_pos e2, if_neg e]
        simp
      · rw [if_neg e2] at hn
        rw [find_low h3 (by omega)] at hn
        cases hn
theorem drop_at {c : Int} {y : Hd} : ∀ {l : List Hd} {b : Int}, hsB b l = true → findH l c = some y → dropH l c = l.take (posL c l) ++ l.drop (posL c l + 1) ∧ posL c l < l.length ∧ l[posL c l]? = some y
  | [], b, _, hn => by cases hn
  | x :: r, b, h, hn => by
    obtain ⟨h1, h2, h3⟩ := hs_cons h
    rw [find_cons] at hn
    unfold posL
    by_cases e : x.nd < c
    · rw [if_neg (by omega)] at hn
      obtain ⟨h4, h5, h6⟩ := drop_at h3 hn
      rw [if_pos e, drop_cons, if_neg (by omega), h4]
      refine ⟨by simp, by simp; exact h5, by rw [List.getElem?_cons_succ]; exact h6⟩
    · by_cases e2 : x.nd = c
      · rw [if_pos e2] at hn
        rw [if_neg e, drop_cons, if_pos e2, drop_none (find_low h3 (by omega))]
        exact ⟨by simp, by simp, by simpa using hn⟩
      · rw [if_neg e2] at hn
        rw [find_low h3 (by omega)] at hn
        cases hn
end Ao
end Go.Proofs.Ytjcbhgkfbilifab
