/- Maps, plainly: Froms rise, each key is had by one place. No condition. -/
import Derived.Test.YthfjndlmihepbaaRgCheck
namespace Go.Proofs.Ythfjndlmihepbaa
open Rg
set_option linter.unusedVariables false

/-- a map's parts, at a place -/
theorem right_at {l : List Pc} (h : rightB l = true) {k : Nat} {p : Pc} (hp : l[k]? = some p) : mayB p = true ∧ ofB (l.take k) p.g = false := by
  have := (right_parts h).2.2.2 k (List.getElem?_eq_some_iff.1 hp).1
  unfold okAt at this
  rw [hp] at this
  simp only [Bool.and_eq_true, Bool.not_eq_true'] at this
  exact this.1
theorem right_step {l : List Pc} (h : rightB l = true) {k : Nat} {p q : Pc} (hp : l[k]? = some p) (hq : l[k + 1]? = some q) : ltB p.k q.k = true := by
  have := (right_parts h).2.2.2 (k + 1) (List.getElem?_eq_some_iff.1 hq).1
  rw [ok_next hp hq] at this
  simp only [Bool.and_eq_true] at this
  exact this.2
theorem right_rise {l : List Pc} (h : rightB l = true) : ∀ (d : Nat) {i : Nat} {p q : Pc}, l[i]? = some p → l[i + 1 + d]? = some q → ltB p.k q.k = true
  | 0, i, p, q, hp, hq => right_step h hp hq
  | d + 1, i, p, q, hp, hq => by
    obtain ⟨r, hr⟩ : ∃ r, l[i + 1 + d]? = some r := ⟨_, List.getElem?_eq_getElem (by have := (List.getElem?_eq_some_iff.1 hq).1; omega)⟩
    exact lt_trans (right_rise h d hp hr) (right_step h hr hq)
theorem right_lt {l : List Pc} (h : rightB l = true) {i j : Nat} {p q : Pc} (hp : l[i]? = some p) (hq : l[j]? = some q) (hij : i < j) : ltB p.k q.k = true := by
  obtain ⟨d, rfl⟩ : ∃ d, j = i + 1 + d := ⟨j - (i + 1), by omega⟩
  exact right_rise h d hp hq
theorem right_zero {l : List Pc} (h : rightB l = true) {p : Pc} (hp : l[0]? = some p) : p.k = none0 := by
  have := (right_parts h).2.2.1
  cases l with
  | nil => simp at hp
  | cons z r =>
    simp at hp
    subst hp
    exact of_decide_eq_true this
theorem right_some {l : List Pc} (h : rightB l = true) {k : Nat} {p : Pc} (hp : l[k + 1]? = some p) : ¬ p.k = none0 := by
  obtain ⟨r, hr⟩ : ∃ r, l[k]? = some r := ⟨_, List.getElem?_eq_getElem (by have := (List.getElem?_eq_some_iff.1 hp).1; omega)⟩
  intro e
  have := right_step h hr hp
  rw [e, lt_none] at this
  cases this
/-- a place has a key just if the key is not below its From, and below the next one's -/
theorem has_iff {l : List Pc} (h : rightB l = true) {key : ByteArray} {k : Nat} {p : Pc} (hp : l[k]? = some p) : hasB l key k = true ↔ ltB key p.k = false ∧ ∀ q, l[k + 1]? = some q → ltB key q.k = true := by
  rw [hasB_at hp]
  unfold withinB
  simp only [Bool.and_eq_true, Bool.not_eq_true', Bool.or_eq_true, decide_eq_true_eq]
  cases hq : l[k + 1]? with
  | none =>
    rw [endN_none (List.getElem?_eq_none_iff.1 hq)]
    simp
  | some q =>
    rw [endN_some hq]
    have := right_some h hq
    constructor
    · rintro ⟨h1, h2 | h2⟩
      · exact ⟨h1, fun q' hq' => by cases hq'; exact h2⟩
      · exact absurd h2 this
    · rintro ⟨h1, h2⟩
      exact ⟨h1, .inl (h2 q rfl)⟩
theorem has_in {l : List Pc} {key : ByteArray} {k : Nat} (h : hasB l key k = true) : k < l.length := by
  unfold hasB at h
  cases e : l[k]? with
  | none => rw [e] at h; cases h
  | some p => exact (List.getElem?_eq_some_iff.1 e).1
/-- no two places have a key -/
theorem has_one {l : List Pc} (h : rightB l = true) {key : ByteArray} {i j : Nat} (hi : hasB l key i = true) (hj : hasB l key j = true) : i = j := by
  have aux : ∀ i j, i < j → hasB l key i = true → hasB l key j = true → False := by
    intro i j hij hi hj
    have hjl := has_in hj
    obtain ⟨p, hp⟩ : ∃ p, l[i]? = some p := ⟨_, List.getElem?_eq_getElem (by omega)⟩
    obtain ⟨q, hq⟩ : ∃ q, l[j]? = some q := ⟨_, List.getElem?_eq_getElem hjl⟩
    obtain ⟨r, hr⟩ : ∃ r, l[i + 1]? = some r := ⟨_, List.getElem?_eq_getElem (by omega)⟩
    have h1 := ((has_iff h hp).1 hi).2 r hr
    have h2 := ((has_iff h hq).1 hj).1
    by_cases e : j = i + 1
    · subst e
      rw [hr] at hq
      cases hq
      rw [h1] at h2
      cases h2
    · have := right_lt h hr hq (show i + 1 < j by omega)
      rw [lt_trans h1 this] at h2
      cases h2
  rcases Nat.lt_trichotomy i j with e | e | e
  · exact (aux i j e hi hj).elim
  · exact e
  · exact (aux j i e hj hi).elim
/-- one has it -/
theorem has_some {l : List Pc} (h : rightB l = true) (key : ByteArray) : ∃ k, hasB l key k = true := by
  have hl := (right_parts h).1
  have step : ∀ d k p, l[k]? = some p → l.length = k + 1 + d → ltB key p.k = false → ∃ k, hasB l key k = true := by
    intro d
    induction d with
    | zero =>
      intro k p hp hd hk
      exact ⟨k, (has_iff h hp).2 ⟨hk, fun q hq => by have := (List.getElem?_eq_some_iff.1 hq).1; omega⟩⟩
    | succ d ih =>
      intro k p hp hd hk
      obtain ⟨q, hq⟩ : ∃ q, l[k + 1]? = some q := ⟨_, List.getElem?_eq_getElem (by omega)⟩
      cases e : ltB key q.k
      · exact ih (k + 1) q hq (by omega) e
      · exact ⟨k, (has_iff h hp).2 ⟨hk, fun q' hq' => by rw [hq] at hq'; cases hq'; exact e⟩⟩
  obtain ⟨p, hp⟩ : ∃ p, l[0]? = some p := ⟨_, List.getElem?_eq_getElem (by omega)⟩
  exact step (l.length - 1) 0 p hp (by omega) (by rw [right_zero h hp]; exact lt_none key)
theorem find_has {l : List Pc} (h : rightB l = true) (key : ByteArray) : findV l key < l.length ∧ hasB l key (findV l key) = true ∧ ∀ j, hasB l key j = true → j = findV l key := by
  obtain ⟨k, hk⟩ := has_some h key
  unfold findV
  cases e : firstO (hasB l key) l.length with
  | none => rw [first_no e k (has_in hk)] at hk; cases hk
  | some q =>
    obtain ⟨h1, h2, h3⟩ := first_some e
    exact ⟨h1, h2, fun j hj => has_one h hj h2⟩
theorem find_is {l : List Pc} (h : rightB l = true) {key : ByteArray} {k : Nat} (hk : hasB l key k = true) : findV l key = k := ((find_has h key).2.2 k hk).symm
theorem find_not {l : List Pc} (h : rightB l = true) {key : ByteArray} {k : Nat} (hk : ¬ k = findV l key) : hasB l key k = false := by
  cases e : hasB l key k
  · rfl
  · exact absurd ((find_has h key).2.2 k e) hk
end Go.Proofs.Ythfjndlmihepbaa
