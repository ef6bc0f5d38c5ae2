/- The last vote that was accepted for each slot. No condition. -/
import Derived.Test.YtdnniokpkamjjabAccMath
namespace Go.Proofs.Ytdnniokpkamjjab
namespace Am
set_option linter.unusedVariables false

/-- the votes that an acceptor has are the last ones of the list -/
structure LastI (s : As) (L : List Vt) : Prop where
  has : ∀ v ∈ s.vs, ∃ j, L[j]? = some v ∧ ∀ (j' : Nat), j < j' → ∀ (u : Vt), L[j']? = some u → u.s ≠ v.s
  all : ∀ u ∈ L, u.s < s.first ∨ ∃ v ∈ s.vs, v.s = u.s
theorem last_new : LastI newS [] := ⟨fun v hv => absurd hv (by simp [newS]), fun u hu => absurd hu (by simp)⟩
theorem last_prep {s : As} {L : List Vt} (h : LastI s L) (r n : Int) : LastI (prepS s r n) L := by
  unfold prepS
  split
  · exact ⟨h.has, h.all⟩
  · exact h
theorem last_forg {s : As} {L : List Vt} (h : LastI s L) (b : Int) : LastI (forgS s b) L := by
  unfold forgS
  split
  · rename_i e
    simp [forgB] at e
    refine ⟨fun v hv => h.has v (List.mem_filter.1 hv).1, fun u hu => ?_⟩
    rcases h.all u hu with h1 | ⟨v, hv, e2⟩
    · exact .inl (by show u.s < b; omega)
    · by_cases hb : v.s < b
      · exact .inl (by show u.s < b; omega)
      · exact .inr ⟨v, List.mem_filter.2 ⟨hv, by simp; omega⟩, e2⟩
  · exact h
theorem last_no {s : As} {L : List Vt} {v : Vt} (h : LastI s L) (e : accE s v ≠ 0) : LastI (accS s v) L := by
  unfold accS
  rw [if_neg e]
  exact h
theorem last_yes {s : As} {L : List Vt} {v : Vt} (h : LastI s L) (e : accE s v = 0) : LastI (accS s v) (L ++ [v]) := by
  unfold accS
  rw [if_pos e]
  have hmem : ∀ u, u ∈ s.vs → u.s ≠ v.s → u ∈ put s.vs v := fun u hu hne => by
    rcases Int.lt_trichotomy u.s v.s with hc | hc | hc
    · simp [put, hu, hc]
    · exact absurd hc hne
    · simp [put, hu, hc]
  refine ⟨fun u hu => ?_, fun u hu => ?_⟩
  · have hu' : u = v ∨ (u ∈ s.vs ∧ u.s ≠ v.s) := by
      simp only [put, List.mem_append, List.mem_cons, List.mem_filter, decide_eq_true_eq] at hu
      rcases hu with ⟨h1, h2⟩ | h1 | ⟨h1, h2⟩
      · exact .inr ⟨h1, by omega⟩
      · exact .inl h1
      · exact .inr ⟨h1, by omega⟩
    rcases hu' with rfl | ⟨h1, h2⟩
    · refine ⟨L.length, by simp, fun j' hj u' hu' => ?_⟩
      rw [List.getElem?_eq_none (by simp; omega)] at hu'
      cases hu'
    · obtain ⟨j, hj, hlat⟩ := h.has u h1
      have jl : j < L.length := (List.getElem?_eq_some_iff.1 hj).1
      refine ⟨j, by rw [List.getElem?_append_left jl]; exact hj, fun j' hj' u' hu' => ?_⟩
      by_cases hl : j' < L.length
      · rw [List.getElem?_append_left hl] at hu'
        exact hlat j' hj' u' hu'
      · have e2 : j' = L.length := by
          have := (List.getElem?_eq_some_iff.1 hu').1
          simp at this
          omega
        subst e2
        simp at hu'
        rw [← hu']
        exact fun e => h2 e.symm
  · rcases List.mem_append.1 hu with hu | hu
    · rcases h.all u hu with h1 | ⟨x, hx, e2⟩
      · exact .inl h1
      · by_cases hs : x.s = v.s
        · exact .inr ⟨v, by simp [put], by rw [← hs]; exact e2⟩
        · exact .inr ⟨x, hmem x hx hs, e2⟩
    · rw [List.mem_singleton.1 hu]
      exact .inr ⟨v, by simp [put], rfl⟩
/-- the last index below j at which the slot c stands, or -1 -/
def lastIx (L : List Vt) (c : Int) : Nat → Int
  | 0 => -1
  | j + 1 => if (L.getD j ⟨0, 0, 0, []⟩).s = c then (j : Int) else lastIx L c j
theorem lastIx_of {L : List Vt} {v : Vt} {j : Nat} (hj : L[j]? = some v) (hl : ∀ (j' : Nat), j < j' → ∀ (u : Vt), L[j']? = some u → u.s ≠ v.s) : ∀ m, j < m → m ≤ L.length → lastIx L v.s m = (j : Int)
  | 0, h, _ => absurd h (by omega)
  | m + 1, h, hm => by
    unfold lastIx
    by_cases e : m = j
    · subst e
      rw [if_pos (by simp [List.getD, hj])]
    · have hx : ∃ u, L[m]? = some u := ⟨L[m]'(by omega), by simp [show m < L.length by omega]⟩
      obtain ⟨u, hu⟩ := hx
      rw [if_neg (by simp [List.getD, hu]; exact hl m (by omega) u hu)]
      exact lastIx_of hj hl m (by omega) (by omega)
end Am
end Go.Proofs.Ytdnniokpkamjjab
