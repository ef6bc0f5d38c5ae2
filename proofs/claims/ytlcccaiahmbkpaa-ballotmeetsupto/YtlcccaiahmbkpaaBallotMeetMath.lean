/- Two lists that each name more than half of some nodes name one in common; more names are never fewer: as plain numbers. No condition. -/
import Derived.Test.YtlcccaiahmbkpaaBallotCount
namespace Go.Proofs.Ytlcccaiahmbkpaa
set_option linter.unusedVariables false

theorem nb_mono (nodes : Int) (a b : List Int) (i : Nat) : bi (nb nodes a i) ≤ bi (nb nodes (a ++ b) i) := by
  by_cases h : nb nodes a i = true
  · have h2 : nb nodes (a ++ b) i = true := by
      have := of_decide_eq_true h
      exact decide_eq_true ⟨this.1, this.2.1, List.mem_append_left _ this.2.2⟩
    rw [h, h2]
    exact Int.le_refl _
  · have : nb nodes a i = false := by simpa using h
    rw [this]
    exact (bi_bd _).1
theorem cnt_mono (nodes : Int) (a b : List Int) : cntV nodes a ≤ cntV nodes (a ++ b) := by
  unfold cntV
  split
  · have h1 := nb_mono nodes a b 1
    have h2 := nb_mono nodes a b 2
    have h3 := nb_mono nodes a b 3
    have h4 := nb_mono nodes a b 4
    have h5 := nb_mono nodes a b 5
    unfold cn
    omega
  · exact Int.le_refl _
theorem en_mono {nodes : Int} {a : List Int} (b : List Int) (h : enB nodes a = true) : enB nodes (a ++ b) = true := by
  have := of_decide_eq_true h
  have h2 := cnt_mono nodes a b
  exact decide_eq_true ⟨this.1, by omega⟩
/-- x is a node that both name -/
def Both (nodes : Int) (a b : List Int) : Prop := ∃ x, x ∈ a ∧ x ∈ b ∧ 1 ≤ x ∧ x ≤ nodes
theorem nb_apart {nodes : Int} {a b : List Int} (h : ¬ Both nodes a b) (i : Nat) : bi (nb nodes a i) + bi (nb nodes b i) ≤ if 1 ≤ (i : Int) ∧ (i : Int) ≤ nodes then 1 else 0 := by
  have ha := bi_bd (nb nodes a i)
  have hb := bi_bd (nb nodes b i)
  by_cases h1 : nb nodes a i = true
  · by_cases h2 : nb nodes b i = true
    · have x1 := of_decide_eq_true h1
      have x2 := of_decide_eq_true h2
      exact absurd ⟨(i : Int), x1.2.2, x2.2.2, x1.1, x1.2.1⟩ h
    · have x1 := of_decide_eq_true h1
      rw [show nb nodes b i = false by simpa using h2, if_pos ⟨x1.1, x1.2.1⟩]
      have : bi false = 0 := rfl
      omega
  · rw [show nb nodes a i = false by simpa using h1]
    by_cases h2 : nb nodes b i = true
    · have x2 := of_decide_eq_true h2
      rw [if_pos ⟨x2.1, x2.2.1⟩]
      have : bi false = 0 := rfl
      omega
    · rw [show nb nodes b i = false by simpa using h2]
      have : bi false = 0 := rfl
      split <;> omega
theorem meet {nodes : Int} {a b : List Int} (ha : enB nodes a = true) (hb : enB nodes b = true) : Both nodes a b := by
  refine Classical.byContradiction fun h => ?_
  have x1 := of_decide_eq_true ha
  have x2 := of_decide_eq_true hb
  obtain ⟨hn, x1⟩ := x1
  have x2 := x2.2
  rw [show cntV nodes a = cn nodes a from if_pos hn, show quoV nodes = nodes / 2 + 1 from if_pos hn] at x1
  rw [show cntV nodes b = cn nodes b from if_pos hn, show quoV nodes = nodes / 2 + 1 from if_pos hn] at x2
  have h1 := nb_apart h 1
  have h2 := nb_apart h 2
  have h3 := nb_apart h 3
  have h4 := nb_apart h 4
  have h5 := nb_apart h 5
  unfold cn at x1 x2
  rcases (show nodes = 1 ∨ nodes = 2 ∨ nodes = 3 ∨ nodes = 4 ∨ nodes = 5 by omega) with rfl | rfl | rfl | rfl | rfl <;> simp at h1 h2 h3 h4 h5 <;> omega
theorem both_at {nodes : Int} {a b : List Int} (h : Both nodes a b) : ∃ i k, i < a.length ∧ k < b.length ∧ a[i]?.getD 0 = b[k]?.getD 0 ∧ 1 ≤ a[i]?.getD 0 ∧ a[i]?.getD 0 ≤ nodes := by
  obtain ⟨x, h1, h2, h3, h4⟩ := h
  obtain ⟨i, hi, rfl⟩ := List.mem_iff_getElem.1 h1
  obtain ⟨k, hk, e⟩ := List.mem_iff_getElem.1 h2
  refine ⟨i, k, hi, hk, ?_⟩
  rw [List.getElem?_eq_getElem hi, List.getElem?_eq_getElem hk]
  simp [e, h3, h4]
end Go.Proofs.Ytlcccaiahmbkpaa
