/- Whatever bytes are read as a number or a text, written again they are these bytes: plain functions. No Go in sight. -/
import Derived.Test.YtadjdiocipahhaaCodecBackMath
namespace Go.Proofs.Ytadjdiocipahhaa
namespace Cm
set_option linter.unusedVariables false

/-- a number that was read: its bytes -/
theorem one_num (bs : List Int) (hb : ∀ x ∈ bs, 0 ≤ x ∧ x ≤ 255) (h : (numG bs 0 0).e = 0) :
    numA bs ⟨0, 0⟩ = ⟨(numG bs 0 0).v, ⟨(numG bs 0 0).used, 0⟩⟩ ∧ bs.take (numG bs 0 0).used = numB (numG bs 0 0).v ∧ 1 ≤ (numG bs 0 0).used ∧ (numG bs 0 0).used ≤ 10 ∧ (numG bs 0 0).used ≤ bs.length := by
  have e := numA_good bs ⟨0, 0⟩ rfl h
  have u := numG_used bs 0 0 h
  have t := numB_numG bs hb h
  have l := (numB_length (numG bs 0 0).v).2
  rw [← t] at l
  simp only [List.length_take] at l
  refine ⟨?_, t, u.1, by omega, by omega⟩
  rw [e]
  show (⟨(numG (bs.drop 0) 0 0).v, ⟨0 + (numG (bs.drop 0) 0 0).used, 0⟩⟩ : Ans Nat) = _
  rw [List.drop_zero, Nat.zero_add]
theorem one_bad (bs : List Int) (h : ¬ (numG bs 0 0).e = 0) (most : Int) : ¬ (numA bs ⟨0, 0⟩).s.err = 0 ∧ ¬ (textA bs most ⟨0, 0⟩).s.err = 0 := by
  have e : numA bs ⟨0, 0⟩ = ⟨0, ⟨0, (numG bs 0 0).e⟩⟩ := numA_bad bs ⟨0, 0⟩ rfl h
  have c : countA bs most ⟨0, 0⟩ = ⟨0, ⟨0, (numG bs 0 0).e⟩⟩ := by
    rw [countA_good _ _ _ (by rw [e]; show ¬ _ < ((0 : Nat) : Int); omega), e]
  rw [textA_fault _ _ _ (by rw [c]; exact h), e, c]
  exact ⟨h, h⟩
theorem one_text (bs : List Int) (hb : ∀ x ∈ bs, 0 ≤ x ∧ x ≤ 255) (most : Int) (h : (textA bs most ⟨0, 0⟩).s.err = 0) :
    numB (textA bs most ⟨0, 0⟩).v.length ++ (textA bs most ⟨0, 0⟩).v = bs.take (textA bs most ⟨0, 0⟩).s.pl ∧ (textA bs most ⟨0, 0⟩).s.pl ≤ bs.length := by
  have hg : (numG bs 0 0).e = 0 := Decidable.by_contra fun h' => (one_bad bs h' most).2 h
  obtain ⟨en, et, u1, u2, u3⟩ := one_num bs hb hg
  by_cases h1 : max 0 most < ((numA bs ⟨0, 0⟩).v : Int)
  · have c := countA_long bs most ⟨0, 0⟩ h1
    rw [textA_fault _ _ _ (by rw [c]; exact (show ¬ (22 : Int) = 0 by decide)), c] at h
    exact absurd h (show ¬ (22 : Int) = 0 by decide)
  · have c := countA_good bs most ⟨0, 0⟩ h1
    rw [en] at c
    by_cases h2 : bs.length - (numG bs 0 0).used < (numG bs 0 0).v
    · rw [textA_short _ _ _ (by rw [c]) (by rw [c]; exact h2)] at h
      exact absurd h (show ¬ (20 : Int) = 0 by decide)
    · rw [textA_good _ _ _ (by rw [c]) (by rw [c]; exact h2), c]
      have hl : ((bs.drop (numG bs 0 0).used).take (numG bs 0 0).v).length = (numG bs 0 0).v := by simp; omega
      show numB (List.take (numG bs 0 0).v (List.drop (numG bs 0 0).used bs)).length ++ List.take (numG bs 0 0).v (List.drop (numG bs 0 0).used bs) = List.take ((numG bs 0 0).used + (numG bs 0 0).v) bs ∧ (numG bs 0 0).used + (numG bs 0 0).v ≤ bs.length
      rw [hl, ← et, List.take_add]
      exact ⟨rfl, by omega⟩
theorem text_le (bs : List Int) (most : Int) : (textA bs most ⟨0, 0⟩).v.length ≤ bs.length := by
  by_cases h : (countA bs most ⟨0, 0⟩).s.err = 0
  · by_cases h2 : bs.length - (countA bs most ⟨0, 0⟩).s.pl < (countA bs most ⟨0, 0⟩).v
    · rw [textA_short _ _ _ h h2]; exact Nat.zero_le _
    · rw [textA_good _ _ _ h h2]
      show (List.take _ (List.drop _ bs)).length ≤ _
      simp; omega
  · rw [textA_fault _ _ _ h]; exact Nat.zero_le _
end Cm
end Go.Proofs.Ytadjdiocipahhaa
