/- A reader's place only moves on; behind a fault it stays, and answers nothing: plain functions. -/
import Derived.Test.YtadjdiocipahhabCodecStep
namespace Go.Proofs.Ytadjdiocipahhab
open Cm
set_option linter.unusedVariables false

theorem numA_moves (bs : List Int) (s : St) (h : s.err = 0) : s.pl ≤ (numA bs s).s.pl ∧ (¬ (numA bs s).s.err = 0 → (numA bs s).s.pl = s.pl) := by
  by_cases h2 : (numG (bs.drop s.pl) 0 0).e = 0
  · rw [numA_good _ _ h h2]; exact ⟨Nat.le_add_right _ _, fun h => absurd rfl h⟩
  · rw [numA_bad _ _ h h2]; exact ⟨Nat.le_refl _, fun _ => rfl⟩
theorem byteA_moves (bs : List Int) (s : St) (h : s.err = 0) : s.pl ≤ (byteA bs s).s.pl ∧ (¬ (byteA bs s).s.err = 0 → (byteA bs s).s.pl = s.pl) := by
  by_cases h2 : s.pl < bs.length
  · rw [byteA_good _ _ h h2]; exact ⟨Nat.le_add_right _ _, fun h => absurd rfl h⟩
  · rw [byteA_short _ _ h h2]; exact ⟨Nat.le_refl _, fun _ => rfl⟩
theorem flagA_moves (bs : List Int) (s : St) (h : s.err = 0) : s.pl ≤ (flagA bs s).s.pl ∧ (¬ (flagA bs s).s.err = 0 → (flagA bs s).s.pl = s.pl) := by
  by_cases h2 : 1 < (byteA bs s).v
  · rw [flagA_bad _ _ h2]; exact ⟨Nat.le_refl _, fun _ => rfl⟩
  · rw [flagA_good _ _ h2]; exact byteA_moves bs s h
theorem countA_moves (bs : List Int) (most : Int) (s : St) (h : s.err = 0) : s.pl ≤ (countA bs most s).s.pl ∧ (¬ (countA bs most s).s.err = 0 → (countA bs most s).s.pl = s.pl) := by
  by_cases h2 : max 0 most < ((numA bs s).v : Int)
  · rw [countA_long _ _ _ h2]; exact ⟨Nat.le_refl _, fun _ => rfl⟩
  · rw [countA_good _ _ _ h2]; exact numA_moves bs s h
theorem textA_moves (bs : List Int) (most : Int) (s : St) (h : s.err = 0) : s.pl ≤ (textA bs most s).s.pl ∧ (¬ (textA bs most s).s.err = 0 → (textA bs most s).s.pl = s.pl) := by
  have hc := countA_moves bs most s h
  by_cases h1 : (countA bs most s).s.err = 0
  · by_cases h2 : bs.length - (countA bs most s).s.pl < (countA bs most s).v
    · rw [textA_short _ _ _ h1 h2]; exact ⟨Nat.le_refl _, fun _ => rfl⟩
    · rw [textA_good _ _ _ h1 h2]; exact ⟨Nat.le_trans hc.1 (Nat.le_add_right _ _), fun h => absurd rfl h⟩
  · rw [textA_fault _ _ _ h1]; exact hc
theorem ansS_moves (bs : List Int) (k most : Int) (s : St) (h : s.err = 0) : s.pl ≤ (ansS bs k most s).pl ∧ (¬ (ansS bs k most s).err = 0 → (ansS bs k most s).pl = s.pl) := by
  unfold ansS
  split
  · exact numA_moves bs s h
  split
  · exact byteA_moves bs s h
  split
  · exact flagA_moves bs s h
  split
  · exact textA_moves bs most s h
  split
  · exact countA_moves bs most s h
  · exact numA_moves bs s h

/-- what is answered behind a fault -/
def zeroV (k : Int) : List Int := if k = 4 then [] else [0]
theorem ans_fault (bs : List Int) (k most : Int) (s : St) (h : ¬ s.err = 0) : ansS bs k most s = s ∧ ansV bs k most s = zeroV k := by
  have hn := numA_fault bs s h
  have hb := byteA_fault bs s h
  have hf : flagA bs s = ⟨false, s⟩ := by rw [flagA_good _ _ (by rw [hb]; exact (show ¬ (1 : Int) < 0 by decide)), hb]; rfl
  have hc : countA bs most s = ⟨0, s⟩ := by rw [countA_good _ _ _ (by rw [hn]; show ¬ _ < ((0 : Nat) : Int); omega), hn]
  have ht : textA bs most s = ⟨[], s⟩ := by rw [textA_fault _ _ _ (by rw [hc]; exact h), hc]
  have hi : intA bs s = ⟨0, s⟩ := by unfold intA; rw [hn]; show (⟨zag 0, s⟩ : Ans Int) = _; rw [show zag 0 = 0 from by decide]
  unfold ansS ansV zeroV
  rw [hi, hb, hf, ht, hc, hn]
  by_cases h1 : k = 1
  · subst h1; exact ⟨rfl, rfl⟩
  by_cases h2 : k = 2
  · subst h2; exact ⟨rfl, rfl⟩
  by_cases h3 : k = 3
  · subst h3; exact ⟨rfl, rfl⟩
  by_cases h4 : k = 4
  · subst h4; exact ⟨rfl, rfl⟩
  by_cases h5 : k = 5
  · subst h5; exact ⟨rfl, rfl⟩
  simp only [if_neg h1, if_neg h2, if_neg h3, if_neg h4, if_neg h5]
  exact ⟨trivial, rfl⟩
end Go.Proofs.Ytadjdiocipahhab
