/- The first of some things whose ballot no other's is above, as plain lists. No condition. -/
import Derived.Test.YtlcccaiahmbkpaaBallotCalls
namespace Go.Proofs.Ytlcccaiahmbkpaa
set_option linter.unusedVariables false

def lsB (x y : Int × Int) : Bool := lessB x.1 x.2 y.1 y.2
theorem lsB_iff {x y : Int × Int} : lsB x y = true ↔ (x.1 < y.1 ∨ x.1 = y.1 ∧ x.2 < y.2) := by unfold lsB lessB; exact decide_eq_true_iff
theorem lsB_no {x y : Int × Int} : lsB x y = false ↔ ¬ (x.1 < y.1 ∨ x.1 = y.1 ∧ x.2 < y.2) := by unfold lsB lessB; exact decide_eq_false_iff_not
theorem lsB_self (x : Int × Int) : lsB x x = false := lsB_no.2 (by omega)
/-- behind k things: t is the first whose ballot no other's is above, x its ballot; or there is none -/
def BI {α : Type} (f : Nat → Int × Int) (g : Nat → α) (z : α) (k : Nat) (x : Int × Int) (t : α) (is : Bool) : Prop :=
  (k = 0 ∧ is = false ∧ x = (0, 0) ∧ t = z) ∨ (is = true ∧ ∃ i, i < k ∧ g i = t ∧ f i = x ∧ (∀ j, j < k → lsB x (f j) = false) ∧ ∀ j, j < i → lsB (f j) x = true)
theorem BI.zero {α : Type} (f : Nat → Int × Int) (g : Nat → α) (z : α) : BI f g z 0 (0, 0) z false := .inl ⟨rfl, rfl, rfl, rfl⟩
theorem BI.take {α : Type} {f : Nat → Int × Int} {g : Nat → α} {z : α} {k : Nat} {x : Int × Int} {t : α} {is : Bool} (h : BI f g z k x t is) (hl : is = false ∨ lsB x (f k) = true) : BI f g z (k + 1) (f k) (g k) true := by
  refine .inr ⟨rfl, k, by omega, rfl, rfl, fun j hj => ?_, fun j hj => ?_⟩
  · rcases h with ⟨rfl, _⟩ | ⟨rfl, i, hi, _, _, h1, h2⟩
    · obtain rfl : j = 0 := by omega
      exact lsB_self _
    · have hl := lsB_iff.1 (hl.resolve_left (by decide))
      by_cases e : j = k
      · subst e; exact lsB_self _
      · have := lsB_no.1 (h1 j (by omega))
        exact lsB_no.2 (by omega)
  · rcases h with ⟨rfl, _⟩ | ⟨rfl, i, hi, _, _, h1, h2⟩
    · omega
    · have hl := lsB_iff.1 (hl.resolve_left (by decide))
      have := lsB_no.1 (h1 j hj)
      exact lsB_iff.2 (by omega)
theorem BI.keep {α : Type} {f : Nat → Int × Int} {g : Nat → α} {z : α} {k : Nat} {x : Int × Int} {t : α} (h : BI f g z k x t true) (hl : lsB x (f k) = false) : BI f g z (k + 1) x t true := by
  rcases h with ⟨_, h, _⟩ | ⟨_, i, hi, hg, hf, h1, h2⟩
  · cases h
  · refine .inr ⟨rfl, i, by omega, hg, hf, fun j hj => ?_, h2⟩
    by_cases e : j = k
    · subst e; exact hl
    · exact h1 j (by omega)
/-- x is the ballot that no other's is above: the zero one of none -/
def Mx (f : Nat → Int × Int) (k : Nat) (x : Int × Int) : Prop := (k = 0 ∧ x = (0, 0)) ∨ ((∃ i, i < k ∧ f i = x) ∧ ∀ j, j < k → lsB x (f j) = false)
theorem Mx.one {f : Nat → Int × Int} {k : Nat} {x y : Int × Int} (h : Mx f k x) (h' : Mx f k y) : x = y := by
  rcases h with ⟨rfl, rfl⟩ | ⟨⟨i, hi, rfl⟩, h1⟩
  · rcases h' with ⟨_, rfl⟩ | ⟨⟨i, hi, _⟩, _⟩
    · rfl
    · omega
  · rcases h' with ⟨rfl, _⟩ | ⟨⟨j, hj, rfl⟩, h2⟩
    · omega
    · have a1 := lsB_no.1 (h1 j hj)
      have a2 := lsB_no.1 (h2 i hi)
      exact Prod.ext (by omega) (by omega)
theorem BI.mx {α : Type} {f : Nat → Int × Int} {g : Nat → α} {z : α} {k : Nat} {x : Int × Int} {t : α} {is : Bool} (h : BI f g z k x t is) : Mx f k x := by
  rcases h with ⟨rfl, _, rfl, _⟩ | ⟨_, i, hi, _, hf, h1, _⟩
  · exact .inl ⟨rfl, rfl⟩
  · exact .inr ⟨⟨i, hi, hf⟩, h1⟩
theorem BI.is {α : Type} {f : Nat → Int × Int} {g : Nat → α} {z : α} {k : Nat} {x : Int × Int} {t : α} {is : Bool} (h : BI f g z k x t is) : is = decide (0 < k) := by
  rcases h with ⟨rfl, rfl, _⟩ | ⟨rfl, i, hi, _⟩
  · rfl
  · exact (decide_eq_true (by omega)).symm
end Go.Proofs.Ytlcccaiahmbkpaa
