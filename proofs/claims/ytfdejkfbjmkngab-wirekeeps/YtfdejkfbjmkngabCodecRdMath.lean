/- A reader of bytes as plain functions on its place and its fault. No Go in sight. -/
import Derived.Test.YtfdejkfbjmkngabCodecMath
namespace Go.Proofs.Ytfdejkfbjmkngab
namespace Cm
set_option linter.unusedVariables false

/-- where a reader stands, and its fault -/
structure St where
  pl : Nat
  err : Int

/-- an answer, and how the reader stands then -/
structure Ans (α : Type) where
  v : α
  s : St

def numA (bs : List Int) (s : St) : Ans Nat :=
  if s.err = 0 then (if (numG (bs.drop s.pl) 0 0).e = 0 then ⟨(numG (bs.drop s.pl) 0 0).v, ⟨s.pl + (numG (bs.drop s.pl) 0 0).used, 0⟩⟩ else ⟨0, ⟨s.pl, (numG (bs.drop s.pl) 0 0).e⟩⟩) else ⟨0, s⟩
/-- a number as an int -/
def zag (v : Nat) : Int := if v % 2 = 1 then -((v / 2 : Nat) : Int) - 1 else ((v / 2 : Nat) : Int)
def intA (bs : List Int) (s : St) : Ans Int := ⟨zag (numA bs s).v, (numA bs s).s⟩
def byteA (bs : List Int) (s : St) : Ans Int :=
  if s.err = 0 then (if s.pl < bs.length then ⟨bs[s.pl]?.getD 0, ⟨s.pl + 1, 0⟩⟩ else ⟨0, ⟨s.pl, 20⟩⟩) else ⟨0, s⟩
def flagA (bs : List Int) (s : St) : Ans Bool :=
  if 1 < (byteA bs s).v then ⟨false, ⟨s.pl, 21⟩⟩ else ⟨decide ((byteA bs s).v = 1), (byteA bs s).s⟩
def countA (bs : List Int) (most : Int) (s : St) : Ans Nat :=
  if max 0 most < ((numA bs s).v : Int) then ⟨0, ⟨s.pl, 22⟩⟩ else numA bs s
def textA (bs : List Int) (most : Int) (s : St) : Ans (List Int) :=
  if (countA bs most s).s.err = 0 then
    (if bs.length - (countA bs most s).s.pl < (countA bs most s).v then ⟨[], ⟨s.pl, 20⟩⟩ else ⟨(bs.drop (countA bs most s).s.pl).take (countA bs most s).v, ⟨(countA bs most s).s.pl + (countA bs most s).v, 0⟩⟩)
  else ⟨[], (countA bs most s).s⟩
def faultA (s : St) : Int × Int := if s.err = 0 then (0, 0) else (s.err, (s.pl : Int))
def endA (bs : List Int) (s : St) : Int := if s.err = 0 then (if s.pl < bs.length then 24 else 0) else s.err

theorem numG_used : ∀ (r : List Int) (k v : Nat), (numG r k v).e = 0 → k < (numG r k v).used ∧ (numG r k v).used ≤ k + r.length
  | [], k, v, h => absurd (show (20 : Int) = 0 from h) (by decide)
  | c :: r, k, v, h => by
    by_cases h1 : (k = 9 ∧ 1 < c) ∨ (0 < k ∧ c = 0)
    · rw [numG_form _ _ _ _ h1] at h; exact absurd h (by decide)
    · by_cases h2 : c < 128
      · rw [numG_done _ _ _ _ h1 h2]; simp
      · rw [numG_more _ _ _ _ h1 h2] at h ⊢
        have := numG_used r (k + 1) _ h
        simp; omega
theorem numG_e : ∀ (r : List Int) (k v : Nat), (numG r k v).e = 0 ∨ (numG r k v).e = 20 ∨ (numG r k v).e = 21
  | [], k, v => .inr (.inl rfl)
  | c :: r, k, v => by
    by_cases h1 : (k = 9 ∧ 1 < c) ∨ (0 < k ∧ c = 0)
    · rw [numG_form _ _ _ _ h1]; exact .inr (.inr rfl)
    · by_cases h2 : c < 128
      · rw [numG_done _ _ _ _ h1 h2]; exact .inl rfl
      · rw [numG_more _ _ _ _ h1 h2]; exact numG_e r (k + 1) _
theorem numG_err0 : ∀ (r : List Int) (k v : Nat), (numG r k v).e ≠ 0 → (numG r k v).v = 0
  | [], k, v, _ => rfl
  | c :: r, k, v, h => by
    by_cases h1 : (k = 9 ∧ 1 < c) ∨ (0 < k ∧ c = 0)
    · rw [numG_form _ _ _ _ h1]
    · by_cases h2 : c < 128
      · rw [numG_done _ _ _ _ h1 h2] at h; exact absurd rfl h
      · rw [numG_more _ _ _ _ h1 h2] at h ⊢; exact numG_err0 r (k + 1) _ h
theorem numG_lt : ∀ (r : List Int) (k v : Nat), k ≤ 9 → v < 2 ^ (7 * k) → (∀ x ∈ r, 0 ≤ x ∧ x ≤ 255) → (numG r k v).v < 18446744073709551616
  | [], k, v, _, _, _ => by show 0 < _; omega
  | c :: r, k, v, hk, hv, hr => by
    by_cases h1 : (k = 9 ∧ 1 < c) ∨ (0 < k ∧ c = 0)
    · rw [numG_form _ _ _ _ h1]; show 0 < _; omega
    · have hc := hr c (by simp)
      have hd : (c % 128).toNat ≤ 127 := by omega
      have hb := acc_bd v k (c % 128).toNat hd hv (by omega)
      by_cases h2 : c < 128
      · rw [numG_done _ _ _ _ h1 h2]; exact hb.2.1
      · rw [numG_more _ _ _ _ h1 h2]
        exact numG_lt r (k + 1) _ (by omega) hb.2.2 (fun x hx => hr x (by simp [hx]))

theorem numA_fault (bs : List Int) (s : St) (h : ¬ s.err = 0) : numA bs s = ⟨0, s⟩ := if_neg h
theorem numA_bad (bs : List Int) (s : St) (h : s.err = 0) (h' : ¬ (numG (bs.drop s.pl) 0 0).e = 0) : numA bs s = ⟨0, ⟨s.pl, (numG (bs.drop s.pl) 0 0).e⟩⟩ := (if_pos h).trans (if_neg h')
theorem numA_good (bs : List Int) (s : St) (h : s.err = 0) (h' : (numG (bs.drop s.pl) 0 0).e = 0) : numA bs s = ⟨(numG (bs.drop s.pl) 0 0).v, ⟨s.pl + (numG (bs.drop s.pl) 0 0).used, 0⟩⟩ := (if_pos h).trans (if_pos h')

theorem numA_place (bs : List Int) (s : St) (h : s.pl ≤ bs.length) : (numA bs s).s.pl ≤ bs.length := by
  by_cases h1 : s.err = 0
  · by_cases h2 : (numG (bs.drop s.pl) 0 0).e = 0
    · rw [numA_good _ _ h1 h2]
      have := (numG_used _ _ _ h2).2
      simp at this ⊢; omega
    · rw [numA_bad _ _ h1 h2]; exact h
  · rw [numA_fault _ _ h1]; exact h
theorem numA_lt (bs : List Int) (s : St) (h : ∀ x ∈ bs, 0 ≤ x ∧ x ≤ 255) : (numA bs s).v < 18446744073709551616 := by
  by_cases h1 : s.err = 0
  · by_cases h2 : (numG (bs.drop s.pl) 0 0).e = 0
    · rw [numA_good _ _ h1 h2]
      exact numG_lt _ _ _ (by omega) (by simp) (fun x hx => h x (List.mem_of_mem_drop hx))
    · rw [numA_bad _ _ h1 h2]; show 0 < _; omega
  · rw [numA_fault _ _ h1]; show 0 < _; omega
/-- with a fault the answer is 0 -/
theorem numA_err (bs : List Int) (s : St) (h : ¬ (numA bs s).s.err = 0) : (numA bs s).v = 0 := by
  by_cases h1 : s.err = 0
  · by_cases h2 : (numG (bs.drop s.pl) 0 0).e = 0
    · rw [numA_good _ _ h1 h2] at h; exact absurd rfl h
    · rw [numA_bad _ _ h1 h2]
  · rw [numA_fault _ _ h1]
theorem byteA_fault (bs : List Int) (s : St) (h : ¬ s.err = 0) : byteA bs s = ⟨0, s⟩ := if_neg h
theorem byteA_short (bs : List Int) (s : St) (h : s.err = 0) (h' : ¬ s.pl < bs.length) : byteA bs s = ⟨0, ⟨s.pl, 20⟩⟩ := (if_pos h).trans (if_neg h')
theorem byteA_good (bs : List Int) (s : St) (h : s.err = 0) (h' : s.pl < bs.length) : byteA bs s = ⟨bs[s.pl]?.getD 0, ⟨s.pl + 1, 0⟩⟩ := (if_pos h).trans (if_pos h')
theorem byteA_place (bs : List Int) (s : St) (h : s.pl ≤ bs.length) : (byteA bs s).s.pl ≤ bs.length := by
  by_cases h1 : s.err = 0
  · by_cases h2 : s.pl < bs.length
    · rw [byteA_good _ _ h1 h2]; exact h2
    · rw [byteA_short _ _ h1 h2]; exact h
  · rw [byteA_fault _ _ h1]; exact h
theorem byteA_err (bs : List Int) (s : St) (h : ¬ (byteA bs s).s.err = 0) : (byteA bs s).v = 0 := by
  by_cases h1 : s.err = 0
  · by_cases h2 : s.pl < bs.length
    · rw [byteA_good _ _ h1 h2] at h; exact absurd rfl h
    · rw [byteA_short _ _ h1 h2]
  · rw [byteA_fault _ _ h1]
theorem flagA_bad (bs : List Int) (s : St) (h : 1 < (byteA bs s).v) : flagA bs s = ⟨false, ⟨s.pl, 21⟩⟩ := if_pos h
theorem flagA_good (bs : List Int) (s : St) (h : ¬ 1 < (byteA bs s).v) : flagA bs s = ⟨decide ((byteA bs s).v = 1), (byteA bs s).s⟩ := if_neg h
theorem flagA_place (bs : List Int) (s : St) (h : s.pl ≤ bs.length) : (flagA bs s).s.pl ≤ bs.length := by
  by_cases h1 : 1 < (byteA bs s).v
  · rw [flagA_bad _ _ h1]; exact h
  · rw [flagA_good _ _ h1]; exact byteA_place bs s h
theorem countA_long (bs : List Int) (most : Int) (s : St) (h : max 0 most < ((numA bs s).v : Int)) : countA bs most s = ⟨0, ⟨s.pl, 22⟩⟩ := if_pos h
theorem countA_good (bs : List Int) (most : Int) (s : St) (h : ¬ max 0 most < ((numA bs s).v : Int)) : countA bs most s = numA bs s := if_neg h
theorem countA_place (bs : List Int) (most : Int) (s : St) (h : s.pl ≤ bs.length) : (countA bs most s).s.pl ≤ bs.length := by
  by_cases h1 : max 0 most < ((numA bs s).v : Int)
  · rw [countA_long _ _ _ h1]; exact h
  · rw [countA_good _ _ _ h1]; exact numA_place bs s h
theorem countA_le (bs : List Int) (most : Int) (s : St) : ((countA bs most s).v : Int) ≤ max 0 most := by
  by_cases h1 : max 0 most < ((numA bs s).v : Int)
  · rw [countA_long _ _ _ h1]; show ((0 : Nat) : Int) ≤ _; omega
  · rw [countA_good _ _ _ h1]; omega
theorem textA_fault (bs : List Int) (most : Int) (s : St) (h : ¬ (countA bs most s).s.err = 0) : textA bs most s = ⟨[], (countA bs most s).s⟩ := if_neg h
theorem textA_short (bs : List Int) (most : Int) (s : St) (h : (countA bs most s).s.err = 0) (h' : bs.length - (countA bs most s).s.pl < (countA bs most s).v) : textA bs most s = ⟨[], ⟨s.pl, 20⟩⟩ := (if_pos h).trans (if_pos h')
theorem textA_good (bs : List Int) (most : Int) (s : St) (h : (countA bs most s).s.err = 0) (h' : ¬ bs.length - (countA bs most s).s.pl < (countA bs most s).v) : textA bs most s = ⟨(bs.drop (countA bs most s).s.pl).take (countA bs most s).v, ⟨(countA bs most s).s.pl + (countA bs most s).v, 0⟩⟩ := (if_pos h).trans (if_neg h')
end Cm
end Go.Proofs.Ytfdejkfbjmkngab
