/- What is read of bytes that were written: of numbers, ints, texts, flags as plain functions; the law folder's Bytes. No condition. -/
import Derived.Test.YtfdejkfbjmkngabCodecBackMath
import Derived.Test.YtfdejkfbjmkngabPl8
namespace Go.Proofs.Ytfdejkfbjmkngab
open Go.ChangeShapes Go.WideShapes Go.ChangeAt Go.RowKit B8 Cm
set_option linter.unusedVariables false

theorem numA_at (pre rest : List Int) (v : Nat) (hv : v < 18446744073709551616) : numA (pre ++ numB v ++ rest) ⟨pre.length, 0⟩ = ⟨v, ⟨pre.length + (numB v).length, 0⟩⟩ := by
  have h : numG ((pre ++ numB v ++ rest).drop pre.length) 0 0 = ⟨v, (numB v).length, 0⟩ := by
    rw [List.append_assoc, List.drop_left]
    exact numG_numB v hv rest
  rw [numA_good _ _ rfl (by show (numG (_ : List Int) 0 0).e = 0; rw [h])]
  show (⟨(numG _ 0 0).v, ⟨pre.length + (numG _ 0 0).used, 0⟩⟩ : Ans Nat) = _
  rw [h]
theorem intA_at (pre rest : List Int) (n : Int) (h1 : -9223372036854775808 ≤ n) (h2 : n ≤ 9223372036854775807) : intA (pre ++ numB (zig n) ++ rest) ⟨pre.length, 0⟩ = ⟨n, ⟨pre.length + (numB (zig n)).length, 0⟩⟩ := by
  unfold intA
  rw [numA_at pre rest (zig n) (zig_lt n h1 h2)]
  show (⟨zag (zig n), _⟩ : Ans Int) = _
  rw [zag_zig]
theorem textA_at (pre rest ts : List Int) (most : Int) (hm : (ts.length : Int) ≤ max 0 most) (hl : ts.length < 18446744073709551616) :
    textA (pre ++ (numB ts.length ++ ts) ++ rest) most ⟨pre.length, 0⟩ = ⟨ts, ⟨pre.length + (numB ts.length).length + ts.length, 0⟩⟩ := by
  have hn := numA_at pre (ts ++ rest) ts.length hl
  rw [show pre ++ numB ts.length ++ (ts ++ rest) = pre ++ (numB ts.length ++ ts) ++ rest by simp] at hn
  have hc : countA (pre ++ (numB ts.length ++ ts) ++ rest) most ⟨pre.length, 0⟩ = ⟨ts.length, ⟨pre.length + (numB ts.length).length, 0⟩⟩ := by
    rw [countA_good _ _ _ (by rw [hn]; exact Int.not_lt.2 hm), hn]
  rw [textA_good _ _ _ (by rw [hc]) (by rw [hc]; simp; omega), hc]
  show (⟨List.take _ (List.drop _ _), _⟩ : Ans (List Int)) = _
  congr 1
  rw [show pre ++ (numB ts.length ++ ts) ++ rest = (pre ++ numB ts.length) ++ (ts ++ rest) by simp, show pre.length + (numB ts.length).length = (pre ++ numB ts.length).length by simp, List.drop_left, List.take_left]
theorem flagA_at (pre : List Int) (f : Bool) : flagA (pre ++ [if f then 1 else 0]) ⟨pre.length, 0⟩ = ⟨f, ⟨pre.length + 1, 0⟩⟩ := by
  have hb : byteA (pre ++ [if f then 1 else 0]) ⟨pre.length, 0⟩ = ⟨if f then 1 else 0, ⟨pre.length + 1, 0⟩⟩ := by
    rw [byteA_good _ _ rfl (by simp)]
    simp
  rw [flagA_good _ _ (by rw [hb]; cases f; exact (show ¬ (1 : Int) < 0 by decide); exact (show ¬ (1 : Int) < 1 by decide)), hb]
  cases f <;> rfl

theorem bytes_sq {a a' : Option Addr} {len cap cap' : Nat} {zs : List Int} {w : World} (h : Sq w a len cap zs) (h' : Sq w a' len cap' zs) (hm : len ≤ 140737488355328) :
    Calls Try.prog 8 #[.slice a len cap, .slice a' len cap'] w fun e w' => e = .returned (.bool true) ∧ ∃ n, w' = w.drewN n := by
  have c := hide (plain_sq h h' hm)
  clear h h'
  go_enter Try.func8, Try.ntmps8
  go_wp2_with fail
  refine c.out.mono ?_
  rintro e w' ⟨rfl, n, rfl⟩
  go_wp2_with fail
  go_ret
  exact ⟨rfl, n, rfl⟩
end Go.Proofs.Ytfdejkfbjmkngab
