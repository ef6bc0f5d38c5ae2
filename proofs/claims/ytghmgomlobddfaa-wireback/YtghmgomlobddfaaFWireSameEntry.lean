/- The law folder's Entry of two things that have the same plain fields answers true. No condition. -/
import Derived.Test.YtghmgomlobddfaaJA
namespace Go.Proofs.Ytghmgomlobddfaa
open Go.ChangeShapes Go.WideShapes Go.ChangeAt Go.RowKit B8 Cm Wm
set_option linter.unusedVariables false

set_option maxRecDepth 100000 in
set_option maxHeartbeats 4000000 in
theorem same_entry_lit {w : World} (z0 : Int) {a1 a1' : Option Addr} {n1 c1 c1' : Nat} {b1 : List Int} (s1 : Sq w a1 n1 c1 b1) (t1 : Sq w a1' n1 c1' b1) (l1 : n1 ≤ 140737488351232) :
    Calls Try.prog 22 #[.agg #[.int .i64 z0, .slice a1 n1 c1], .agg #[.int .i64 z0, .slice a1' n1 c1']] w fun e w' => e = .returned (.bool true) ∧ Below w.heap.size w w' := by
  have B2 := hide (below_alloc (below_alloc (Below.refl w.heap.size w) (.cells #[.int .i64 z0, .slice a1 n1 c1] 34)) (.cells #[.int .i64 z0, .slice a1' n1 c1'] 34))
  have S1 := hide s1
  have T1 := hide t1
  clear s1 t1
  go_enter Try.func22, Try.ntmps22
  go_wp2_with fail
  refine (bytes_sq (S1.out.below B2.out) (T1.out.below B2.out) (by omega)).mono ?_
  rintro e wq0 ⟨rfl, m0, hq⟩
  have D0 : Hid (Below w.heap.size w wq0) := by rw [hq]; exact below_drewN B2.out m0
  have K0 : ∀ b o, wq0.cell? ⟨b, o, none⟩ = ((w.alloc (.cells #[.int .i64 z0, .slice a1 n1 c1] 34)).alloc (.cells #[.int .i64 z0, .slice a1' n1 c1'] 34)).cell? ⟨b, o, none⟩ := fun b o => by rw [hq]; rfl
  clear hq
  go_wp2_with fail
  go_ret
  exact ⟨rfl, D0.out⟩

theorem same_entry {w : World} {P P' : Nat → Prop} {cs cs' : Array Value} {xs : List Atom} (h : Vals w P cs xs) (h' : Vals w P' cs' xs) (hk : xs.map Atom.k = [0, 4]) :
    Calls Try.prog 22 #[.agg cs, .agg cs'] w fun e w' => e = .returned (.bool true) ∧ Below w.heap.size w w' := by
  obtain ⟨z0, p0, q0⟩ := pair_int h h' hk 0 rfl
  obtain ⟨a1, n1, c1, a1', c1', b1, p1, q1, s1, t1, l1⟩ := pair_bytes h h' hk 1 rfl
  have hs1 : cs.size = 2 := by rw [h.1]; have := congrArg List.length hk; simpa using this
  have hs2 : cs'.size = 2 := by rw [h'.1]; have := congrArg List.length hk; simpa using this
  obtain rfl : cs = #[.int .i64 z0, .slice a1 n1 c1] := Array.ext_getElem? (fun j => match j with | 0 => p0 | 1 => p1 | j + 2 => by rw [Array.getElem?_eq_none (by omega), Array.getElem?_eq_none (by simp)])
  obtain rfl : cs' = #[.int .i64 z0, .slice a1' n1 c1'] := Array.ext_getElem? (fun j => match j with | 0 => q0 | 1 => q1 | j + 2 => by rw [Array.getElem?_eq_none (by omega), Array.getElem?_eq_none (by simp)])
  exact same_entry_lit z0 s1 t1 l1
end Go.Proofs.Ytghmgomlobddfaa
