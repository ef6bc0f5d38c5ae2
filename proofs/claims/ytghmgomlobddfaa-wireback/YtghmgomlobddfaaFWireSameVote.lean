/- The law folder's Vote of two things that have the same plain fields answers true. No condition. -/
import Derived.Test.YtghmgomlobddfaaJA
namespace Go.Proofs.Ytghmgomlobddfaa
open Go.ChangeShapes Go.WideShapes Go.ChangeAt Go.RowKit B8 Cm Wm
set_option linter.unusedVariables false

set_option maxRecDepth 100000 in
set_option maxHeartbeats 4000000 in
theorem same_vote_lit {w : World} (z0 : Int) (z1 : Int) (z2 : Int) {a3 a3' : Option Addr} {n3 c3 c3' : Nat} {b3 : List Int} (s3 : Sq w a3 n3 c3 b3) (t3 : Sq w a3' n3 c3' b3) (l3 : n3 ≤ 140737488351232) :
    Calls Try.prog 21 #[.agg #[.int .i64 z0, .int .i64 z1, .int .i64 z2, .slice a3 n3 c3], .agg #[.int .i64 z0, .int .i64 z1, .int .i64 z2, .slice a3' n3 c3']] w fun e w' => e = .returned (.bool true) ∧ Below w.heap.size w w' := by
  have B2 := hide (below_alloc (below_alloc (Below.refl w.heap.size w) (.cells #[.int .i64 z0, .int .i64 z1, .int .i64 z2, .slice a3 n3 c3] 32)) (.cells #[.int .i64 z0, .int .i64 z1, .int .i64 z2, .slice a3' n3 c3'] 32))
  have S3 := hide s3
  have T3 := hide t3
  clear s3 t3
  go_enter Try.func21, Try.ntmps21
  go_wp2_with fail
  refine (bytes_sq (S3.out.below B2.out) (T3.out.below B2.out) (by omega)).mono ?_
  rintro e wq0 ⟨rfl, m0, hq⟩
  have D0 : Hid (Below w.heap.size w wq0) := by rw [hq]; exact below_drewN B2.out m0
  have K0 : ∀ b o, wq0.cell? ⟨b, o, none⟩ = ((w.alloc (.cells #[.int .i64 z0, .int .i64 z1, .int .i64 z2, .slice a3 n3 c3] 32)).alloc (.cells #[.int .i64 z0, .int .i64 z1, .int .i64 z2, .slice a3' n3 c3'] 32)).cell? ⟨b, o, none⟩ := fun b o => by rw [hq]; rfl
  clear hq
  go_wp2_with fail
  go_ret
  exact ⟨rfl, D0.out⟩

theorem same_vote {w : World} {P P' : Nat → Prop} {cs cs' : Array Value} {xs : List Atom} (h : Vals w P cs xs) (h' : Vals w P' cs' xs) (hk : xs.map Atom.k = [0, 0, 0, 4]) :
    Calls Try.prog 21 #[.agg cs, .agg cs'] w fun e w' => e = .returned (.bool true) ∧ Below w.heap.size w w' := by
  obtain ⟨z0, p0, q0⟩ := pair_int h h' hk 0 rfl
  obtain ⟨z1, p1, q1⟩ := pair_int h h' hk 1 rfl
  obtain ⟨z2, p2, q2⟩ := pair_int h h' hk 2 rfl
  obtain ⟨a3, n3, c3, a3', c3', b3, p3, q3, s3, t3, l3⟩ := pair_bytes h h' hk 3 rfl
  have hs1 : cs.size = 4 := by rw [h.1]; have := congrArg List.length hk; simpa using this
  have hs2 : cs'.size = 4 := by rw [h'.1]; have := congrArg List.length hk; simpa using this
  obtain rfl : cs = #[.int .i64 z0, .int .i64 z1, .int .i64 z2, .slice a3 n3 c3] := Array.ext_getElem? (fun j => match j with | 0 => p0 | 1 => p1 | 2 => p2 | 3 => p3 | j + 4 => by rw [Array.getElem?_eq_none (by omega), Array.getElem?_eq_none (by simp)])
  obtain rfl : cs' = #[.int .i64 z0, .int .i64 z1, .int .i64 z2, .slice a3' n3 c3'] := Array.ext_getElem? (fun j => match j with | 0 => q0 | 1 => q1 | 2 => q2 | 3 => q3 | j + 4 => by rw [Array.getElem?_eq_none (by omega), Array.getElem?_eq_none (by simp)])
  exact same_vote_lit z0 z1 z2 s3 t3 l3
end Go.Proofs.Ytghmgomlobddfaa
