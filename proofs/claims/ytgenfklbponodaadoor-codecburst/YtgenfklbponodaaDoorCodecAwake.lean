/- What the law folder's awake answers: true; nothing old is written. No condition. -/
import Derived.Test.YtgenfklbponodaaDoorCodecCalls
import Derived.Test.YtgenfklbponodaaDoorCodecWr
namespace Go.Proofs.YtgenfklbponodaaDoor
open Go.ChangeShapes Go.WideShapes Go.ChangeAt Go.RowKit B8 Cm
set_option linter.unusedVariables false

theorem numA_five : numA [5] ⟨0, 0⟩ = ⟨5, ⟨1, 0⟩⟩ := rfl
theorem endA_five : endA [5] ⟨1, 0⟩ = 0 := rfl
theorem numB_300 : numB 300 = [172, 2] := by decide

theorem below_row {w W W' : World} {R : Nat} (h : Below w.heap.size w W) (hR : w.heap.size ≤ R) (hg : W.grownBy W' (some R)) : Below w.heap.size w W' :=
  h.grown hg h.size (fun k hk => by cases hk; exact hR)

theorem awake_any (w : World) : Calls Tryd.prog 5 #[] w fun e w' => e = .returned (.bool true) ∧ Below w.heap.size w w' := by
  have B0 := hide (Below.alloc (Below.refl w.heap.size w) (Nat.le_refl _) (.cells #[.int .u8 5] 5))
  have q0 : Sq (w.alloc (.cells #[.int .u8 5] 5)) (some ⟨w.heap.size, 0, none⟩) 1 1 [5] := by
    refine ⟨rfl, Nat.le_refl _, fun h => absurd h (by simp), fun _ => ⟨w.heap.size, 0, rfl, fun j hj => ?_⟩, wfs_cons (by decide) wfs_nil⟩
    obtain rfl : j = 0 := by omega
    simp
  have CN := hide (cnew_any q0 (by omega))
  clear q0
  go_enter Tryd.func5, Tryd.ntmps5
  go_wp2_with fail
  refine CN.out.mono ?_
  rintro e w1 ⟨R, rfl, hm, hb, hR⟩
  obtain ⟨a, cp, hr, _⟩ := hm
  have hR' : w.heap.size ≤ R := Nat.le_trans B0.out.size hR
  have B1 := hide (below_step B0.out hb)
  have C1 := cnum_any (s := ⟨0, 0⟩) hr
  rw [numA_five] at C1
  have C1 := hide C1
  clear hr hb CN
  go_wp2_with fail
  refine C1.out.mono ?_
  rintro e w2 ⟨rfl, hr2, hg2⟩
  have B2 := hide (below_row B1.out hR' hg2)
  have C2 := cend_any (s := ⟨1, 0⟩) hr2
  rw [endA_five] at C2
  have C2 := hide C2
  clear hr2 hg2
  go_wp2_with fail
  refine C2.out.mono ?_
  rintro e w3 ⟨rfl, m, rfl⟩
  have B3 := hide (below_drewN B2.out m)
  have C3 := cnumw_any 300 (w2.drewN m) (by omega)
  rw [numB_300] at C3
  have C3 := hide C3
  go_wp2_with fail
  refine C3.out.mono ?_
  rintro e w4 ⟨x, rfl, hown, hb4⟩
  obtain ⟨a4, cp4, rfl, q4⟩ := sq_of_row (zs := [172, 2]) rfl (wfs_cons (by decide) (wfs_cons (by decide) wfs_nil)) hown
  have B4 := hide (below_step B3.out hb4)
  clear hb4 hown q4
  go_wp2_with fail
  go_ret
  exact ⟨rfl, B4.out⟩
end Go.Proofs.YtgenfklbponodaaDoor
