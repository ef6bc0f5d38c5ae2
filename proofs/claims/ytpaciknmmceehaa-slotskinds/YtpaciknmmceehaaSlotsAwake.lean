/- The law folder's awake: a log of texts. No condition. -/
import Derived.Test.YtpaciknmmceehaaSlotsNextS
import Derived.Lib.Strings
import Derived.WideShapes
namespace Go.Proofs.Ytpaciknmmceehaa
open Go.ChangeShapes Go.WideShapes Go.ChangeAt Go.RowKit Sx Ls
set_option linter.unusedVariables false

theorem str_eq (a b : ByteArray) : (a.toList == b.toList) = decide (a = b) := by
  rw [Lib.toList_data, Lib.toList_data]
  by_cases h : a = b
  · subst h; simp
  · rw [decide_eq_false h, beq_eq_false_iff_ne]
    exact fun e => h (WideShapes.bytes_inj e)
theorem awake_s : newS ByteArray 3 4 = ⟨3, 4, []⟩ ∧ putE (⟨3, 4, []⟩ : Ss ByteArray) 4 = 0 ∧ putS (⟨3, 4, []⟩ : Ss ByteArray) 4 ⟨#[120]⟩ = ⟨3, 4, [none, some ⟨#[120]⟩]⟩ := ⟨rfl, rfl, rfl⟩
set_option maxRecDepth 100000 in
theorem awake_any (w : World) : Calls Try.prog 6 #[] w fun e w' => e = .returned (.bool true) ∧ Below w.heap.size w w' := by
  have N := hide (new_next w 3 4)
  have AW := hide awake_s
  go_enter Try.func6, Try.ntmps6
  go_wp2_with fail
  refine N.out.mono ?_
  rintro e w1 ⟨rfl, hb1, h1⟩
  have B1 := hide hb1
  rw [show newS Al 3 4 = ⟨3, 4, []⟩ from rfl] at h1
  have CP := hide (put_next h1 hb1.size 4 (by omega) ⟨#[120]⟩)
  rw [AW.out.2.1, AW.out.2.2] at CP
  simp only [va] at CP
  clear hb1 h1
  go_wp2_with fail
  refine CP.out.mono ?_
  rintro e w2 ⟨rfl, h2, b2⟩
  have B2 := hide (B1.out.trans b2)
  have H2 := hide h2
  obtain ⟨L2, hl2, hm2⟩ := id h2
  have CG := hide (get_any hl2 4)
  clear hl2 hm2
  rw [show getV (⟨3, 4, [none, some ⟨#[120]⟩]⟩ : Ss Al) 4 = some ⟨#[120]⟩ from rfl] at CG
  simp only [ansV, va, Option.isSome_some] at CG
  clear h2 b2
  go_wp2_with fail
  refine CG.out.mono ?_
  rintro e w3 ⟨rfl, q, rfl⟩
  have CF := hide (first_next (H2.out.drewN q))
  have CN := hide (next_next (H2.out.drewN q))
  rw [show nextV (⟨3, 4, [none, some ⟨#[120]⟩]⟩ : Ss Al) = 3 from rfl] at CN
  have es := str_eq ⟨#[120]⟩ ⟨#[120]⟩
  go_wp2_with fail
  refine CF.out.mono ?_
  rintro e w4 ⟨rfl, rfl⟩
  go_wp2_with fail
  refine CN.out.mono ?_
  rintro e w4 ⟨rfl, q2, rfl⟩
  have CT := hide (top_next (H2.out.drewN (q + q2)))
  rw [show topV (⟨3, 4, [none, some ⟨#[120]⟩]⟩ : Ss Al) = 5 from rfl] at CT
  go_wp2_with fail
  refine CT.out.mono ?_
  rintro e w4 ⟨rfl, q3, rfl⟩
  go_wp2_with fail
  go_ret
  exact ⟨rfl, B2.out.trans (blw_drewN w2 _ (q + q2 + q3))⟩
end Go.Proofs.Ytpaciknmmceehaa
