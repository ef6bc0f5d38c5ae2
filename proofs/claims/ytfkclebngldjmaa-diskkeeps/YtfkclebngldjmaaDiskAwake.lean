/- The law folder's awake: true of the landed code. No condition. -/
import Derived.Test.YtfkclebngldjmaaDiskBlock
namespace Go.Proofs.Ytfkclebngldjmaa
open Go.ChangeShapes Go.WideShapes Go.ChangeAt Go.RowKit B8 Dm
set_option linter.unusedVariables false

theorem awake_any (w : World) :
    Calls Try.prog 11 #[] w fun e w' => e = .returned (.bool true) ∧ Below w.heap.size w w' := by
  have N := hide (new_yes 2 w (by omega) (by omega))
  go_enter Try.func11, Try.ntmps11
  go_wp2_with fail
  refine N.out.mono ?_
  rintro e w1 ⟨D, rfl, hb1, hd1⟩
  have B1 := hide hb1
  have D1 := hide hd1
  clear hb1 hd1
  go_wp2_with fail
  refine (size_any D1.out).mono ?_
  rintro e w2 ⟨rfl, rfl⟩
  have e2 : Hid (((newS 2).n : Int) = 2) := rfl
  rw [e2.out]
  go_wp2_with fail
  refine (block_any 7 _).mono ?_
  rintro e w3 ⟨rfl, hb3, hg3⟩
  have D3 := hide (D1.out.below hb3)
  have B3 := hide (below_step B1.out hb3)
  have Q3 := hide (sq_blk hg3)
  clear hb3 hg3 D1 B1
  go_wp2_with fail
  refine (write_any D3.out 1 Q3.out (by simp [newS])).mono ?_
  rintro e w4 ⟨rfl, hc4, hd4⟩
  have e4 : Hid (writeE (newS 2) 1 (blk 7) = 0) := by show _ = _; unfold writeE; rw [(blk_Blk 7).1]; simp [reachE, newS, hitE]
  have s4 : Hid ((writeS (newS 2) 1 (blk 7)).ws.length = 1) := by show _ = _; unfold writeS; rw [(blk_Blk 7).1]; simp [reachE, newS, hitS]
  rw [e4.out]
  have D4 := hide hd4
  have B4 : Hid (Below w.heap.size w w4) := B3.out.trans (hc4.below B3.out.size (fun k hk => hk))
  clear hc4 hd4 D3 B3 Q3
  go_wp2_with fail
  refine (waiting_any D4.out).mono ?_
  rintro e w5 ⟨rfl, rfl⟩
  rw [s4.out]
  go_wp2_with fail
  go_ret
  exact ⟨rfl, B4.out⟩
end Go.Proofs.Ytfkclebngldjmaa
