/- The small functions of package chunk: may, says, pieces, New, fits. No condition. -/
import Derived.Test.YtanfmpeblhegpaaDoorChuMem
import Derived.Test.YtanfmpeblhegpaaDoorHeld
import Derived.Test.YtanfmpeblhegpaaDoorBytesClone
import Derived.Test.YtanfmpeblhegpaaDoorBytesEq
import Derived.Test.YtanfmpeblhegpaaDoorBytesSame
import Derived.Deep.RegionHeld3
import Derived.Handy
namespace Go.Proofs.YtanfmpeblhegpaaDoor
open Go.ChangeShapes Go.WideShapes Go.ChangeAt Go.RowKit B8 Ck
set_option linter.unusedVariables false

theorem may_eq {p : Pc} {x : Bool} (h : (1 ≤ p.of ∧ p.of ≤ 16 ∧ 0 ≤ p.k ∧ p.k < p.of ∧ (p.k < p.of - 1 → p.b.length = 512) ∧ (¬ p.k < p.of - 1 → p.b.length ≤ 512 ∧ (0 < p.b.length ∨ p.of = 1))) ↔ x = true) : mayB p = x := by
  unfold mayB
  cases x
  · exact decide_eq_false (fun e => by have := h.1 e; cases this)
  · exact decide_eq_true (h.2 rfl)
set_option maxRecDepth 100000 in
theorem may_any (p : Pv) (hl : p.b.length = p.m) (w : World) :
    Calls Tryd.prog 18 #[.agg #[.int .i64 p.k, .int .i64 p.of, .int .u32 p.sum, .slice p.a p.m p.cp]] w fun e w' => e = .returned (.bool (mayB p.pc)) ∧ Below w.heap.size w w' := by
  have BB : Hid (Below w.heap.size w (w.alloc (.cells #[.int .i64 p.k, .int .i64 p.of, .int .u32 p.sum, .slice p.a p.m p.cp] 32))) := below_alloc (Below.refl _ _) _
  have HL := hide hl
  clear hl
  by_cases h1 : p.of < 1
  · rw [may_eq (p := p.pc) (x := false) (by simp only [Pv.pc]; simp; omega)]
    go_enter Tryd.func18, Tryd.ntmps18
    go_wp2
    go_ret
    exact ⟨rfl, BB.out⟩
  · by_cases h2 : 16 < p.of
    · rw [may_eq (p := p.pc) (x := false) (by simp only [Pv.pc]; simp; omega)]
      go_enter Tryd.func18, Tryd.ntmps18
      go_wp2
      go_ret
      exact ⟨rfl, BB.out⟩
    · by_cases h3 : p.k < 0
      · rw [may_eq (p := p.pc) (x := false) (by simp only [Pv.pc]; simp; omega)]
        go_enter Tryd.func18, Tryd.ntmps18
        go_wp2
        go_ret
        exact ⟨rfl, BB.out⟩
      · by_cases h4 : p.of ≤ p.k
        · rw [may_eq (p := p.pc) (x := false) (by simp only [Pv.pc]; simp; omega)]
          go_enter Tryd.func18, Tryd.ntmps18
          go_wp2
          go_ret
          exact ⟨rfl, BB.out⟩
        · have e1 : IntKind.i64.wrap (p.of - 1) = p.of - 1 := by rw [IntKind.wrap_i64]; omega
          by_cases h5 : p.k < p.of - 1
          · rw [may_eq (p := p.pc) (x := decide ((p.m : Int) = 512)) (by simp only [Pv.pc, HL.out]; simp; omega)]
            go_enter Tryd.func18, Tryd.ntmps18
            go_wp2
            go_ret
            exact ⟨by first | rfl | (simp; done) | (simp; omega) | (congr 2; rw [Bool.eq_iff_iff]; simp; omega), below_alloc (Below.refl _ _) _⟩
          · by_cases h6 : (p.m : Int) ≤ 512
            · by_cases h7 : (0 : Int) < (p.m : Int)
              · rw [may_eq (p := p.pc) (x := true) (by simp only [Pv.pc, HL.out]; simp; omega)]
                go_enter Tryd.func18, Tryd.ntmps18
                go_wp2
                go_ret
                exact ⟨by first | rfl | (simp; done) | (simp; omega) | (congr 2; simp; omega), below_alloc (Below.refl _ _) _⟩
              · rw [may_eq (p := p.pc) (x := decide (p.of = 1)) (by simp only [Pv.pc, HL.out]; simp; omega)]
                go_enter Tryd.func18, Tryd.ntmps18
                go_wp2
                go_ret
                exact ⟨by first | rfl | (simp; done) | (simp; omega) | (congr 2; simp; omega), below_alloc (Below.refl _ _) _⟩
            · rw [may_eq (p := p.pc) (x := false) (by simp only [Pv.pc, HL.out]; simp; omega)]
              go_enter Tryd.func18, Tryd.ntmps18
              go_wp2
              go_ret
              exact ⟨by first | rfl | (simp; done) | (simp; omega) | (congr 2; simp; omega), below_alloc (Below.refl _ _) _⟩
theorem says_any (p : Pv) (w : World) :
    Calls Tryd.prog 20 #[.agg #[.int .i64 p.k, .int .i64 p.of, .int .u32 p.sum, .slice p.a p.m p.cp]] w fun e w' => e = .returned (.agg #[.int .i64 p.of, .int .u32 p.sum]) ∧ Below w.heap.size w w' := by
  go_enter Tryd.func20, Tryd.ntmps20
  go_wp2
  go_returns
  refine ⟨rfl, ?_⟩
  go_grown
set_option maxRecDepth 100000 in
theorem pieces_any (n : Nat) (hn : n ≤ 140737488355328) (w : World) :
    Calls Tryd.prog 27 #[.int .i64 n] w fun e w' => e = .returned (.int .i64 ((max 1 ((n + 511) / 512) : Nat) : Int)) ∧ w' = w := by
  have e0 : IntKind.i64.wrap ((n : Int) + 512) = (n : Int) + 512 := by rw [IntKind.wrap_i64]; omega
  have e1 : IntKind.i64.wrap ((n : Int) + 512 - 1) = (n : Int) + 511 := by rw [IntKind.wrap_i64]; omega
  go_enter Tryd.func27, Tryd.ntmps27
  go_wp2
  all_goals (go_ret; exact ⟨ret1 (by omega), rfl⟩)
theorem new_any (w : World) :
    Calls Tryd.prog 4 #[] w fun e w' => e = .returned (.pointer (some ⟨w.heap.size, 0, none⟩)) ∧ Below w.heap.size w w' ∧ ∀ P, Bm w' P w.heap.size none newS := by
  go_enter Tryd.func4, Tryd.ntmps4
  go_wp2_with fail
  go_ret
  exact ⟨rfl, below_alloc (Below.refl _ _) _, fun P => ⟨heap_alloc_new w _, ⟨[], rfl, rfl, fun q hq => absurd hq (by simp)⟩, ok_new⟩⟩
end Go.Proofs.YtanfmpeblhegpaaDoor
