/- A landed log's Get; the calls of a nil log. No condition. -/
import Derived.Test.YtpaciknmmceehaaSlotsCallsS
namespace Go.Proofs.Ytpaciknmmceehaa.Ls
open Go.ChangeShapes Go.WideShapes Go.ChangeAt Go.RowKit Sx
set_option linter.unusedVariables false

def va (x : Al) : Value := .string x
def zv : Value := .string ⟨#[]⟩
def ansV : Option Al → Value
  | some x => va x
  | none => zv
theorem enc_cells {w : World} {b : Nat} {x : Al} (h : w.heap[b]? = some (.cells (enc x) 9 (0, 0))) : ∀ (j : Nat) (v : Value), (enc x)[j]? = some v → w.cell? ⟨b, j, none⟩ = some v := fun j v hj => by rw [cell_of_row _ _ j _ _ _ h]; exact hj
section
variable {w w' : World} {P : Nat} {L : Lay} {s : Ss Al}
set_option maxRecDepth 100000 in
set_option maxHeartbeats 1000000 in
theorem get_any (h : Lg w P L s) (i : Int) : Calls Try.prog 23 #[.pointer (some ⟨P, 0, none⟩), .int .i64 i] w fun e w' => e = .returned (.tuple #[ansV (getV s i), .bool (getV s i).isSome]) ∧ ∃ k, w' = w.drewN k := by
  obtain ⟨c0, _, c2, _⟩ := h.c
  have CT := hide (top_any h)
  have H := hide h
  have LN := h.len
  rw [Lay.v, h.len] at c2
  have f1 := h.ok.f1
  have f2 := h.ok.f2
  have l1 : s.ps.length ≤ 1024 := by have := h.ok.len; have := h.ok.m2; omega
  by_cases h1 : i < s.first
  · have e1 : getV s i = none := by simp [getV, h1]
    rw [e1]
    clear h e1 f1 f2 l1 LN
    go_enter Try.func23, Try.ntmps23
    go_wp2_with fail
    go_ret2
    exact ⟨rfl, 0, rfl⟩
  · obtain ⟨k, rfl⟩ : ∃ k : Nat, i = s.first + (k : Int) := ⟨(i - s.first).toNat, by omega⟩
    have eg : getV s (s.first + (k : Int)) = (s.ps[k]?).join := by unfold getV; rw [if_neg h1, show (s.first + (k : Int) - s.first).toNat = k by omega]
    rw [eg]
    have h1' : ¬ (s.first + (k : Int) < s.first) := h1
    by_cases h2 : k < s.ps.length
    · obtain ⟨b, o, e1, e2, hp⟩ := h.place h2
      obtain ⟨g, ea, cg, _⟩ := h.at e1
      rw [ea] at c2
      rw [e2]
      have t1 : ¬ (topV s ≤ s.first + (k : Int)) := by unfold topV; omega
      have t2 : (k : Int) < (s.ps.length : Int) := by omega
      have t3 : (0 : Int) ≤ (k : Int) := by omega
      have t4 : IntKind.i64.wrap (k : Int) = (k : Int) := by rw [IntKind.wrap_i64]; omega
      have t5 : IntKind.i64.wrap (s.first + (k : Int) - s.first) = (k : Int) := by rw [IntKind.wrap_i64]; omega
      rcases hp.shape with ⟨rfl, rfl⟩ | ⟨b0, x, rfl, rfl, hx⟩
      · rw [show pv none = .pointer none from rfl] at cg
        simp only [Option.join_some]
        clear h eg f1 f2 l1 LN e1 e2 hp ea h1
        generalize s.first = F at *
        go_enter Try.func23, Try.ntmps23
        go_wp2_with fail
        refine CT.out.mono ?_
        rintro e w2 ⟨rfl, q, rfl⟩
        go_wp2_with fail
        go_quiet (fail)
        go_wp2_with fail
        go_ret2
        exact ⟨rfl, _, rfl⟩
      · rw [show pv (some b0) = .pointer (some ⟨b0, 0, none⟩) from rfl] at cg
        have y0 := enc_cells hx 0 _ rfl
        skip
        simp only [Option.join_some]
        clear h eg f1 f2 l1 LN e1 e2 hp ea h1
        generalize s.first = F at *
        go_enter Try.func23, Try.ntmps23
        go_wp2_with fail
        refine CT.out.mono ?_
        rintro e w2 ⟨rfl, q, rfl⟩
        go_wp2_with fail
        go_quiet (fail)
        go_wp2_with fail
        go_ret2
        exact ⟨rfl, _, rfl⟩
    · have e2 : s.ps[k]? = none := List.getElem?_eq_none (by omega)
      rw [e2]
      have t1 : topV s ≤ s.first + (k : Int) := by unfold topV; omega
      simp only [Option.join_none]
      clear h eg f1 f2 l1 LN e2 h1
      generalize s.first = F at *
      go_enter Try.func23, Try.ntmps23
      go_wp2_with fail
      refine CT.out.mono ?_
      rintro e w2 ⟨rfl, q, rfl⟩
      go_wp2_with fail
      go_ret2
      exact ⟨rfl, _, rfl⟩
end
theorem first_nil (w : World) : Calls Try.prog 24 #[.pointer none] w fun e w' => e = .returned (.int .i64 0) ∧ w' = w := by
  go_enter Try.func24, Try.ntmps24
  go_wp2_with fail
  go_ret
  exact ⟨rfl, rfl⟩
theorem next_nil (w : World) : Calls Try.prog 25 #[.pointer none] w fun e w' => e = .returned (.int .i64 0) ∧ w' = w := by
  go_enter Try.func25, Try.ntmps25
  go_wp2_with fail
  go_ret
  exact ⟨rfl, rfl⟩
theorem top_nil (w : World) : Calls Try.prog 26 #[.pointer none] w fun e w' => e = .returned (.int .i64 0) ∧ w' = w := by
  go_enter Try.func26, Try.ntmps26
  go_wp2_with fail
  go_ret
  exact ⟨rfl, rfl⟩
set_option maxRecDepth 100000 in
theorem get_nil (w : World) (i : Int) : Calls Try.prog 23 #[.pointer none, .int .i64 i] w fun e w' => e = .returned (.tuple #[zv, .bool false]) ∧ w' = w := by
  go_enter Try.func23, Try.ntmps23
  go_wp2_with fail
  go_ret2
  exact ⟨rfl, rfl⟩
set_option maxRecDepth 100000 in
theorem put_nil (w : World) (i : Int) (x : Al) : Calls Try.prog 22 #[.pointer none, .int .i64 i, va x] w fun e w' => e = .returned (.int .i64 2) ∧ Below w.heap.size w w' := by
  have FI : Hid (Below w.heap.size w (w.alloc (.cells (enc x) 9))) := below_alloc (Below.refl _ _) _
  simp only [enc] at FI
  simp only [va]
  go_enter Try.func22, Try.ntmps22
  go_wp2_with fail
  go_ret
  exact ⟨rfl, FI.out⟩
end Go.Proofs.Ytpaciknmmceehaa.Ls
