/- What both logs tell of themselves: the same. No condition. -/
import Derived.Test.YtpaciknmmceehaaSlotsKindCalls
namespace Go.Proofs.Ytpaciknmmceehaa
open Go.ChangeShapes Go.WideShapes Go.ChangeAt Go.RowKit Sx
set_option linter.unusedVariables false
namespace Kd
section
variable {w w' wr : World} {P R b : Nat} {s s4 : Ss (ByteArray × Int)} {t t4 : Ss (Option Addr × Nat × Nat)} {cs : Array Value}
theorem drewN_below (w : World) (k : Nat) : Below w.heap.size w (w.drewN k) := ⟨rfl, rfl, rfl, Nat.le_refl _, fun _ _ => rfl⟩
theorem firstA (h : Done w wr P R s t b cs) : Calls Try.prog 13 #[.pointer (some ⟨P, 0, none⟩)] wr fun e w' => e = .returned (.int .i64 s.first) ∧ Below wr.heap.size wr w' := by
  obtain ⟨⟨_, ⟨L, hl, _⟩, _⟩, _⟩ := h
  exact (Lp.first_any hl).mono (by rintro e w' ⟨rfl, rfl⟩; exact ⟨rfl, Below.refl _ _⟩)
theorem firstB (h : Done w wr P R s t b cs) : Calls Try.prog 14 #[.pointer (some ⟨R, 0, none⟩)] wr fun e w' => e = .returned (.int .i64 s.first) ∧ Below wr.heap.size wr w' := by
  obtain ⟨⟨_, _, K, hl, _⟩, h2, _⟩ := h
  rw [h2.first]
  exact (Lb.first_any hl).mono (by rintro e w' ⟨rfl, rfl⟩; exact ⟨rfl, Below.refl _ _⟩)
theorem nextA (h : Done w wr P R s t b cs) : Calls Try.prog 15 #[.pointer (some ⟨P, 0, none⟩)] wr fun e w' => e = .returned (.int .i64 (nextV s)) ∧ Below wr.heap.size wr w' := by
  obtain ⟨⟨_, ⟨L, hl, _⟩, _⟩, _⟩ := h
  exact (Lp.next_any hl).mono (by rintro e w' ⟨rfl, k, rfl⟩; exact ⟨rfl, drewN_below _ _⟩)
theorem nextB (h : Done w wr P R s t b cs) : Calls Try.prog 16 #[.pointer (some ⟨R, 0, none⟩)] wr fun e w' => e = .returned (.int .i64 (nextV s)) ∧ Below wr.heap.size wr w' := by
  obtain ⟨⟨_, _, K, hl, _⟩, h2, _⟩ := h
  rw [h2.next]
  exact (Lb.next_any hl).mono (by rintro e w' ⟨rfl, k, rfl⟩; exact ⟨rfl, drewN_below _ _⟩)
theorem topA (h : Done w wr P R s t b cs) : Calls Try.prog 17 #[.pointer (some ⟨P, 0, none⟩)] wr fun e w' => e = .returned (.int .i64 (topV s)) ∧ Below wr.heap.size wr w' := by
  obtain ⟨⟨_, ⟨L, hl, _⟩, _⟩, _⟩ := h
  exact (Lp.top_any hl).mono (by rintro e w' ⟨rfl, k, rfl⟩; exact ⟨rfl, drewN_below _ _⟩)
theorem topB (h : Done w wr P R s t b cs) : Calls Try.prog 18 #[.pointer (some ⟨R, 0, none⟩)] wr fun e w' => e = .returned (.int .i64 (topV s)) ∧ Below wr.heap.size wr w' := by
  obtain ⟨⟨_, _, K, hl, _⟩, h2, _⟩ := h
  rw [h2.top]
  exact (Lb.top_any hl).mono (by rintro e w' ⟨rfl, k, rfl⟩; exact ⟨rfl, drewN_below _ _⟩)
theorem lenA (h : Done w wr P R s t b cs) : Calls Try.prog 19 #[.pointer (some ⟨P, 0, none⟩)] wr fun e w' => e = .returned (.int .i64 (cnt s.ps)) ∧ Below wr.heap.size wr w' := by
  obtain ⟨⟨_, ⟨L, hl, _⟩, _⟩, _⟩ := h
  exact (Lp.len_any hl).mono (by rintro e w' ⟨rfl, rfl⟩; exact ⟨rfl, Below.refl _ _⟩)
theorem lenB (h : Done w wr P R s t b cs) : Calls Try.prog 20 #[.pointer (some ⟨R, 0, none⟩)] wr fun e w' => e = .returned (.int .i64 (cnt s.ps)) ∧ Below wr.heap.size wr w' := by
  obtain ⟨⟨_, _, K, hl, _⟩, h2, _⟩ := h
  rw [h2.ps.cnt]
  exact (Lb.len_any hl).mono (by rintro e w' ⟨rfl, rfl⟩; exact ⟨rfl, Below.refl _ _⟩)
/-- the place that both are asked for: empty in both, or filled with the same bytes -/
theorem gets (h : Done w wr P R s t b cs) (i : Int) : (getV s i = none ∧ getV t i = none) ∨ ∃ x y, getV s i = some x ∧ getV t i = some y ∧ By wr y x.1 := h.2.1.get i
end
end Kd
end Go.Proofs.Ytpaciknmmceehaa
