/- A writer, and a reader of things, that have just been made. No condition. -/
import Derived.Test.YtfdejkfbjmkngabWireWThings
import Derived.Test.YtfdejkfbjmkngabWireRThings
import Derived.Test.YtfdejkfbjmkngabWireTop
namespace Go.Proofs.Ytfdejkfbjmkngab
open Go.ChangeShapes Go.WideShapes Go.ChangeAt Go.RowKit B8 Cm Wm
set_option linter.unusedVariables false

theorem ws_new {B : Nat} (w : World) (hB : B ≤ w.heap.size) : WS (w.alloc (.cells #[.slice none 0 0, .bool false] 106)) B w.heap.size [] :=
  ⟨.slice none 0 0, [], false, by simp, by simp, by simp, by simp, World.ownsRow_nil _ _ _ _, wfs_nil, fun _ => ⟨rfl, rfl⟩, fun h => absurd h (by decide), by simp [Value.ownBlock], by simp, hB⟩
theorem wown_first (w : World) {k : Nat} (h : Wown w.heap.size (w.alloc (.cells #[.slice none 0 0, .bool false] 106)) k) : k = w.heap.size := by
  rcases h with h | ⟨v, h1, h2⟩
  · exact h
  · have : (w.alloc (.cells #[.slice none 0 0, .bool false] 106)).cell? ⟨w.heap.size, 0, none⟩ = some (.slice none 0 0) := by simp
    rw [this] at h1
    obtain rfl := Option.some.inj h1
    simp [Value.ownBlock] at h2


theorem rs_new {w w4 : World} {B R n : Nat} {bs : List Int} (hB : B ≤ w4.heap.size) (hm : Made w w4 R n bs) (hR : w.heap.size ≤ R) (hn : n ≤ 65536) : ∃ a cp, RS (w4.alloc (.cells #[.pointer (some ⟨R, 0, none⟩), .bool false] 87)) B w4.heap.size R a n cp bs ⟨0, 0⟩ ∧ ∀ b off, a = some ⟨b, off, none⟩ → w.heap.size ≤ b := by
  obtain ⟨a, cp, hr, hb⟩ := hm
  have hlt := World.block_lt_of_cell? w4 _ hr.c0
  have hbl : Below w4.heap.size w4 (w4.alloc (.cells #[.pointer (some ⟨R, 0, none⟩), .bool false] 87)) := Below.alloc (Below.refl _ _) (Nat.le_refl _) _
  have hlt' : R < w4.heap.size := hlt
  exact ⟨a, cp, ⟨⟨0, 0⟩, false, by simp, by simp, by simp, hr.grown (grown_below hbl none) (by simp) (by simp), by omega, fun b off e => ⟨by have := (hb b off e).2; omega, by have := (hb b off e).2; simp; omega⟩, hn, Nat.le_trans hB hbl.size, fun _ => rfl, fun h => by cases h⟩, fun b off e => (hb b off e).1⟩
end Go.Proofs.Ytfdejkfbjmkngab
