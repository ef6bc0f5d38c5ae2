/- What a step leaves of the memory that there was: all blocks but some. No condition. -/
import Derived.Test.YthfjndlmihepbaaBase
import Derived.Deep.MidRow
import Derived.Deep.DeepAppendWide
namespace Go.Proofs.Ythfjndlmihepbaa
open Go.ChangeShapes Go.WideShapes Go.ChangeAt Go.RowKit
set_option linter.unusedVariables false

/-- of the blocks that there were none has turned but those of L -/
structure Chg (L : Nat → Prop) (w w' : World) : Prop where
  os : w'.os = w.os
  tape : w'.tape = w.tape
  output : w'.output = w.output
  size : w.heap.size ≤ w'.heap.size
  block : ∀ k, k < w.heap.size → ¬ L k → w'.heap[k]? = w.heap[k]?

section
variable {L L' : Nat → Prop} {w w1 w2 : World}
theorem Chg.refl (L : Nat → Prop) (w : World) : Chg L w w := ⟨rfl, rfl, rfl, Nat.le_refl _, fun _ _ _ => rfl⟩
theorem Chg.trans (h : Chg L w w1) (g : Chg L' w1 w2) (hl : ∀ k, k < w.heap.size → L' k → L k) : Chg L w w2 :=
  ⟨g.os.trans h.os, g.tape.trans h.tape, g.output.trans h.output, Nat.le_trans h.size g.size, fun k hk hn => (g.block k (Nat.lt_of_lt_of_le hk h.size) (fun h' => hn (hl k hk h'))).trans (h.block k hk hn)⟩
theorem Chg.mono (h : Chg L w w1) (hl : ∀ k, k < w.heap.size → L k → L' k) : Chg L' w w1 := (Chg.refl L' w).trans h hl
theorem Chg.drew (h : Chg L w w1) : Chg L w w1.drew := ⟨h.os, h.tape, h.output, h.size, h.block⟩
theorem Chg.alloc (h : Chg L w w1) (o : Obj) : Chg L w (w1.alloc o) :=
  ⟨h.os, h.tape, h.output, Nat.le_trans h.size (by simp), fun k hk hn => (Below.heap_alloc _ _ _ (Nat.lt_of_lt_of_le hk h.size)).trans (h.block k hk hn)⟩
theorem Chg.setCell (h : Chg L w w1) {p : Addr} (hp : L p.block ∨ w.heap.size ≤ p.block) (u : Value) : Chg L w (w1.setCell p u) :=
  ⟨h.os, h.tape, h.output, Nat.le_trans h.size (by simp [World.setCell]), fun k hk hn => (Below.heap_setCell _ _ _ _ (fun e => by subst e; rcases hp with hp | hp; exact hn hp; omega)).trans (h.block k hk hn)⟩
theorem Chg.setRow (h : Chg L w w1) {g : Nat} (hp : L g ∨ w.heap.size ≤ g) (cs : Array Value) : Chg L w (w1.setRow g cs) :=
  ⟨h.os, h.tape, h.output, Nat.le_trans h.size (by simp [World.setRow]), fun k hk hn => (setRow_other w1 g k cs (fun e => by subst e; rcases hp with hp | hp; exact hn hp; omega)).trans (h.block k hk hn)⟩
theorem Chg.grown (h : Chg L w w1) {row : Option Nat} (hg : w1.grownBy w2 row) (hr : ∀ k, row = some k → L k ∨ w.heap.size ≤ k) : Chg L w w2 :=
  ⟨hg.os.trans h.os, hg.tape.trans h.tape, hg.output.trans h.output, Nat.le_trans h.size hg.size, fun k hk hn => (hg.block k (Nat.lt_of_lt_of_le hk h.size) (fun e => by rcases hr k e.symm with h1 | h1; exact hn h1; omega)).trans (h.block k hk hn)⟩
theorem Chg.below (h : Chg L w w1) {B : Nat} (hB : B ≤ w.heap.size) (hl : ∀ k, L k → B ≤ k) : Below B w w1 :=
  ⟨h.os, h.tape, h.output, h.size, fun k hk => h.block k (by omega) (fun h' => by have := hl k h'; omega)⟩
theorem Chg.of_below (h : Below w.heap.size w w1) (L : Nat → Prop) : Chg L w w1 := ⟨h.os, h.tape, h.output, h.size, fun k hk _ => h.block k hk⟩
theorem Chg.drewN (L : Nat → Prop) (w : World) (n : Nat) : Chg L w (w.drewN n) := ⟨rfl, rfl, rfl, Nat.le_refl _, fun _ _ _ => rfl⟩
end
theorem row_same {w w' : World} {B T n : Nat} {v : Value} {xs : List Value} {sz : Nat} (h : w.ownsRow B T sz v n xs) (hb : ∀ k, v.ownBlock = some k → w'.heap[k]? = w.heap[k]?) : w'.ownsRow B T sz v n xs := by
  obtain ⟨hl, h | ⟨g, cp, cur, h1, h2, h3, h4, h5, h6, h7⟩⟩ := h
  · exact ⟨hl, .inl h⟩
  · exact ⟨hl, .inr ⟨g, cp, cur, h1, h2, (hb g (by rw [h1]; rfl)).trans h3, h4, h5, h6, h7⟩⟩

theorem setCell_frozen (w : World) (a : Addr) (u : Value) (b : Addr) : (w.setCell a u).frozen? b = w.frozen? b := World.frozen?_setCell _ _ _ _
theorem setCells_at (g : Nat) (t : TypeId) : ∀ (vs : List Value) (o : Nat) (w : World) (cur : Array Value), w.heap[g]? = some (.cells cur t (0, 0)) → o + vs.length ≤ cur.size →
    ∃ cur', (w.setCells g o vs).heap[g]? = some (.cells cur' t (0, 0)) ∧ cur'.size = cur.size ∧ ∀ j, cur'[j]? = if o ≤ j ∧ j < o + vs.length then vs[j - o]? else cur[j]?
  | [], o, w, cur, h, _ => ⟨cur, h, rfl, fun j => by rw [if_neg (by simp)]⟩
  | v :: r, o, w, cur, h, hs => by
    have hw : (w.setCell ⟨g, o, none⟩ v).heap[g]? = some (.cells (cur.setIfInBounds o v) t (0, 0)) := by simp [World.setCell, Array.getElem?_modify, h]
    obtain ⟨cur', h1, h2, h3⟩ := setCells_at g t r (o + 1) (w.setCell ⟨g, o, none⟩ v) _ hw (by simp at hs ⊢; omega)
    refine ⟨cur', h1, by rw [h2]; simp, fun j => ?_⟩
    rw [h3 j]
    simp only [List.length_cons] at hs ⊢
    by_cases e : j = o
    · subst e
      rw [if_neg (by omega), if_pos (by omega)]
      have : j < cur.size := by omega
      simp [this]
    · by_cases e2 : o + 1 ≤ j ∧ j < o + 1 + r.length
      · rw [if_pos e2, if_pos (by omega), show j - o = (j - (o + 1)) + 1 by omega]
        simp
      · rw [if_neg e2, if_neg (by omega), Array.getElem?_setIfInBounds, if_neg (by omega)]
theorem setCells_isSome (w : World) (g : Nat) : ∀ (vs : List Value) (o : Nat) (w : World) (j : Nat), (w.cell? ⟨g, j, none⟩).isSome = true → ((w.setCells g o vs).cell? ⟨g, j, none⟩).isSome = true
  | [], _, _, _, h => h
  | v :: r, o, w, j, h => by
    rw [World.setCells]
    refine setCells_isSome w g r (o + 1) _ j ?_
    by_cases e : j = o
    · subst e
      rw [World.cell?_setCell_same' _ _ _ h]
      rfl
    · rw [World.cell?_setCell_other _ _ _ _ (by simp)]
      exact h
theorem setCells_frozen (g : Nat) (a : Addr) : ∀ (vs : List Value) (o : Nat) (w : World), (w.setCells g o vs).frozen? a = w.frozen? a
  | [], _, _ => rfl
  | v :: r, o, w => by rw [World.setCells, setCells_frozen g a r (o + 1), World.frozen?_setCell]
theorem setCells_grown (g : Nat) : ∀ (vs : List Value) (o : Nat) (w : World), w.grownBy (w.setCells g o vs) (some g)
  | [], _, w => World.grownBy.refl w _
  | v :: r, o, w => by
    rw [World.setCells]
    have h := setCells_grown g r (o + 1) (w.setCell ⟨g, o, none⟩ v)
    exact ⟨h.os, h.tape, h.output, Nat.le_trans (by simp [World.setCell]) h.size, fun k hk hn => (h.block k (by simpa [World.setCell] using hk) hn).trans (Below.heap_setCell _ _ _ _ (fun e => hn (by rw [e])))⟩
theorem setCells_drew (b : Nat) : ∀ (vs : List Value) (o : Nat) (w : World), w.drew.setCells b o vs = (w.setCells b o vs).drew
  | [], _, _ => rfl
  | v :: r, o, w => by rw [World.setCells, World.setCells]; exact setCells_drew b r (o + 1) (w.setCell ⟨b, o, none⟩ v)
end Go.Proofs.Ythfjndlmihepbaa
