/- What a loop over one list's cells leaves as it was; which lists may be written. No condition. -/
import Derived.Test.YtfdejkfbjmkngabWirePair
import Derived.Test.YtfdejkfbjmkngabWireCopy
import Derived.Test.YtfdejkfbjmkngabOwn8
namespace Go.Proofs.Ytfdejkfbjmkngab
open Go.ChangeShapes Go.WideShapes Go.ChangeAt Go.RowKit B8 Cm Wm
set_option linter.unusedVariables false

/-- nothing has turned but in the block of the list at a -/
structure Onl (a : Option Addr) (w w' : World) : Prop where
  os : w'.os = w.os
  tape : w'.tape = w.tape
  output : w'.output = w.output
  size : w'.heap.size = w.heap.size
  block : ∀ b, (∀ off, a ≠ some ⟨b, off, none⟩) → w'.heap[b]? = w.heap[b]?
theorem Onl.refl (a : Option Addr) (w : World) : Onl a w w := ⟨rfl, rfl, rfl, rfl, fun _ _ => rfl⟩
theorem Onl.set {a : Option Addr} {w w' : World} {b off : Nat} (h : Onl a w w') (e : a = some ⟨b, off, none⟩) (p : Nat) (v : Value) : Onl a w (w'.setCell ⟨b, p, none⟩ v) :=
  ⟨h.os, h.tape, h.output, by simpa [World.setCell] using h.size, fun k hk => (Below.heap_setCell _ _ _ _ (fun e2 => hk off (by rw [e, show k = b from e2]))).trans (h.block k hk)⟩
theorem Onl.drew {a : Option Addr} {w w' : World} (h : Onl a w w') : Onl a w w'.drew := ⟨h.os, h.tape, h.output, h.size, h.block⟩
theorem Onl.below {a : Option Addr} {w w' : World} {B : Nat} (h : Onl a w w') (hB : ∀ b off, a = some ⟨b, off, none⟩ → B ≤ b) : Below B w w' :=
  ⟨h.os, h.tape, h.output, Nat.le_of_eq h.size.symm, fun k hk => h.block k (fun off e => by have := hB k off e; omega)⟩
theorem Onl.from {a : Option Addr} {w w' : World} {B : Nat} (h : Onl a w w') (hB : ∀ b off, a = some ⟨b, off, none⟩ → b < B) (k : Nat) (hk : B ≤ k) : w'.heap[k]? = w.heap[k]? := h.block k (fun off e => by have := hB k off e; omega)

/-- the list's cells are there, and may be written -/
def Rm (a : Option Addr) (n : Nat) (w : World) : Prop := ∀ b off, a = some ⟨b, off, none⟩ → ∀ j, j < n → (∃ v, w.cell? ⟨b, off + j, none⟩ = some v) ∧ w.frozen? ⟨b, off + j, none⟩ = false
theorem Rm.set {a : Option Addr} {n : Nat} {w : World} (h : Rm a n w) (p q : Nat) (v : Value) : Rm a n (w.setCell ⟨p, q, none⟩ v) := fun b off e j hj => by
  obtain ⟨⟨u, h1⟩, h2⟩ := h b off e j hj
  refine ⟨?_, by simpa using h2⟩
  by_cases e2 : (⟨p, q, none⟩ : Addr) = ⟨b, off + j, none⟩
  · rw [e2]
    exact ⟨v, World.cell?_setCell_same _ _ _ h1⟩
  · exact ⟨u, (World.cell?_setCell_other _ _ _ _ e2).trans h1⟩
theorem Rm.drew {a : Option Addr} {n : Nat} {w : World} (h : Rm a n w) : Rm a n w.drew := h
theorem Rm.same {a : Option Addr} {n : Nat} {w w' : World} (h : Rm a n w) (hb : ∀ b off, a = some ⟨b, off, none⟩ → w'.heap[b]? = w.heap[b]?) : Rm a n w' := fun b off e j hj => by
  obtain ⟨⟨u, h1⟩, h2⟩ := h b off e j hj
  exact ⟨⟨u, (World.cell?_of_block (w := w) (hb b off e)).trans h1⟩, (World.frozen?_of_block (w := w) (hb b off e)).trans h2⟩
theorem Rm.left {a : Option Addr} {n m : Nat} {w : World} (h : Rm a n w) (hm : m ≤ n) : Rm a m w := fun b off e j hj => h b off e j (by omega)
theorem Sq.rm {w : World} {a : Option Addr} {n cp : Nat} {bs : List Int} (h : Sq w a n cp bs) (hf : ∀ b off, a = some ⟨b, off, none⟩ → 0 < n → Free w b) : Rm a n w := fun b off e j hj => by
  obtain ⟨b', off', e', hc⟩ := h.cells (by omega)
  rw [e] at e'
  obtain ⟨rfl, rfl⟩ : b = b' ∧ off = off' := by simpa using e'
  exact ⟨⟨_, hc j hj⟩, (hf b off e (by omega)).frozen _⟩
theorem mine_at {w : World} {B : Nat} {a : Option Addr} {n cp : Nat} {bs : List Int} (h : Mine w B a n cp bs) {b off : Nat} (e : a = some ⟨b, off, none⟩) : B ≤ b ∧ b < w.heap.size ∧ Free w b := by
  obtain ⟨g, cur, e1, e2, e3, _⟩ := h.2 _ e
  obtain ⟨rfl, rfl⟩ : b = g ∧ off = 0 := by simpa using e1
  exact ⟨e2, (by rcases Nat.lt_or_ge b w.heap.size with h | h; exact h; rw [Array.getElem?_eq_none h] at e3; cases e3), _, _, e3⟩
theorem Mine.rm {w : World} {B : Nat} {a : Option Addr} {n cp : Nat} {bs : List Int} (h : Mine w B a n cp bs) : Rm a n w := Sq.rm h.sq (fun b off e _ => (mine_at h e).2.2)
/-- what Own has made may be written -/
theorem own_rm {w : World} {B g len : Nat} {zs : List Int} {m : Int} (hl : zs.length = len) (hi : wfs zs) (hm : (Lit.int .u8 m).wf = true)
    (h : w.ownsRow B 5 1 (.slice (some ⟨g, 0, none⟩) (len + 2) (len + 2)) (len + 2) (vals (zs ++ [m, m]))) : Rm (some ⟨g, 0, none⟩) len w ∧ g < w.heap.size := by
  obtain ⟨a, cp, e, M⟩ := mine_of_row (by simp; omega) (wfs_append hi (wfs_cons hm (wfs_cons hm wfs_nil))) h
  obtain ⟨rfl, rfl⟩ : some ⟨g, 0, none⟩ = a ∧ len + 2 = cp := by simpa using e
  exact ⟨M.rm.left (by omega), (mine_at M rfl).2.1⟩
/-- things by value whose bytes lie in blocks from B on -/
theorem Vals.onl {w w1 : World} {a : Option Addr} {B : Nat} {cs : Array Value} {xs : List Atom} (h : Vals w (fun b => B ≤ b ∧ b < w.heap.size ∧ Free w b) cs xs) (ho : Onl a w w1) (hB : ∀ b off, a = some ⟨b, off, none⟩ → b < B) : Vals w1 (fun b => B ≤ b ∧ b < w1.heap.size ∧ Free w1 b) cs xs :=
  h.same fun b hl => ⟨⟨hl.1, by rw [ho.size]; exact hl.2.1, hl.2.2.same (ho.from hB b hl.1)⟩, ho.from hB b hl.1⟩
theorem Vals.laterF {w w1 : World} {B : Nat} {cs : Array Value} {xs : List Atom} (h : Vals w (fun b => B ≤ b ∧ b < w.heap.size ∧ Free w b) cs xs) (hb : Below w.heap.size w w1) : Vals w1 (fun b => B ≤ b ∧ b < w1.heap.size ∧ Free w1 b) cs xs := h.same fun b hl => ⟨⟨hl.1, Nat.lt_of_lt_of_le hl.2.1 hb.size, hl.2.2.same (hb.block b hl.2.1)⟩, hb.block b hl.2.1⟩
/-- the last field of a thing whose last field is bytes -/
theorem vals_image {w : World} {P : Nat → Prop} {cs : Array Value} {xs : List Atom} {ks : List Nat} (h : Vals w P cs xs) (hk : xs.map Atom.k = ks) {j : Nat} (hj : ks[j]? = some 4) : ∃ x a n cp, xs[j]? = some x ∧ x.k = 4 ∧ cs[j]? = some (.slice a n cp) ∧ Sq w a n cp x.bs ∧ n ≤ 140737488351232 ∧ ∀ b off, a = some ⟨b, off, none⟩ → 0 < n → P b := by
  obtain ⟨x, v, e1, e2, e3, e4⟩ := vals_at h hk hj
  rcases e4 with g | g | g | g | g
  · exact absurd e2 (by have := g.1; omega)
  · exact absurd e2 (by have := g.1; omega)
  · exact absurd e2 (by have := g.1; omega)
  · exact absurd e2 (by have := g.1; omega)
  · obtain ⟨_, a, n, cp, rfl, q, hn, hp⟩ := g
    exact ⟨x, a, n, cp, e1, e2, e3, q, hn, hp⟩
theorem Vals.upto {w w1 : World} {s : Nat} {cs : Array Value} {xs : List Atom} (h : Vals w (fun b => b < s) cs xs) (hb : Below s w w1) (hs : s ≤ w1.heap.size) : Vals w1 (fun b => b < w1.heap.size) cs xs := h.same fun b hl => ⟨Nat.lt_of_lt_of_le hl hs, hb.block b hl⟩
/-- the list that Own made, as a call has it -/
structure Own (w : World) (g len : Nat) (bs : List Int) : Prop where
  sq : Sq w (some ⟨g, 0, none⟩) len (len + 2) bs
  m1 : w.cell? ⟨g, len, none⟩ = some (.int .u8 72)
  m2 : w.cell? ⟨g, len + 1, none⟩ = some (.int .u8 72)
  rm : Rm (some ⟨g, 0, none⟩) len w
  lt : g < w.heap.size
theorem Own.below {w w1 : World} {g len : Nat} {bs : List Int} (h : Own w g len bs) (hb : Below w.heap.size w w1) : Own w1 g len bs :=
  ⟨h.sq.below hb, (World.cell?_of_block (w := w) (hb.block g h.lt)).trans h.m1, (World.cell?_of_block (w := w) (hb.block g h.lt)).trans h.m2, h.rm.same (fun b off e => by cases e; exact hb.block g h.lt), Nat.lt_of_lt_of_le h.lt hb.size⟩
theorem Vals.keepF {w w1 : World} {B T : Nat} {cs : Array Value} {xs : List Atom} (h : Vals w (fun b => B ≤ b ∧ b < T ∧ Free w b) cs xs) (hb : ∀ b, B ≤ b → b < T → w1.heap[b]? = w.heap[b]?) : Vals w1 (fun b => B ≤ b ∧ b < T ∧ Free w1 b) cs xs := h.same fun b hl => ⟨⟨hl.1, hl.2.1, hl.2.2.same (hb b hl.1 hl.2.1)⟩, hb b hl.1 hl.2.1⟩
/-- two things that were read, each in a row of its own, and their bytes from a block on -/
structure Pair (w0 w : World) (s gm gn : Nat) (cm cn : Array Value) (X : List Atom) : Prop where
  b : Below w0.heap.size w0 w
  vm : Vals w (fun b => s ≤ b ∧ b < gm ∧ Free w b) cm X
  im : w.heap[gm]? = some (.cells cm 29)
  vn : Vals w (fun b => gm + 1 ≤ b ∧ b < w.heap.size ∧ Free w b) cn X
  inn : w.heap[gn]? = some (.cells cn 29)
theorem Pair.last {w0 w w1 : World} {s gm gn : Nat} {a : Option Addr} {cm cn : Array Value} {X : List Atom} (h : Pair w0 w s gm gn cm cn X) (ho : Onl a w w1) (ha : ∀ b off, a = some ⟨b, off, none⟩ → s ≤ b ∧ b < gm) (h0 : w0.heap.size ≤ s) (h3 : gm + 1 ≤ gn) : Below w0.heap.size w0 w1 ∧ w1.heap[gm]? = some (.cells cm 29) ∧ Vals w1 (fun b => gm + 1 ≤ b ∧ b < w1.heap.size ∧ Free w1 b) cn X ∧ w1.heap[gn]? = some (.cells cn 29) :=
  ⟨h.b.trans (ho.below (fun b off e => Nat.le_trans h0 (ha b off e).1)), (ho.from (B := gm) (fun b off e => (ha b off e).2) gm (Nat.le_refl _)).trans h.im, h.vn.onl ho (fun b off e => by have := (ha b off e).2; omega), (ho.from (B := gm) (fun b off e => (ha b off e).2) gn (by omega)).trans h.inn⟩
theorem lt_of_row {w : World} {g : Nat} {o : Obj} (h : w.heap[g]? = some o) : g < w.heap.size := by
  rcases Nat.lt_or_ge g w.heap.size with h1 | h1
  · exact h1
  · rw [Array.getElem?_eq_none h1] at h; cases h
theorem Pair.below {w0 w w1 : World} {s gm gn : Nat} {cm cn : Array Value} {X : List Atom} (h : Pair w0 w s gm gn cm cn X) (hb : Below w.heap.size w w1) : Pair w0 w1 s gm gn cm cn X :=
  ⟨h.b.trans (hb.mono h.b.size), h.vm.keepF (fun b _ hl => hb.block b (Nat.lt_trans hl (lt_of_row h.im))), (hb.block _ (lt_of_row h.im)).trans h.im, h.vn.laterF hb, (hb.block _ (lt_of_row h.inn)).trans h.inn⟩
theorem Pair.onl {w0 w w1 : World} {s gm gn g : Nat} {cm cn : Array Value} {X : List Atom} (h : Pair w0 w s gm gn cm cn X) (ho : Onl (some ⟨g, 0, none⟩) w w1) (h0 : w0.heap.size ≤ g) (h1 : g < s) (h2 : s ≤ gm) (h3 : gm + 1 ≤ gn) : Pair w0 w1 s gm gn cm cn X :=
  ⟨h.b.trans (ho.below (fun b off e => by cases e; exact h0)), h.vm.keepF (fun b hl _ => ho.from (B := s) (fun b off e => by cases e; exact h1) b hl), (ho.from (B := s) (fun b off e => by cases e; exact h1) gm h2).trans h.im, h.vn.onl ho (fun b off e => by cases e; omega), (ho.from (B := s) (fun b off e => by cases e; exact h1) gn (by omega)).trans h.inn⟩
end Go.Proofs.Ytfdejkfbjmkngab
