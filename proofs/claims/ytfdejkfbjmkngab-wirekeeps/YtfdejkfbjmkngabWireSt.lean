/- What a step of a walk over a thing's fields leaves as it was; how a thing's plain fields lie in memory. No condition. -/
import Derived.Test.YtfdejkfbjmkngabCodecCut
import Derived.Test.YtfdejkfbjmkngabWireMath
namespace Go.Proofs.Ytfdejkfbjmkngab
open Go.ChangeShapes Go.WideShapes Go.ChangeAt Go.RowKit B8 Cm Wm
set_option linter.unusedVariables false

/-- blocks that are not the clerk's (S) stay as they were; the clerk's are those that it had, or new ones -/
structure Stq (S : World → Nat → Prop) (w w' : World) : Prop where
  os : w'.os = w.os
  tape : w'.tape = w.tape
  output : w'.output = w.output
  size : w.heap.size ≤ w'.heap.size
  block : ∀ k, k < w.heap.size → ¬ S w k → w'.heap[k]? = w.heap[k]?
  own : ∀ k, S w' k → S w k ∨ w.heap.size ≤ k

/-- likewise, but for the cells from lo on, up to hi, of the block M -/
structure Stp (S : World → Nat → Prop) (M lo hi : Nat) (w w' : World) : Prop where
  os : w'.os = w.os
  tape : w'.tape = w.tape
  output : w'.output = w.output
  size : w.heap.size ≤ w'.heap.size
  block : ∀ k, k < w.heap.size → ¬ S w k → k ≠ M → w'.heap[k]? = w.heap[k]?
  cell : ∀ o, ¬ (lo ≤ o ∧ o < hi) → w'.cell? ⟨M, o, none⟩ = w.cell? ⟨M, o, none⟩
  frozen : ∀ o, w'.frozen? ⟨M, o, none⟩ = w.frozen? ⟨M, o, none⟩
  own : ∀ k, S w' k → S w k ∨ w.heap.size ≤ k

section
variable {S : World → Nat → Prop} {w w1 w2 : World} {M lo hi lo' hi' : Nat}
theorem Stq.refl (S : World → Nat → Prop) (w : World) : Stq S w w := ⟨rfl, rfl, rfl, Nat.le_refl _, fun _ _ _ => rfl, fun _ h => .inl h⟩
theorem Stq.keep (h : Stq S w w1) {k : Nat} (hk : k < w.heap.size) (hs : ¬ S w k) : ¬ S w1 k := fun hs1 => by
  rcases h.own k hs1 with h1 | h1
  · exact hs h1
  · omega
theorem Stq.trans (h : Stq S w w1) (g : Stq S w1 w2) : Stq S w w2 :=
  ⟨g.os.trans h.os, g.tape.trans h.tape, g.output.trans h.output, Nat.le_trans h.size g.size,
   fun k hk hs => (g.block k (Nat.lt_of_lt_of_le hk h.size) (h.keep hk hs)).trans (h.block k hk hs),
   fun k hs => by
    rcases g.own k hs with h1 | h1
    · exact h.own k h1
    · exact .inr (Nat.le_trans h.size h1)⟩
theorem Stp.keep (h : Stp S M lo hi w w1) {k : Nat} (hk : k < w.heap.size) (hs : ¬ S w k) : ¬ S w1 k := fun hs1 => by
  rcases h.own k hs1 with h1 | h1
  · exact hs h1
  · omega
theorem Stp.refl (S : World → Nat → Prop) (M lo hi : Nat) (w : World) : Stp S M lo hi w w := ⟨rfl, rfl, rfl, Nat.le_refl _, fun _ _ _ _ => rfl, fun _ _ => rfl, fun _ => rfl, fun _ h => .inl h⟩
theorem Stp.wider (h : Stp S M lo hi w w1) (h1 : lo' ≤ lo) (h2 : hi ≤ hi') : Stp S M lo' hi' w w1 :=
  ⟨h.os, h.tape, h.output, h.size, h.block, fun o ho => h.cell o (by omega), h.frozen, h.own⟩
theorem Stp.trans (h : Stp S M lo hi w w1) (g : Stp S M lo hi w1 w2) : Stp S M lo hi w w2 :=
  ⟨g.os.trans h.os, g.tape.trans h.tape, g.output.trans h.output, Nat.le_trans h.size g.size,
   fun k hk hs hM => (g.block k (Nat.lt_of_lt_of_le hk h.size) (h.keep hk hs) hM).trans (h.block k hk hs hM),
   fun o ho => (g.cell o ho).trans (h.cell o ho), fun o => (g.frozen o).trans (h.frozen o),
   fun k hs => by
    rcases g.own k hs with h1 | h1
    · exact h.own k h1
    · exact .inr (Nat.le_trans h.size h1)⟩
theorem Stq.to (h : Stq S w w1) (hM : M < w.heap.size) (hs : ¬ S w M) (lo hi : Nat) : Stp S M lo hi w w1 :=
  ⟨h.os, h.tape, h.output, h.size, fun k hk hs' _ => h.block k hk hs', fun o _ => World.cell?_of_block (w := w) (h.block M hM hs), fun o => World.frozen?_of_block (w := w) (h.block M hM hs), h.own⟩
/-- what was done at a block of the call's own is nothing to what was there -/
theorem Stp.inner (h : Stp S M lo hi w1 w2) (g : Stq S w w1) (hM : w.heap.size ≤ M) : Stq S w w2 :=
  ⟨h.os.trans g.os, h.tape.trans g.tape, h.output.trans g.output, Nat.le_trans g.size h.size,
   fun k hk hs => (h.block k (Nat.lt_of_lt_of_le hk g.size) (g.keep hk hs) (by omega)).trans (g.block k hk hs),
   fun k hs => by
    rcases h.own k hs with h1 | h1
    · exact g.own k h1
    · exact .inr (Nat.le_trans g.size h1)⟩
theorem Stp.below (h : Stp S M lo hi w w1) {B : Nat} (hB : B ≤ w.heap.size) (hS : ∀ k, S w k → B ≤ k) (hM : B ≤ M) : Below B w w1 :=
  ⟨h.os, h.tape, h.output, h.size, fun k hk => h.block k (by omega) (fun hs => by have := hS k hs; omega) (by omega)⟩
theorem Stq.below (h : Stq S w w1) {B : Nat} (hB : B ≤ w.heap.size) (hS : ∀ k, S w k → B ≤ k) : Below B w w1 :=
  ⟨h.os, h.tape, h.output, h.size, fun k hk => h.block k (by omega) (fun hs => by have := hS k hs; omega)⟩
end

/-- a block that neither the clerk nor the walk over M writes -/
def Out (S : World → Nat → Prop) (M : Nat) (w : World) (b : Nat) : Prop := b < w.heap.size ∧ ¬ S w b ∧ b ≠ M
theorem Stp.out {S : World → Nat → Prop} {M lo hi : Nat} {w w1 : World} (h : Stp S M lo hi w w1) {b : Nat} (hb : Out S M w b) : Out S M w1 b ∧ w1.heap[b]? = w.heap[b]? :=
  ⟨⟨Nat.lt_of_lt_of_le hb.1 h.size, h.keep hb.1 hb.2.1, hb.2.2⟩, h.block b hb.1 hb.2.1 hb.2.2⟩

/-- likewise, from the block B on -/
def OutB (B : Nat) (S : World → Nat → Prop) (M : Nat) (w : World) (b : Nat) : Prop := B ≤ b ∧ Out S M w b
theorem Stp.outB {B : Nat} {S : World → Nat → Prop} {M lo hi : Nat} {w w1 : World} (h : Stp S M lo hi w w1) {b : Nat} (hb : OutB B S M w b) : OutB B S M w1 b ∧ w1.heap[b]? = w.heap[b]? :=
  ⟨⟨hb.1, (h.out hb.2).1⟩, (h.out hb.2).2⟩

/-- a block whose cells may be written -/
def Free (w : World) (b : Nat) : Prop := ∃ cur t, w.heap[b]? = some (.cells cur t (0, 0))
theorem Free.same {w w1 : World} {b : Nat} (h : Free w b) (e : w1.heap[b]? = w.heap[b]?) : Free w1 b := by
  obtain ⟨cur, t, h⟩ := h
  exact ⟨cur, t, e.trans h⟩
theorem Free.frozen {w : World} {b : Nat} (h : Free w b) (o : Nat) : w.frozen? ⟨b, o, none⟩ = false := by
  obtain ⟨cur, t, h⟩ := h
  exact frozen_of_row w b o cur t h
/-- likewise, and it may be written -/
def OutF (B : Nat) (S : World → Nat → Prop) (M : Nat) (w : World) (b : Nat) : Prop := B ≤ b ∧ b < w.heap.size ∧ ¬ S w b ∧ b ≠ M ∧ Free w b
theorem Stp.outF {B : Nat} {S : World → Nat → Prop} {M lo hi : Nat} {w w1 : World} (h : Stp S M lo hi w w1) {b : Nat} (hb : OutF B S M w b) : OutF B S M w1 b ∧ w1.heap[b]? = w.heap[b]? := by
  have k := h.out (b := b) ⟨hb.2.1, hb.2.2.1, hb.2.2.2.1⟩
  exact ⟨⟨hb.1, k.1.1, k.1.2.1, k.1.2.2, hb.2.2.2.2.same k.2⟩, k.2⟩

/-- a string's bytes as numbers -/
def strB (s : ByteArray) : List Int := s.data.toList.map fun c => (c.toNat : Int)

/-- what a cell holds of a plain field -/
def AtomV (w : World) (P : Nat → Prop) (v : Value) (x : Atom) : Prop :=
  (x.k = 0 ∧ v = .int .i64 x.z ∧ -9223372036854775808 ≤ x.z ∧ x.z ≤ 9223372036854775807) ∨
  (x.k = 1 ∧ v = .int .u32 x.z ∧ 0 ≤ x.z ∧ x.z ≤ 4294967295) ∨
  (x.k = 2 ∧ ((v = .bool true ∧ x.z = 1) ∨ (v = .bool false ∧ x.z = 0))) ∨
  (x.k = 3 ∧ ∃ s : ByteArray, v = .string s ∧ x.bs = strB s ∧ x.bs.length ≤ 140737488351232) ∨
  (x.k = 4 ∧ ∃ a n cp, v = .slice a n cp ∧ Sq w a n cp x.bs ∧ n ≤ 140737488351232 ∧ ∀ b off, a = some ⟨b, off, none⟩ → 0 < n → P b)

theorem sq_same {w w' : World} {a : Option Addr} {n cp : Nat} {zs : List Int} (h : Sq w a n cp zs) (hb : ∀ b off, a = some ⟨b, off, none⟩ → 0 < n → w'.heap[b]? = w.heap[b]?) : Sq w' a n cp zs :=
  ⟨h.length, h.lecap, h.nil, fun h0 => by
    obtain ⟨b, off, e, hc⟩ := h.cells h0
    exact ⟨b, off, e, fun j hj => (World.cell?_of_block (w := w) (hb b off e h0)).trans (hc j hj)⟩, h.wf⟩
theorem AtomV.same {w w' : World} {P P' : Nat → Prop} {v : Value} {x : Atom} (h : AtomV w P v x) (hb : ∀ b, P b → P' b ∧ w'.heap[b]? = w.heap[b]?) : AtomV w' P' v x := by
  rcases h with h | h | h | h | ⟨h1, a, n, cp, h2, h3, h4, h5⟩
  · exact .inl h
  · exact .inr (.inl h)
  · exact .inr (.inr (.inl h))
  · exact .inr (.inr (.inr (.inl h)))
  · exact .inr (.inr (.inr (.inr ⟨h1, a, n, cp, h2, sq_same h3 (fun b off e h0 => (hb b (h5 b off e h0)).2), h4, fun b off e h0 => (hb b (h5 b off e h0)).1⟩)))

/-- plain fields from a place on -/
def FlatAt (w : World) (P : Nat → Prop) (M o : Nat) (xs : List Atom) : Prop := ∀ j x, xs[j]? = some x → ∃ v, w.cell? ⟨M, o + j, none⟩ = some v ∧ AtomV w P v x
/-- room for so many fields from a place on -/
def Room (w : World) (M o n : Nat) : Prop := ∀ j, j < n → (∃ v, w.cell? ⟨M, o + j, none⟩ = some v) ∧ w.frozen? ⟨M, o + j, none⟩ = false

section
variable {S : World → Nat → Prop} {w w1 : World} {M lo hi o n : Nat} {xs ys : List Atom} {P P' : Nat → Prop}
theorem FlatAt.left (h : FlatAt w P M o (xs ++ ys)) : FlatAt w P M o xs := fun j x hx => h j x (by rw [List.getElem?_append_left (List.getElem?_eq_some_iff.1 hx).1]; exact hx)
theorem FlatAt.right (h : FlatAt w P M o (xs ++ ys)) : FlatAt w P M (o + xs.length) ys := fun j x hx => by
  have := h (xs.length + j) x (by rw [List.getElem?_append_right (by omega)]; rw [show xs.length + j - xs.length = j by omega]; exact hx)
  rw [Nat.add_assoc]
  exact this
theorem FlatAt.append (h : FlatAt w P M o xs) (g : FlatAt w P M (o + xs.length) ys) : FlatAt w P M o (xs ++ ys) := fun j x hx => by
  by_cases hj : j < xs.length
  · rw [List.getElem?_append_left hj] at hx
    exact h j x hx
  · rw [List.getElem?_append_right (by omega)] at hx
    have := g (j - xs.length) x hx
    rw [show o + xs.length + (j - xs.length) = o + j by omega] at this
    exact this
theorem FlatAt.nil : FlatAt w P M o [] := fun j x hx => by simp at hx
theorem FlatAt.same (h : FlatAt w P M o xs) (hc : ∀ j, j < xs.length → w1.cell? ⟨M, o + j, none⟩ = w.cell? ⟨M, o + j, none⟩) (hb : ∀ b, P b → P' b ∧ w1.heap[b]? = w.heap[b]?) : FlatAt w1 P' M o xs := fun j x hx => by
  obtain ⟨v, h1, h2⟩ := h j x hx
  exact ⟨v, (hc j (List.getElem?_eq_some_iff.1 hx).1).trans h1, h2.same hb⟩
theorem FlatAt.step (h : FlatAt w (Out S M w) M o xs) (g : Stp S M lo hi w w1) (hd : hi ≤ o ∨ o + xs.length ≤ lo) : FlatAt w1 (Out S M w1) M o xs :=
  h.same (fun j hj => g.cell (o + j) (by omega)) (fun b hb => g.out hb)
theorem FlatAt.stepB {B : Nat} (h : FlatAt w (OutB B S M w) M o xs) (g : Stp S M lo hi w w1) (hd : hi ≤ o ∨ o + xs.length ≤ lo) : FlatAt w1 (OutB B S M w1) M o xs :=
  h.same (fun j hj => g.cell (o + j) (by omega)) (fun b hb => g.outB hb)
theorem FlatAt.stepF {B : Nat} (h : FlatAt w (OutF B S M w) M o xs) (g : Stp S M lo hi w w1) (hd : hi ≤ o ∨ o + xs.length ≤ lo) : FlatAt w1 (OutF B S M w1) M o xs :=
  h.same (fun j hj => g.cell (o + j) (by omega)) (fun b hb => g.outF hb)
theorem Room.step (h : Room w M o n) (g : Stp S M lo hi w w1) (hd : hi ≤ o ∨ o + n ≤ lo) : Room w1 M o n := fun j hj => by
  obtain ⟨⟨v, h1⟩, h2⟩ := h j hj
  exact ⟨⟨v, (g.cell (o + j) (by omega)).trans h1⟩, (g.frozen (o + j)).trans h2⟩
theorem Room.left {m : Nat} (h : Room w M o n) (hm : m ≤ n) : Room w M o m := fun j hj => h j (by omega)
theorem Room.part {a m : Nat} (h : Room w M o n) (hm : a + m ≤ n) : Room w M (o + a) m := fun j hj => by
  rw [Nat.add_assoc]
  exact h (a + j) (by omega)
end
end Go.Proofs.Ytfdejkfbjmkngab
