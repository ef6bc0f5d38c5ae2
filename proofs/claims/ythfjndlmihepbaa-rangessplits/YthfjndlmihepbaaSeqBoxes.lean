/- Boxes that a range over a function writes; results that lie in boxes. No condition. -/
import Derived.Test.YthfjndlmihepbaaSeqGath
import Derived.Test.YthfjndlmihepbaaSeqAlloc
namespace Go.Proofs.Ythfjndlmihepbaa
open Go.ChangeShapes Go.WideShapes Go.ChangeAt Go.RowKit
set_option linter.unusedVariables false

/-- the blocks that a range writes -/
def InL (L : List Nat) (_ : World) (b : Nat) : Prop := b ∈ L
/-- of the blocks of w1 none has turned but those of L; boxes with what they hold -/
structure St (w1 : World) (L : List Nat) (bxs : List (Nat × TypeId × Value)) (W : World) : Prop where
  chg : Chg (fun b => b ∈ L) w1 W
  box : ∀ p ∈ bxs, Boxed W p.1 p.2.1 p.2.2
section
variable {w1 W W' : World} {L : List Nat} {bxs : List (Nat × TypeId × Value)}
theorem st_stab (hb : ∀ p ∈ bxs, p.1 < w1.heap.size) (p : Prop) : Stab (InL L) w1.heap.size (fun W => p ∧ St w1 L bxs W) := by
  constructor
  · rintro W W' ⟨hp, hc, h1⟩ hs
    exact ⟨hp, ⟨hs.os.trans hc.os, hs.tape.trans hc.tape, hs.output.trans hc.output, Nat.le_trans hc.size hs.size, fun j hj hn => (hs.at hj (Nat.lt_of_lt_of_le hj hc.size)).trans (hc.block j hj hn)⟩, fun p hp => hs.same _ _ (h1 p hp) (.inl (hb p hp))⟩
  · intro W W' _ _ b h
    exact h
theorem keeps_of_chg {B : Nat} (hL : ∀ b ∈ L, b < B) (h : Chg (fun b => b ∈ L) W W') : KeepsFrom B W W' ∧ KeepU (InL L) W W' :=
  ⟨⟨h.size, fun j o hj hq _ => (h.block j (Array.getElem?_eq_some_iff.1 hq).1 (fun e => by have := hL j e; omega)).trans hq⟩, ⟨h.size, fun b o hb _ hn => (h.block b (Array.getElem?_eq_some_iff.1 hb).1 hn).trans hb, fun b h => .inl h⟩⟩
theorem St.next {bxs' : List (Nat × TypeId × Value)} (h : St w1 L bxs W) (hc : Chg (fun b => b ∈ L) W W') (hb : ∀ p ∈ bxs', Boxed W' p.1 p.2.1 p.2.2) : St w1 L bxs' W' := ⟨h.chg.trans hc (fun _ _ e => e), hb⟩
theorem St.below {w : World} (h : St w1 L bxs W) (hw : Below w.heap.size w w1) (hL : ∀ b ∈ L, w.heap.size ≤ b) : Below w.heap.size w W :=
  hw.trans (h.chg.below hw.size hL)
end
theorem box_far {W : World} {b b' : Nat} {t : TypeId} {v u : Value} (h : Boxed W b t v) (hn : b ≠ b') : Boxed (W.setCell ⟨b', 0, none⟩ u) b t v := (Below.heap_setCell _ _ _ _ hn).trans h
theorem box_new (w : World) (t : TypeId) (v : Value) : Boxed (w.alloc (.cells #[v] t)) w.heap.size t v := Boxed.new w _ _
theorem boxes2 (w : World) (t1 t2 : TypeId) (v1 v2 : Value) : ∃ w0, w0 = (w.alloc (.cells #[v1] t1)).alloc (.cells #[v2] t2) ∧ Below w.heap.size w w0 ∧ w0.heap.size = w.heap.size + 2 ∧ Boxed w0 w.heap.size t1 v1 ∧ Boxed w0 (w.heap.size + 1) t2 v2 := by
  refine ⟨_, rfl, below_alloc (below_alloc (Below.refl _ _) _) _, by simp, (box_new w _ _).alloc _, ?_⟩
  have := box_new (w.alloc (.cells #[v1] t1)) t2 v2
  rwa [World.size_alloc] at this
theorem boxes3 (w : World) (t1 t2 t3 : TypeId) (v1 v2 v3 : Value) : ∃ w0, w0 = ((w.alloc (.cells #[v1] t1)).alloc (.cells #[v2] t2)).alloc (.cells #[v3] t3) ∧ Below w.heap.size w w0 ∧ w0.heap.size = w.heap.size + 3 ∧ Boxed w0 w.heap.size t1 v1 ∧ Boxed w0 (w.heap.size + 1) t2 v2 ∧ Boxed w0 (w.heap.size + 1 + 1) t3 v3 := by
  obtain ⟨w0, e, b, s, x1, x2⟩ := boxes2 w t1 t2 v1 v2
  rw [← e]
  refine ⟨_, rfl, below_alloc b _, by simp [s], x1.alloc _, x2.alloc _, ?_⟩
  have := box_new w0 t3 v3
  rwa [s] at this
theorem boxes4 (w : World) (t1 t2 t3 t4 : TypeId) (v1 v2 v3 v4 : Value) : ∃ w0, w0 = (((w.alloc (.cells #[v1] t1)).alloc (.cells #[v2] t2)).alloc (.cells #[v3] t3)).alloc (.cells #[v4] t4) ∧ Below w.heap.size w w0 ∧ w0.heap.size = w.heap.size + 4 ∧ Boxed w0 w.heap.size t1 v1 ∧ Boxed w0 (w.heap.size + 1) t2 v2 ∧ Boxed w0 (w.heap.size + 1 + 1) t3 v3 ∧ Boxed w0 (w.heap.size + 1 + 1 + 1) t4 v4 := by
  obtain ⟨w0, e, b, s, x1, x2, x3⟩ := boxes3 w t1 t2 t3 v1 v2 v3
  rw [← e]
  refine ⟨_, rfl, below_alloc b _, by simp [s], x1.alloc _, x2.alloc _, x3.alloc _, ?_⟩
  have := box_new w0 t4 v4
  rwa [s] at this
theorem results_c2 {P : Program} {fn : Func} {p q : Tmp} {t u : TypeId} (h : fn.results = #[.cell p t, .cell q u]) (tmps : Array Value) (w : World) (a b : Nat) (v1 v2 : Value)
    (hp : tmps.getD p undef = .pointer (some ⟨a, 0, none⟩)) (hq : tmps.getD q undef = .pointer (some ⟨b, 0, none⟩))
    (h1 : (loadVar t ⟨a, 0, none⟩).run P w = .ok v1 w) (h2 : (loadVar u ⟨b, 0, none⟩).run P w = .ok v2 w) :
    (results fn tmps).run P w = .ok (.tuple #[v1, v2]) w := by
  have hp' : tmps[p]?.getD undef = .pointer (some ⟨a, 0, none⟩) := by simpa using hp
  have hq' : tmps[q]?.getD undef = .pointer (some ⟨b, 0, none⟩) := by simpa using hq
  simp [results, h, hp', hq', asAddr, h1, h2]
theorem results_c1 {P : Program} {fn : Func} {p : Tmp} {t : TypeId} (h : fn.results = #[.cell p t]) (tmps : Array Value) (w : World) (a : Nat) (v1 : Value)
    (hp : tmps.getD p undef = .pointer (some ⟨a, 0, none⟩)) (h1 : (loadVar t ⟨a, 0, none⟩).run P w = .ok v1 w) :
    (results fn tmps).run P w = .ok v1 w := by
  have hp' : tmps[p]?.getD undef = .pointer (some ⟨a, 0, none⟩) := by simpa using hp
  simp [results, h, hp', asAddr, h1]
theorem results_c3 {P : Program} {fn : Func} {p q r : Tmp} {t u x : TypeId} (h : fn.results = #[.cell p t, .cell q u, .cell r x]) (tmps : Array Value) (w : World) (a b c : Nat) (v1 v2 v3 : Value)
    (hp : tmps.getD p undef = .pointer (some ⟨a, 0, none⟩)) (hq : tmps.getD q undef = .pointer (some ⟨b, 0, none⟩)) (hr : tmps.getD r undef = .pointer (some ⟨c, 0, none⟩))
    (h1 : (loadVar t ⟨a, 0, none⟩).run P w = .ok v1 w) (h2 : (loadVar u ⟨b, 0, none⟩).run P w = .ok v2 w) (h3 : (loadVar x ⟨c, 0, none⟩).run P w = .ok v3 w) :
    (results fn tmps).run P w = .ok (.tuple #[v1, v2, v3]) w := by
  have hp' : tmps[p]?.getD undef = .pointer (some ⟨a, 0, none⟩) := by simpa using hp
  have hq' : tmps[q]?.getD undef = .pointer (some ⟨b, 0, none⟩) := by simpa using hq
  have hr' : tmps[r]?.getD undef = .pointer (some ⟨c, 0, none⟩) := by simpa using hr
  simp [results, h, hp', hq', hr', asAddr, h1, h2, h3]
end Go.Proofs.Ythfjndlmihepbaa
