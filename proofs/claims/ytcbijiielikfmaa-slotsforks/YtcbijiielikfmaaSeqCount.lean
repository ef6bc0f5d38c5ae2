/- Counting over a sequence, with an early end at a given number. No condition. -/
import Derived.Test.YtcbijiielikfmaaSeqGath
namespace Go.Proofs.Ytcbijiielikfmaa
open Go.ChangeShapes Go.WideShapes Go.ChangeAt Go.RowKit
set_option linter.unusedVariables false
/-- the box has counted to k; of the blocks of w1 none has turned but the box -/
structure Ct (w1 : World) (bx : Nat) (T : TypeId) (k : Nat) (W : World) : Prop where
  chg : Chg (fun b => b = bx) w1 W
  box : Boxed W bx T (.int .i64 k)
section
variable {w1 W W' : World} {bx T k : Nat}
theorem ct_stab (hb : bx < w1.heap.size) (p : Prop) : Stab (fun _ b => b = bx) w1.heap.size (fun W => p ∧ Ct w1 bx T k W) := by
  constructor
  · rintro W W' ⟨hp, hc, h1⟩ hs
    exact ⟨hp, ⟨hs.os.trans hc.os, hs.tape.trans hc.tape, hs.output.trans hc.output, Nat.le_trans hc.size hs.size, fun j hj hn => (hs.at hj (Nat.lt_of_lt_of_le hj hc.size)).trans (hc.block j hj hn)⟩, hs.same _ _ h1 (.inl hb)⟩
  · intro W W' _ _ b h
    exact h
theorem ct_add (hb : bx < w1.heap.size) (h : Ct w1 bx T k W) : KeepsFrom w1.heap.size W (W.setCell ⟨bx, 0, none⟩ (.int .i64 ((k : Int) + 1))) ∧ KeepU (fun _ b => b = bx) W (W.setCell ⟨bx, 0, none⟩ (.int .i64 ((k : Int) + 1))) ∧ Ct w1 bx T (k + 1) (W.setCell ⟨bx, 0, none⟩ (.int .i64 ((k : Int) + 1))) := by
  have sz : W.heap.size ≤ (W.setCell ⟨bx, 0, none⟩ (.int .i64 ((k : Int) + 1))).heap.size := by simp [World.setCell]
  refine ⟨⟨sz, fun j o hj hq _ => (Below.heap_setCell _ _ _ _ (show j ≠ bx by omega)).trans hq⟩, ⟨sz, fun b o hb hc hn => (Below.heap_setCell _ _ _ _ hn).trans hb, fun b h => .inl h⟩, ?_⟩
  exact ⟨h.chg.setCell (.inl rfl) _, h.box.set _⟩
end
def least (stop : Int) (n : Nat) : Int := if 1 ≤ stop ∧ stop < n then stop else n
def CI (w : World) (bx : Nat) (T : TypeId) (stop : Int) (k : Nat) (W : World) : Prop := (∀ j : Nat, 1 ≤ j → j ≤ k → (j : Int) ≠ stop) ∧ Ct w bx T k W
def CX (w : World) (bx : Nat) (T : TypeId) (stop : Int) (id : Nat) (c : Code) (k : Nat) (W : World) : Prop := (c = .exit id ∧ (k : Int) = stop) ∧ Ct w bx T k W
theorem CI.next {w : World} {bx T : Nat} {stop : Int} {k : Nat} {W W' : World} (h : CI w bx T stop k W) (hs : ((k : Int) + 1) ≠ stop) (hc : Ct w bx T (k + 1) W') : CI w bx T stop (k + 1) W' :=
  ⟨fun j h1 h2 => by rcases Nat.lt_or_ge j (k + 1) with h3 | h3
                     · exact h.1 j h1 (by omega)
                     · have : j = k + 1 := by omega
                       subst this
                       simpa using hs, hc⟩
theorem count_seq {P : Program} {g : Operand} {ps : Array Tmp} {assign body : Code} {Q : Exit → Act → World → Prop} {a : Act} {w : World} {gf : Nat} {lb : Array Value}
    (hg : a.eval g = .func (.func gf) #[] lb) (eg : ∀ args w, (callFunc gf args).run P w = .ok (.enter gf args) w)
    {xs : List (Array Value)} {K : Nat → Prop} (hseq : Tells P gf lb xs K w) (hK : ∀ k, K k → k < w.heap.size)
    (bx : Nat) (T : TypeId) (stop : Int) (id : Nat) (hb : Boxed w bx T (.int .i64 0)) (hn : ¬ K bx) (hq : ∀ a W, Q .normal a W → Q (.exit id) a W)
    (hround : ∀ (l k : Nat) (args : Array Value) (W : World), w.heap.size ≤ l → xs[k]? = some args → w.heap.size ≤ W.heap.size → CI w bx T stop k W → args.size = ps.size ∧
      assign.wpIn (Fence.wide.inRound l) 7 P (Exit.then (fun a1 W1 => W1 = W ∧ ∀ W2, CI w bx T stop k W2 → w.heap.size ≤ W2.heap.size →
        body.wpIn (Fence.wide.inRound l) 7 P (seqPost w.heap.size (fun _ b => b = bx) (CI w bx T stop) (CX w bx T stop id) (k + 1) W2) a1 W2) (fun _ _ _ => False))
        { tmps := (ps.zip args).foldl (fun t (p, v) => t.setIfInBounds p v) a.tmps, defers := [] } W)
    (hafter : ∀ (D : Nat) (W : World), w.heap.size ≤ D → Chg (fun b => b = bx) w W → Boxed W bx T (.int .i64 (least stop xs.length)) → W.heap[D]? = some (.deferred (some [])) → Q .normal { a with defers := { target := .collected D, args := #[] } :: a.defers } W) :
    (Code.rangeFunc g ps assign body).wp P Q a w := by
  refine range_seq hg eg hseq hK (CI w bx T stop) (CX w bx T stop id) (fun _ b => b = bx) (fun k => ct_stab hb.lt _) (fun c k => ct_stab hb.lt _) (fun b h => by rw [h]; exact ⟨hb.lt, hn⟩) ⟨fun j h1 h2 => by omega, Chg.refl _ _, hb⟩ hround ?_ ?_
  · rintro D W hD ⟨h1, hc⟩ hd nu
    refine hafter D W hD hc.chg ?_ hd
    have e : least stop xs.length = (xs.length : Int) := by
      unfold least
      split
      · rename_i h
        exact absurd (show ((stop.toNat : Nat) : Int) = stop by omega) (h1 stop.toNat (by omega) (by omega))
      · rfl
    rw [e]
    exact hc.box
  · rintro D c k W hD hk ⟨⟨rfl, e⟩, hc⟩ hd nu
    have e2 : least stop xs.length = ((k + 1 : Nat) : Int) := by
      unfold least
      split
      · exact e.symm
      · omega
    have := hq _ _ (hafter D W hD hc.chg (by rw [e2]; exact hc.box) hd)
    exact wp_exit this
end Go.Proofs.Ytcbijiielikfmaa
