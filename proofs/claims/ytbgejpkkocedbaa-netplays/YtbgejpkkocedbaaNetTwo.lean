/- The landed net and the document's beside it: what a call on either leaves of both. No condition. -/
import Derived.Test.YtbgejpkkocedbaaNetRefTake
import Derived.Test.YtbgejpkkocedbaaNetRefSend
import Derived.Test.YtbgejpkkocedbaaNetSame
import Derived.Test.YtbgejpkkocedbaaNetSameL
import Derived.Test.YtbgejpkkocedbaaNetRan
import Derived.Test.YtbgejpkkocedbaaOwn8
namespace Go.Proofs.Ytbgejpkkocedbaa
open Go.ChangeShapes Go.WideShapes Go.ChangeAt Go.RowKit B8 Nm
set_option linter.unusedVariables false

structure Two (w : World) (N : Nat) (L : Lay) (R : RLay) (kk : Nat) (s t : Ns) : Prop where
  n : Nt w L kk s
  r : Rt w R t
  dis : ∀ k, L.M k ∨ L.R k → ¬ (R.M k ∨ R.R k)
  lo : ∀ k, L.M k → N ≤ k
  lo2 : ∀ k, R.M k → N ≤ k
def TwoN (w : World) (N D E kk : Nat) (s t : Ns) : Prop := ∃ L R, Two w N L R kk s t ∧ L.N = D ∧ R.N = E
section
variable {w w' : World} {N kk : Nat} {L : Lay} {R : RLay} {s t : Ns}
theorem Two.lt (h : Two w N L R kk s t) : ∀ k, L.M k ∨ L.R k → k < w.heap.size := fun k hk => by
  rcases hk with hk | hk
  · exact h.n.lt k hk
  · exact h.n.ltR k hk
theorem Two.lt2 (h : Two w N L R kk s t) : ∀ k, R.M k ∨ R.R k → k < w.heap.size := fun k hk => by
  rcases hk with hk | hk
  · exact h.r.lt k hk
  · exact h.r.ltR k hk
theorem Two.below (h : Two w N L R kk s t) (hb : Below w.heap.size w w') : Two w' N L R kk s t := ⟨h.n.below hb, h.r.below hb, h.dis, h.lo, h.lo2⟩
theorem Two.mono {k2 : Nat} (h : Two w N L R kk s t) (e : kk ≤ k2) : Two w N L R k2 s t := ⟨h.n.mono e, h.r, h.dis, h.lo, h.lo2⟩
theorem Two.far {P : Nat → Prop} (h : Two w N L R kk s t) (hc : Chg P w w') (h1 : ∀ k, P k → ¬ (L.M k ∨ L.R k) ∧ ¬ (R.M k ∨ R.R k)) : Two w' N L R kk s t :=
  ⟨h.n.far hc (fun k hk hp => (h1 k hp).1 hk), h.r.far hc (fun k hk hp => (h1 k hp).2 hk), h.dis, h.lo, h.lo2⟩
/-- blocks of neither stay -/
theorem Two.net {k2 : Nat} {s' : Ns} (h : Two w N L R kk s t) (hN : N ≤ w.heap.size) (hm : Mv w L k2 s' w') : ∃ L', Two w' N L' R k2 s' t ∧ L'.N = L.N ∧ Below N w w' ∧ (∀ k, k < w.heap.size → ¬ L.M k → w'.heap[k]? = w.heap[k]?) ∧ ∀ k, L'.M k ∨ L'.R k → (L.M k ∨ L.R k) ∨ w.heap.size ≤ k := by
  obtain ⟨hc, L', h1, h2, h3, h4⟩ := hm
  have h5 : ∀ k, L'.M k ∨ L'.R k → (L.M k ∨ L.R k) ∨ w.heap.size ≤ k := fun k hk => by
    rcases hk with hk | hk
    · exact (h3 k hk).imp .inl id
    · exact (h4 k hk).imp .inr id
  refine ⟨L', ⟨h1, h.r.far hc (fun k hk hl => h.dis k (.inl hl) hk), fun k hk hr => ?_, fun k hk => ?_, h.lo2⟩, h2, hc.below hN (fun k hk => h.lo k hk), fun k hk hn => hc.block k hk hn, h5⟩
  · rcases h5 k hk with h6 | h6
    · exact h.dis k h6 hr
    · have := h.lt2 k hr; omega
  · rcases h3 k hk with h6 | h6
    · exact h.lo k h6
    · omega
theorem Two.ref {t' : Ns} (h : Two w N L R kk s t) (hN : N ≤ w.heap.size) (hm : RMv w R t' w') : ∃ R', Two w' N L R' kk s t' ∧ R'.N = R.N ∧ Below N w w' ∧ (∀ k, k < w.heap.size → ¬ R.M k → w'.heap[k]? = w.heap[k]?) ∧ ∀ k, R'.M k ∨ R'.R k → (R.M k ∨ R.R k) ∨ w.heap.size ≤ k := by
  obtain ⟨hc, R', h1, h2, h3, h4⟩ := hm
  have h5 : ∀ k, R'.M k ∨ R'.R k → (R.M k ∨ R.R k) ∨ w.heap.size ≤ k := fun k hk => by
    rcases hk with hk | hk
    · exact (h3 k hk).imp .inl id
    · exact (h4 k hk).imp .inr id
  refine ⟨R', ⟨h.n.far hc (fun k hk hl => h.dis k hk (.inl hl)), h1, fun k hk hr => ?_, h.lo, fun k hk => ?_⟩, h2, hc.below hN (fun k hk => h.lo2 k hk), fun k hk hn => hc.block k hk hn, h5⟩
  · rcases h5 k hr with h6 | h6
    · exact h.dis k hk h6
    · have := h.lt k hk; omega
  · rcases h3 k hk with h6 | h6
    · exact h.lo2 k h6
    · omega
end
/-- the box of a call's words -/
theorem box_op {w w2 : World} {kind x y : Int} {ka : Option Addr} {kl kc : Nat} (e : w2 = w.alloc (.cells #[.int .i64 kind, .int .i64 x, .int .i64 y, .slice ka kl kc] 33)) :
    w2.cell? ⟨w.heap.size, 0, none⟩ = some (.int .i64 kind) ∧ w2.cell? ⟨w.heap.size, 1, none⟩ = some (.int .i64 x) ∧ w2.cell? ⟨w.heap.size, 2, none⟩ = some (.int .i64 y) ∧ w2.cell? ⟨w.heap.size, 3, none⟩ = some (.slice ka kl kc) := by
  rw [e]; simp
end Go.Proofs.Ytbgejpkkocedbaa
