/- Two lists of packets beside a net: what a step of either leaves of the others. No condition. -/
import Derived.Test.YtbgejpkkocedbaaNetCount
import Derived.Test.YtbgejpkkocedbaaNetList
namespace Go.Proofs.Ytbgejpkkocedbaa
open Go.ChangeShapes Go.WideShapes Go.ChangeAt Go.RowKit B8 Nm
set_option linter.unusedVariables false

structure Hon (wr : World) (N0 : Nat) (L : Lay) (v1 v2 : Value) (m1 m2 : Nat) (l1 l2 : List Pv) : Prop where
  r1 : wr.ownsRow N0 39 3 v1 m1 (pcells l1)
  r2 : wr.ownsRow N0 39 3 v2 m2 (pcells l2)
  ins : ∀ p, p ∈ l1 ∨ p ∈ l2 → p.Ok wr ∧ p.n ≤ 16384
  d12 : ∀ k, v1.ownBlock = some k → v2.ownBlock ≠ some k
  dN : ∀ k, v1.ownBlock = some k ∨ v2.ownBlock = some k → ¬ L.M k ∧ ¬ L.R k
  dB : ∀ p, p ∈ l1 ∨ p ∈ l2 → 0 < p.n → ∀ ad, p.a = some ad → ¬ L.M ad.block ∧ v1.ownBlock ≠ some ad.block ∧ v2.ownBlock ≠ some ad.block
theorem Hon.swap {wr : World} {N0 m1 m2 : Nat} {L : Lay} {v1 v2 : Value} {l1 l2 : List Pv} (h : Hon wr N0 L v1 v2 m1 m2 l1 l2) : Hon wr N0 L v2 v1 m2 m1 l2 l1 :=
  ⟨h.r2, h.r1, fun p hp => h.ins p hp.symm, fun k h1 h2 => h.d12 k h2 h1, fun k hk => h.dN k hk.symm, fun p hp h0 ad e => ⟨(h.dB p hp.symm h0 ad e).1, (h.dB p hp.symm h0 ad e).2.2, (h.dB p hp.symm h0 ad e).2.1⟩⟩
/-- none of its blocks has turned -/
theorem Hon.same {wr w' : World} {N0 m1 m2 : Nat} {L L' : Lay} {v1 v2 : Value} {l1 l2 : List Pv} (h : Hon wr N0 L v1 v2 m1 m2 l1 l2) (hs : wr.heap.size ≤ w'.heap.size)
    (hb : ∀ k, k < wr.heap.size → ¬ L.M k → w'.heap[k]? = wr.heap[k]?) (hM : ∀ k, L'.M k → L.M k ∨ wr.heap.size ≤ k) (hR : ∀ k, L'.R k → L.R k ∨ wr.heap.size ≤ k) : Hon w' N0 L' v1 v2 m1 m2 l1 l2 := by
  refine ⟨row_same h.r1 (fun k hk => hb k (h.r1.lt k hk).2 (h.dN k (.inl hk)).1), row_same h.r2 (fun k hk => hb k (h.r2.lt k hk).2 (h.dN k (.inr hk)).1), fun p hp => ⟨(h.ins p hp).1.same hs (fun h0 ad e => hb _ ((h.ins p hp).1.2 h0 ad e) (h.dB p hp h0 ad e).1), (h.ins p hp).2⟩, h.d12, fun k hk => ?_, fun p hp h0 ad e => ⟨fun hm => ?_, (h.dB p hp h0 ad e).2⟩⟩
  · have hlt : k < wr.heap.size := by
      rcases hk with hk | hk
      · exact (h.r1.lt k hk).2
      · exact (h.r2.lt k hk).2
    refine ⟨fun hm => ?_, fun hr => ?_⟩
    · rcases hM k hm with h1 | h1
      · exact (h.dN k hk).1 h1
      · omega
    · rcases hR k hr with h1 | h1
      · exact (h.dN k hk).2 h1
      · omega
  · rcases hM _ hm with h1 | h1
    · exact (h.dB p hp h0 ad e).1 h1
    · have := (h.ins p hp).1.2 h0 ad e; omega
theorem Hon.net {wr w' : World} {N0 m1 m2 kk : Nat} {L : Lay} {s : Ns} {v1 v2 : Value} {l1 l2 : List Pv} (h : Hon wr N0 L v1 v2 m1 m2 l1 l2) (hm : Mv wr L kk s w') : ∃ L', Nt w' L' kk s ∧ L'.N = L.N ∧ (∀ k, L'.M k → L.M k ∨ wr.heap.size ≤ k) ∧ (∀ k, L'.R k → L.R k ∨ wr.heap.size ≤ k) ∧ Hon w' N0 L' v1 v2 m1 m2 l1 l2 := by
  obtain ⟨hc, L', h1, h2, h3, h4⟩ := hm
  exact ⟨L', h1, h2, h3, h4, h.same hc.size (fun k hk hn => hc.block k hk hn) h3 h4⟩
theorem Hon.below {wr w' : World} {N0 m1 m2 : Nat} {L : Lay} {v1 v2 : Value} {l1 l2 : List Pv} (h : Hon wr N0 L v1 v2 m1 m2 l1 l2) (hb : Below wr.heap.size wr w') : Hon w' N0 L v1 v2 m1 m2 l1 l2 :=
  h.same hb.size (fun k hk _ => hb.block k hk) (fun k hk => .inl hk) (fun k hk => .inl hk)
/-- one packet more in the first list -/
theorem Hon.push {wr w1 : World} {N0 m1 m2 kk : Nat} {L : Lay} {s : Ns} {v1 v2 v' : Value} {l1 l2 : List Pv} {q : Pv} {tmp : Obj} (h : Hon wr N0 L v1 v2 m1 m2 l1 l2) (hn : Nt wr L kk s)
    (hq : q.Ok wr) (hq2 : q.n ≤ 16384) (hqd : 0 < q.n → ∀ ad, q.a = some ad → ¬ L.M ad.block ∧ v1.ownBlock ≠ some ad.block ∧ v2.ownBlock ≠ some ad.block)
    (hown : w1.ownsRow N0 39 3 v' (m1 + 1) (pcells l1 ++ q.cells)) (hgrow : (wr.alloc tmp).grownBy w1 v1.ownBlock) (hloc : v'.ownBlock = v1.ownBlock ∨ v'.ownBlock = some (wr.alloc tmp).heap.size) :
    Hon w1 N0 L v' v2 (m1 + 1) m2 (l1 ++ [q]) l2 ∧ Nt w1 L kk s ∧ Chg (fun k => v1.ownBlock = some k) wr w1 := by
  have hch : Chg (fun k => v1.ownBlock = some k) wr w1 := ((Chg.refl _ wr).alloc tmp).grown hgrow (fun j hj => .inl hj)
  have loc : ∀ k, v'.ownBlock = some k → v1.ownBlock = some k ∨ wr.heap.size ≤ k := fun k hk => by
    rcases hloc with h1 | h1
    · exact .inl (h1 ▸ hk)
    · rw [h1] at hk
      have := Option.some.inj hk
      simp at this
      exact .inr (by omega)
  have hN : Nt w1 L kk s := hn.far hch (fun k hk h1 => by
    rcases hk with hk | hk
    · exact (h.dN k (.inl h1)).1 hk
    · exact (h.dN k (.inl h1)).2 hk)
  have pin : ∀ p : Pv, p.Ok wr → (0 < p.n → ∀ ad, p.a = some ad → v1.ownBlock ≠ some ad.block) → p.Ok w1 := fun p hp hd => hp.same hch.size (fun h0 ad e => hch.block _ (hp.2 h0 ad e) (hd h0 ad e))
  refine ⟨⟨?_, row_same h.r2 (fun k hk => hch.block k (h.r2.lt k hk).2 (fun e => h.d12 k e hk)), fun p hp => ?_, fun k hk h2 => ?_, fun k hk => ?_, fun p hp h0 ad e => ?_⟩, hN, hch⟩
  · rw [pcells_append, show pcells [q] = q.cells by simp [pcells]]
    exact hown
  · rcases hp with hp | hp
    · rcases List.mem_append.1 hp with hp | hp
      · exact ⟨pin p (h.ins p (.inl hp)).1 (fun h0 ad e => (h.dB p (.inl hp) h0 ad e).2.1), (h.ins p (.inl hp)).2⟩
      · rw [List.mem_singleton.1 hp]
        exact ⟨pin q hq (fun h0 ad e => (hqd h0 ad e).2.1), hq2⟩
    · exact ⟨pin p (h.ins p (.inr hp)).1 (fun h0 ad e => (h.dB p (.inr hp) h0 ad e).2.1), (h.ins p (.inr hp)).2⟩
  · rcases loc k hk with h1 | h1
    · exact h.d12 k h1 h2
    · have := (h.r2.lt k h2).2; omega
  · rcases hk with hk | hk
    · rcases loc k hk with h1 | h1
      · exact h.dN k (.inl h1)
      · exact ⟨fun hm => by have := hn.lt k hm; omega, fun hr => by have := hn.ltR k hr; omega⟩
    · exact h.dN k (.inr hk)
  · have key : ∀ r : Pv, r.Ok wr → (0 < r.n → ∀ ad, r.a = some ad → ¬ L.M ad.block ∧ v1.ownBlock ≠ some ad.block ∧ v2.ownBlock ≠ some ad.block) → 0 < r.n → ∀ ad, r.a = some ad → ¬ L.M ad.block ∧ v'.ownBlock ≠ some ad.block ∧ v2.ownBlock ≠ some ad.block := fun r hr hd h0 ad e => by
      refine ⟨(hd h0 ad e).1, fun e2 => ?_, (hd h0 ad e).2.2⟩
      rcases loc _ e2 with h1 | h1
      · exact (hd h0 ad e).2.1 h1
      · have := hr.2 h0 ad e; omega
    rcases hp with hp | hp
    · rcases List.mem_append.1 hp with hp | hp
      · exact key p (h.ins p (.inl hp)).1 (h.dB p (.inl hp)) h0 ad e
      · rw [List.mem_singleton.1 hp] at e h0
        exact key q hq hqd h0 ad e
    · exact key p (h.ins p (.inr hp)).1 (h.dB p (.inr hp)) h0 ad e

/-- how often a packet is under way -/
def cntK (l : List Pk) (x : Pk) : Nat := l.countP fun q => decide (q = x)
theorem cntK_snoc (l : List Pk) (q x : Pk) : cntK (l ++ [q]) x = cntK l x + if q = x then 1 else 0 := by simp [cntK, List.countP_append]
theorem cntK_erase : ∀ (l : List Pk) (i : Nat) (x : Pk), i < l.length → cntK l x = cntK (l.eraseIdx i) x + if l.getD i zPk = x then 1 else 0
  | [], i, x, h => by simp at h
  | y :: r, 0, x, _ => by simp [cntK, List.countP_cons]
  | y :: r, i + 1, x, h => by
    have h1 := cntK_erase r i x (by simpa using h)
    simp only [cntK, List.eraseIdx_cons_succ, List.countP_cons, List.getD_cons_succ] at h1 ⊢
    omega
/-- no packet has come more often than it was sent -/
def Fair (l1 l2 : List Pv) (ps : List Pk) : Prop := ∀ x, cntP l2 x + cntK ps x ≤ cntP l1 x
end Go.Proofs.Ytbgejpkkocedbaa
