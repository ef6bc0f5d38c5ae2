/- What the landed reader makes of a list of structs: the predicates that go with the walk of wire's list. No condition but the size. -/
import Derived.Test.YthklpkmdmkgjiaaGreatJI
import Derived.Test.YthklpkmdmkgjiaaGreatFWireLs
namespace Go.Proofs.YthklpkmdmkgjiaaGreat
open Go.ChangeShapes Go.WideShapes Go.ChangeAt Go.RowKit B8 Cm Wm
set_option linter.unusedVariables false

section
variable (B RR R : Nat) (a : Option Addr) (n cp : Nat) (bs : List Int) (s : St) (ks : List Nat)
/-- a nil list at the cell p of M, a reader in the state s -/
structure Rlp (w : World) (M p : Nat) : Prop where
  h : RS w B RR R a n cp bs s
  hc : w.cell? ⟨M, p, none⟩ = some (.slice none 0 0)
  hz : w.frozen? ⟨M, p, none⟩ = false
  hF : Far RR R a M
  hMB : M < B
  hd : 0 < ks.length
def Rl1 (w : World) (k : Nat) (u : World) : Prop := k ≤ 1024 ∧ RS u B RR R a n cp bs (countA bs 1024 s).s ∧ ((countA bs 1024 s).s.err = 0 → k = (countA bs 1024 s).v) ∧ Stq (Rown RR R) w u
def Rl2 (w : World) (k g i : Nat) (u : World) : Prop :=
  w.heap.size ≤ g ∧ g < u.heap.size ∧ Far RR R a g ∧ Room u g (i * ks.length) ((k - i) * ks.length) ∧ Stq (Rown RR R) w u ∧ ((countA bs 1024 s).s.err = 0 → k = (countA bs 1024 s).v) ∧
    RS u B RR R a n cp bs (timesA (flatA bs ks) i (countA bs 1024 s).s).s ∧
    ((timesA (flatA bs ks) i (countA bs 1024 s).s).s.err = 0 → ∀ j xs, (timesA (flatA bs ks) i (countA bs 1024 s).s).v[j]? = some xs → xs.length = ks.length ∧ FlatAt u (OutF B (Rown RR R) g u) g (j * ks.length) xs)
def Rl3 (w : World) (M p : Nat) (u : World) : Prop :=
  RS u B RR R a n cp bs (listA bs (flatA bs ks) s).s ∧ ((listA bs (flatA bs ks) s).s.err = 0 → ∃ ad k, u.cell? ⟨M, p, none⟩ = some (.slice ad k k) ∧ Ls u (OutB B (Rown RR R) M u) ad k k ks.length (listA bs (flatA bs ks) s).v) ∧ Stp (Rown RR R) M p (p + 1) w u
end
section
variable {B RR R : Nat} {a : Option Addr} {n cp : Nat} {bs : List Int} {s : St} {ks : List Nat} {w : World} {M p : Nat}
theorem Rlp.lt (h : Rlp B RR R a n cp bs s ks w M p) : M < w.heap.size := World.block_lt_of_cell? w _ h.hc
theorem rl_count (h : Rlp B RR R a n cp bs s ks w M p) : Calls Tryz.prog 121 #[.pointer (some ⟨RR, 0, none⟩), .int .i64 (0 : Nat)] w.drew fun e w' => ∃ k : Nat, k ≤ 1024 ∧ e = .returned (.int .i64 k) ∧ Rl1 B RR R a n cp bs s w k w' :=
  (rcount_any (w := w.drew) ((0 : Nat) : Int) (h.h.below (w1 := w.drew) ⟨rfl, rfl, rfl, Nat.le_refl _, fun _ _ => rfl⟩)).mono fun e w' ⟨k, h1, h2, h3, h4, g⟩ => ⟨k, h1, h2, h1, h3, h4, ⟨g.os, g.tape, g.output, g.size, g.block, g.own⟩⟩
theorem rl_copy (h : Rlp B RR R a n cp bs s ks w M p) (T : TypeId) (k : Nat) (u : World) (h1 : Rl1 B RR R a n cp bs s w k u) : u.cell? ⟨M, p, none⟩ = some (.slice none 0 0) ∧
      ∀ (zs : List Value) (w' : World), zs.length = k * ks.length → w'.heap[u.heap.size]? = some (.cells zs.toArray T (0, 0)) → Below u.heap.size u w' → Rl2 B RR R a n cp bs s ks w k u.heap.size 0 w' := by
  obtain ⟨hk, hr, he, hst⟩ := h1
  have hM := h.lt
  refine ⟨(World.cell?_of_block (w := w) (a := ⟨M, p, none⟩) (hst.block M hM (far_own h.hF w))).trans h.hc, fun zs w' hl hrow hb => ⟨hst.size, (Array.getElem?_eq_some_iff.1 hrow).1, ?_, ?_, hst.trans (rq_below RR R hb), he, hr.below hb, fun _ j xs hx => by simp [timesA] at hx⟩⟩
  · have hlt := hr.lt
    obtain ⟨s1, wide, hrr⟩ := hr
    exact ⟨by omega, by omega, fun b off e => by have := (hrr.ap b off e).2; omega⟩
  · intro j hj
    have hj2 : j < zs.length := by rw [hl]; simpa using hj
    refine ⟨⟨zs[j], ?_⟩, frozen_of_row w' _ _ _ _ hrow⟩
    rw [cell_of_row w' _ _ _ _ _ hrow]
    simp [hj2]
theorem rl_item (h : Rlp B RR R a n cp bs s ks w M p) {k g i : Nat} {u u' : World} {F : FuncId} {args : Array Value} (hi : i < k) (h2 : Rl2 B RR R a n cp bs s ks w k g i u)
    (C : ∀ s', RS u B RR R a n cp bs s' → Far RR R a g → g < u.heap.size → Room u g (i * ks.length) ks.length → Calls Tryz.prog F args u' (RP B RR R a n cp bs s' g (i * ks.length) u ks)) :
    Calls Tryz.prog F args u' fun e w' => e = .returned (.tuple #[]) ∧ Rl2 B RR R a n cp bs s ks w k g (i + 1) w' := by
  obtain ⟨hg1, hg2, hF, hroom, hst, he, hr, hf⟩ := h2
  have hmul : (k - i) * ks.length = ks.length + (k - (i + 1)) * ks.length := by
    rw [show k - i = (k - (i + 1)) + 1 by omega, Nat.add_mul, Nat.one_mul]; omega
  refine (C _ hr hF hg2 (hroom.left (by rw [hmul]; omega))).mono fun e w' ⟨h3, h4, h5, h6⟩ => ⟨h3, hg1, Nat.lt_of_lt_of_le hg2 h6.size, hF, ?_, h6.inner hst hg1, he, ?_, ?_⟩
  · have := hroom.part (a := ks.length) (m := (k - (i + 1)) * ks.length) (by rw [hmul]; exact Nat.le_refl _)
    rw [show (i + 1) * ks.length = i * ks.length + ks.length by rw [Nat.add_mul, Nat.one_mul]]
    exact this.step h6 (.inl (Nat.le_refl _))
  · rw [timesA_snoc]
    exact h4
  · rw [timesA_snoc]
    intro he2 j xs hx
    have he1 := err_back (fun s => flatA bs ks s) (fun s hs => flatA_stuck bs ks s hs) _ he2
    have hlen := timesA_length (flatA bs ks) i (countA bs 1024 s).s
    by_cases hj : j < i
    · rw [List.getElem?_append_left (by omega)] at hx
      obtain ⟨q1, q2⟩ := hf he1 j xs hx
      refine ⟨q1, q2.stepF h6 (.inr ?_)⟩
      rw [q1]
      have : (j + 1) * ks.length ≤ i * ks.length := Nat.mul_le_mul_right _ hj
      rw [Nat.add_mul, Nat.one_mul] at this
      exact this
    · rw [List.getElem?_append_right (by omega), hlen] at hx
      have hj0 : j = i := by
        have := (List.getElem?_eq_some_iff.1 hx).1
        simp at this
        omega
      subst hj0
      have ex : (flatA bs ks (timesA (flatA bs ks) j (countA bs 1024 s).s).s).v = xs := by simpa using hx
      subst ex
      exact ⟨flatA_length bs ks _, h5 he2⟩
theorem rl_store (h : Rlp B RR R a n cp bs s ks w M p) {k g : Nat} {u : World} (h2 : Rl2 B RR R a n cp bs s ks w k g k u) :
    (∃ v, u.cell? ⟨M, p, none⟩ = some v) ∧ u.frozen? ⟨M, p, none⟩ = false ∧ Rl3 B RR R a n cp bs s ks w M p (u.setCell ⟨M, p, none⟩ (.slice (some ⟨g, 0, none⟩) k k)) := by
  obtain ⟨hg1, hg2, hF, hroom, hst, he, hr, hf⟩ := h2
  have hM := h.lt
  have eM := hst.block M hM (far_own h.hF w)
  have cM : u.cell? ⟨M, p, none⟩ = some (.slice none 0 0) := (World.cell?_of_block (w := w) (a := ⟨M, p, none⟩) eM).trans h.hc
  have hMg : M ≠ g := by omega
  have es : (timesA (flatA bs ks) k (countA bs 1024 s).s).s = (listA bs (flatA bs ks) s).s ∧ ((listA bs (flatA bs ks) s).s.err = 0 → timesA (flatA bs ks) k (countA bs 1024 s).s = listA bs (flatA bs ks) s) := by
    unfold listA
    by_cases h0 : (countA bs 1024 s).s.err = 0
    · rw [he h0]; exact ⟨rfl, fun _ => rfl⟩
    · rw [timesA_stuck _ (fun s hs => flatA_stuck bs ks s hs) _ _ h0, timesA_stuck _ (fun s hs => flatA_stuck bs ks s hs) _ _ h0]
      exact ⟨rfl, fun h5 => absurd h5 h0⟩
  have lowB : B ≤ w.heap.size := by obtain ⟨s1, wide, hh⟩ := h.h; exact hh.low
  refine ⟨⟨_, cM⟩, (World.frozen?_of_block (w := w) (a := ⟨M, p, none⟩) eM).trans h.hz, ?_, fun h0 => ?_, ?_⟩
  · rw [← es.1]
    obtain ⟨s1, wide, hh⟩ := hr
    exact ⟨s1, wide, hh.store h.hF _⟩
  · rw [← es.2 h0]
    have h0' : (timesA (flatA bs ks) k (countA bs 1024 s).s).s.err = 0 := by rw [es.1]; exact h0
    have ob : ∀ b, b ≠ M → (u.setCell ⟨M, p, none⟩ (.slice (some ⟨g, 0, none⟩) k k)).heap[b]? = u.heap[b]? := fun b hb => Below.heap_setCell _ ⟨M, p, none⟩ _ _ hb
    have sz : (u.setCell ⟨M, p, none⟩ (.slice (some ⟨g, 0, none⟩) k k)).heap.size = u.heap.size := by simp [World.setCell]
    refine ⟨some ⟨g, 0, none⟩, k, World.cell?_setCell_same _ _ _ cM, timesA_length _ _ _, Nat.le_refl _, (fun e => by cases e), fun _ => ⟨g, 0, rfl, ⟨by omega, by rw [sz]; exact hg2, far_own hF _, fun e => hMg e.symm⟩, fun j xs hx => ?_⟩⟩
    obtain ⟨q1, q2⟩ := hf h0' j xs hx
    refine ⟨q1, ?_⟩
    rw [Nat.zero_add]
    refine q2.same (fun q _ => World.cell?_of_block (w := u) (a := ⟨g, j * ks.length + q, none⟩) (ob g (fun e => hMg e.symm))) (fun b hb => ?_)
    have hbM : b ≠ M := by have := hb.1; have := h.hMB; omega
    exact ⟨⟨hb.1, by rw [sz]; exact hb.2.1, hb.2.2.1, hbM⟩, ob b hbM⟩
  · have g2 := hst.to hM (far_own h.hF w) p (p + 1)
    refine ⟨g2.os, g2.tape, g2.output, by simpa [World.setCell] using g2.size, fun k hk hs hne => (Below.heap_setCell _ ⟨M, p, none⟩ _ _ hne).trans (g2.block k hk hs hne), fun o ho => ?_, fun o => (World.frozen?_setCell _ _ _ _).trans (g2.frozen o), fun k hk => g2.own k hk⟩
    have ne : (⟨M, p, none⟩ : Addr) ≠ ⟨M, o, none⟩ := fun e => by
      have : p = o := by injection e
      omega
    rw [World.cell?_setCell_other _ _ _ _ ne]
    exact g2.cell o ho
end
end Go.Proofs.YthklpkmdmkgjiaaGreat
