/- What stands while a fork is driven: the list of before, the iterator, the boxes. No condition. -/
import Derived.Test.YtjbonklgklldmaaNetList
import Derived.Test.YtjbonklgklldmaaNetRan
import Derived.Test.YtjbonklgklldmaaNetSameL
namespace Go.Proofs.Ytjbonklgklldmaa
open Go.ChangeShapes Go.WideShapes Go.ChangeAt Go.RowKit Go.Shelf B8 Nm
set_option linter.unusedVariables false

namespace NetForks
theorem mv_step {w w1 w2 : World} {F F1 : Lay} {k2 : Nat} {s2 : Ns} (hc : Chg F.M w w1) (eN : F1.N = F.N) (m1 : ∀ k, F1.M k → F.M k ∨ w.heap.size ≤ k) (r1 : ∀ k, F1.R k → F.R k ∨ w.heap.size ≤ k) {k3 : Nat} (hk3 : k2 ≤ k3) (h : Mv w1 F1 k2 s2 w2) : Mv w F k3 s2 w2 := by
  obtain ⟨hc2, L2, h2, e2, m2, r2⟩ := h
  refine ⟨hc.trans hc2 (fun k hk hm => by rcases m1 k hm with h | h; exact h; omega), L2, h2.mono hk3, e2.trans eN, fun k hk => ?_, fun k hk => ?_⟩
  · rcases m2 k hk with h | h
    · exact m1 k h
    · exact .inr (Nat.le_trans hc.size h)
  · rcases r2 k hk with h | h
    · exact r1 k h
    · exact .inr (Nat.le_trans hc.size h)
/-- the list of before with its bodies, the iterator, the boxes of both results -/
structure Keep (W : World) (N1 N2 rb Bb Bs m : Nat) (la : Option Addr) (lc : Nat) (l1 C : List Pv) (v : Value) : Prop where
  x : Boxed W rb 4 (.bool false)
  bb : Boxed W Bb 27 (.slice la m lc)
  bf : W.ownsRow N1 33 3 (.slice la m lc) m (pcells l1)
  own : ∀ p ∈ l1, Own1 W N1 p
  it : Kept W N2 Bs v m C
def KB (rb Bb Bs m : Nat) (la : Option Addr) (lc : Nat) (l1 C : List Pv) (v : Value) (k : Nat) : Prop :=
  k = rb ∨ k = Bb ∨ (Value.slice la m lc).ownBlock = some k ∨ (∃ p ∈ l1, ∃ ad, p.a = some ad ∧ ad.block = k) ∨ IterK Bs v C k
section
variable {W W' : World} {N1 N2 rb Bb Bs m lc : Nat} {la : Option Addr} {l1 C : List Pv} {v : Value}
theorem Keep.same (h : Keep W N1 N2 rb Bb Bs m la lc l1 C v) (hs : W.heap.size ≤ W'.heap.size) (hb : ∀ k, KB rb Bb Bs m la lc l1 C v k → W'.heap[k]? = W.heap[k]?) : Keep W' N1 N2 rb Bb Bs m la lc l1 C v := by
  refine ⟨(hb _ (.inl rfl)).trans h.x, (hb _ (.inr (.inl rfl))).trans h.bb, row_same h.bf (fun k hk => hb k (.inr (.inr (.inl hk)))), fun p hp => ?_, ⟨(hb _ (.inr (.inr (.inr (.inr (.inl rfl)))))).trans h.it.box, row_same h.it.row (fun k hk => hb k (.inr (.inr (.inr (.inr (.inr (.inl hk))))))), h.it.shape, fun p hp => (h.it.ins p hp).same hs (fun ad e => hb _ (.inr (.inr (.inr (.inr (.inr (.inr ⟨p, hp, ad, e, rfl⟩))))))), h.it.len, h.it.lo⟩⟩
  obtain ⟨g, e, e2, ho, hg⟩ := h.own p hp
  exact ⟨g, e, e2, ⟨(hb g (.inr (.inr (.inr (.inl ⟨p, hp, _, e, rfl⟩))))).trans ho.row, ho.len, ho.wf⟩, hg⟩
theorem Keep.lt (h : Keep W N1 N2 rb Bb Bs m la lc l1 C v) {k : Nat} (hk : KB rb Bb Bs m la lc l1 C v k) : k < W.heap.size := by
  rcases hk with rfl | rfl | hk | ⟨p, hp, ad, e, rfl⟩ | hk
  · exact h.x.lt
  · exact h.bb.lt
  · exact (h.bf.lt k hk).2
  · exact (h.own p hp).lt ad e
  · exact h.it.ltK hk
theorem Keep.below (h : Keep W N1 N2 rb Bb Bs m la lc l1 C v) (hb : Below W.heap.size W W') : Keep W' N1 N2 rb Bb Bs m la lc l1 C v := h.same hb.size (fun k hk => hb.block k (h.lt hk))
theorem Keep.far {M : Nat → Prop} (h : Keep W N1 N2 rb Bb Bs m la lc l1 C v) (hc : Chg M W W') (hd : ∀ k, KB rb Bb Bs m la lc l1 C v k → ¬ M k) : Keep W' N1 N2 rb Bb Bs m la lc l1 C v := h.same hc.size (fun k hk => hc.block k (h.lt hk) (hd k hk))
end
theorem own_lst {w : World} {N m c : Nat} {a : Option Addr} {l : List Pv} {s : Ns} (h : w.ownsRow N 33 3 (.slice a m c) m (pcells l)) (hm : l.map Pv.pk = s.ps) (ho : ∀ p ∈ l, Own1 w N p) (ok : Nm.Ok s) : Lst w a m l :=
  lst_of_row h (fun p hp => (ho p hp).ins.ok) (fun p hp => by
    have h1 := ok.body p.pk (by rw [← hm]; exact List.mem_map.2 ⟨p, hp, rfl⟩)
    have h2 := (ho p hp).ins.1.length
    have h3 : p.b.length ≤ 16384 := h1
    omega)
/-- the bodies that are written over -/
structure BodI (w12 wq : World) (l : List Pv) : Prop where
  chg : Chg (fun k => ∃ p ∈ l, ∃ ad, p.a = some ad ∧ ad.block = k) w12 wq
  bod : ∀ p ∈ l, ∃ g cs, p.a = some ⟨g, 0, none⟩ ∧ wq.heap[g]? = some (.cells cs 5 (0, 0)) ∧ cs.size = p.n ∧ g < w12.heap.size
theorem BodI.start {w : World} {N : Nat} {l : List Pv} (h : ∀ p ∈ l, Own1 w N p) : BodI w w l := ⟨Chg.refl _ _, fun p hp => by
  obtain ⟨g, e, _, ho, _⟩ := h p hp
  exact ⟨g, _, e, ho.row, by have := ho.len; simp [vals]; omega, (Array.getElem?_eq_some_iff.1 ho.row).1⟩⟩
theorem BodI.write {w12 wq : World} {l : List Pv} (h : BodI w12 wq l) {p : Pv} (hp : p ∈ l) {g : Nat} (e : p.a = some ⟨g, 0, none⟩) (j : Nat) (v : Value) : BodI w12 (wq.setCell ⟨g, j, none⟩ v) l := by
  obtain ⟨g1, cs1, e1, r1, n1, t1⟩ := h.bod p hp
  obtain rfl : g1 = g := by rw [e1] at e; simpa using e
  refine ⟨h.chg.setCell (p := ⟨g1, j, none⟩) (.inl ⟨p, hp, _, e1, rfl⟩) v, fun q hq => ?_⟩
  obtain ⟨g2, cs2, e2, r2, n2, t2⟩ := h.bod q hq
  by_cases hg : g2 = g1
  · subst hg
    rw [r1] at r2
    cases r2
    exact ⟨g2, _, e2, heap_setCell_same wq g2 j cs1 _ v r1, by simp [n2], t2⟩
  · exact ⟨g2, cs2, e2, (Below.heap_setCell _ _ _ _ hg).trans r2, n2, t2⟩
theorem BodI.row {w12 wq : World} {l : List Pv} (h : BodI w12 wq l) (h0 : BodI w12 w12 l) {N m c : Nat} {a : Option Addr} (hr : w12.ownsRow N 33 3 (.slice a m c) m (pcells l)) : wq.ownsRow N 33 3 (.slice a m c) m (pcells l) :=
  row_same hr (fun k hk => h.chg.block k (hr.lt k hk).2 (fun ⟨p, hp, ad, e, ek⟩ => by
    obtain ⟨cs, h2⟩ := own_cells hr hk
    obtain ⟨g, cs1, e1, r1, _⟩ := h0.bod p hp
    rw [e1] at e
    obtain rfl := Option.some.inj e
    have ek' : g = k := ek
    rw [ek', h2] at r1
    simp at r1))
theorem row_at {w : World} {N m c : Nat} {a : Option Addr} {l : List Pv} (h : w.ownsRow N 33 3 (.slice a m c) m (pcells l)) {k : Nat} {p : Pv} (hp : l[k]? = some p) (hk : k < m) :
    ∃ g, a = some ⟨g, 0, none⟩ ∧ w.cell? ⟨g, k * 3, none⟩ = some (.int .i64 p.f) ∧ w.cell? ⟨g, k * 3 + 1, none⟩ = some (.int .i64 p.t) ∧ w.cell? ⟨g, k * 3 + 2, none⟩ = some (.slice p.a p.n p.cp) := by
  obtain ⟨_, ⟨e1, e2⟩ | ⟨g, cp, cur, e1, _, e3, _⟩⟩ := id h
  · omega
  · obtain ⟨e4, e5⟩ : a = some ⟨g, 0, none⟩ ∧ c = cp := by simpa using e1
    rw [e4] at h
    have hc : ∀ j, j < 3 → w.cell? ⟨g, k * 3 + j, none⟩ = p.cells[j]? := fun j hj => by
      rw [h.cellAt (k * 3 + j) (by omega)]
      exact pcells_at _ _ _ hp j hj
    exact ⟨g, e4, (hc 0 (by omega)).trans rfl, (hc 1 (by omega)).trans rfl, (hc 2 (by omega)).trans rfl⟩
theorem row_len {w : World} {N m c : Nat} {a : Option Addr} {l : List Pv} (h : w.ownsRow N 33 3 (.slice a m c) m (pcells l)) : l.length = m := by
  have := h.1
  rw [pcells_length] at this
  omega
theorem body_cell {w : World} {g j : Nat} {cs : Array Value} (h : w.heap[g]? = some (.cells cs 5 (0, 0))) (hj : j < cs.size) : (∃ v, w.cell? ⟨g, j, none⟩ = some v) ∧ w.frozen? ⟨g, j, none⟩ = false := by
  refine ⟨⟨cs[j], ?_⟩, ?_⟩
  · rw [cell_of_row _ _ j _ _ _ h]
    simp [hj]
  · unfold World.frozen?
    rw [h]
    simp
/-- the invariant of the last loop: k packets have come -/
structure RI (w w14 : World) (N1 Kb rb Bb m : Nat) (la : Option Addr) (lc : Nat) (l1 : List Pv) (k : Nat) (W : World) : Prop where
  kb : Boxed W Kb 3 (.int .i64 k)
  x : Boxed W rb 4 (.bool false)
  bb : Boxed W Bb 27 (.slice la m lc)
  bf : W.ownsRow N1 33 3 (.slice la m lc) m (pcells l1)
  own : ∀ p ∈ l1, Own1 W N1 p
  below : Below w.heap.size w W
  big : w14.heap.size ≤ W.heap.size
section
variable {w w14 W W' : World} {N1 Kb rb Bb m lc k : Nat} {la : Option Addr} {l1 : List Pv}
theorem RI.soft (h : RI w w14 N1 Kb rb Bb m la lc l1 k W) (hs : Soft w14.heap.size W W') (hw : w.heap.size ≤ w14.heap.size) : RI w w14 N1 Kb rb Bb m la lc l1 k W' :=
  ⟨hs.same _ _ h.kb (.inr rfl), hs.same _ _ h.x (.inr rfl), hs.same _ _ h.bb (.inr rfl), row_soft (N := 0) h.bf (fun k cs t hk => hs.same _ _ hk (.inr rfl)), fun p hp => (h.own p hp).same (fun k cs hk => hs.same _ _ hk (.inr rfl)), h.below.trans ⟨hs.os, hs.tape, hs.output, hs.size, fun j hj => by
    have hj' : j < W.heap.size := Nat.lt_of_lt_of_le hj h.below.size
    rw [Array.getElem?_eq_getElem hj']
    exact hs.same j _ (Array.getElem?_eq_getElem hj') (.inl (by omega))⟩, Nat.le_trans h.big hs.size⟩
theorem RI.next {Bs : Nat} {C : List Pv} {v : Value} (h : RI w w14 N1 Kb rb Bb m la lc l1 k W) (hb : Below W.heap.size W W') (hK : ∀ j, KB rb Bb Bs m la lc l1 C v j → j < Kb) (hw : w.heap.size ≤ Kb) :
    KeepsFrom w14.heap.size W (W'.setCell ⟨Kb, 0, none⟩ (.int .i64 ((k : Int) + 1))) ∧ KeepK (IterK Bs v C) W (W'.setCell ⟨Kb, 0, none⟩ (.int .i64 ((k : Int) + 1))) ∧ RI w w14 N1 Kb rb Bb m la lc l1 (k + 1) (W'.setCell ⟨Kb, 0, none⟩ (.int .i64 ((k : Int) + 1))) := by
  have kk : Boxed W' Kb 3 (.int .i64 k) := (hb.block _ h.kb.lt).trans h.kb
  have sz : W'.heap.size = (W'.setCell ⟨Kb, 0, none⟩ (.int .i64 ((k : Int) + 1))).heap.size := by simp
  have oth : ∀ j, j ≠ Kb → j < W.heap.size → (W'.setCell ⟨Kb, 0, none⟩ (.int .i64 ((k : Int) + 1))).heap[j]? = W.heap[j]? := fun j hj hl => (Below.heap_setCell _ _ _ _ hj).trans (hb.block j hl)
  have hl : Kb < W.heap.size := h.kb.lt
  have kbl : ∀ j, KB rb Bb Bs m la lc l1 C v j → (W'.setCell ⟨Kb, 0, none⟩ (.int .i64 ((k : Int) + 1))).heap[j]? = W.heap[j]? := fun j hj => oth j (by have := hK j hj; omega) (by have := hK j hj; omega)
  refine ⟨⟨by rw [← sz]; exact hb.size, fun j o _ hj ho => ?_⟩, ⟨by rw [← sz]; exact hb.size, fun j hj => kbl j (.inr (.inr (.inr (.inr hj))))⟩, kk.set _, (kbl _ (.inl rfl)).trans h.x, (kbl _ (.inr (.inl rfl))).trans h.bb, row_same h.bf (fun j hj => kbl j (.inr (.inr (.inl hj)))), fun p hp => ?_, h.below.trans ((hb.mono h.below.size).setCell (p := ⟨Kb, 0, none⟩) hw _), by rw [← sz]; exact Nat.le_trans h.big hb.size⟩
  · have hne : j ≠ Kb := fun e => by
      rw [e, show W.heap[Kb]? = _ from h.kb] at hj
      cases hj
      cases ho
    exact (oth j hne (Array.getElem?_eq_some_iff.1 hj).1).trans hj
  · obtain ⟨g, e, e2, ho, hg⟩ := h.own p hp
    exact ⟨g, e, e2, ⟨(kbl g (.inr (.inr (.inr (.inl ⟨p, hp, _, e, rfl⟩))))).trans ho.row, ho.len, ho.wf⟩, hg⟩
end
theorem results_cell {P : Program} {fn : Func} {p : Tmp} {t : TypeId} (h : fn.results = #[.cell p t]) (tmps : Array Value) (w : World) (g : Nat) (v : Value)
    (hp : tmps.getD p undef = .pointer (some ⟨g, 0, none⟩)) (h1 : (loadVar t ⟨g, 0, none⟩).run P w = .ok v w) : (results fn tmps).run P w = .ok v w := by
  have hp' : tmps[p]?.getD undef = .pointer (some ⟨g, 0, none⟩) := by simpa using hp
  simp [results, h, hp', asAddr, h1]
theorem pk_at {l C : List Pv} (h : l.map Pv.pk = C.map Pv.pk) {k : Nat} {p : Pv} (hp : C[k]? = some p) : ∃ q, l[k]? = some q ∧ q.pk = p.pk ∧ q ∈ l := by
  have h1 : (l.map Pv.pk)[k]? = some p.pk := by rw [h, List.getElem?_map, hp]; rfl
  rw [List.getElem?_map] at h1
  obtain ⟨q, hq, e⟩ := Option.map_eq_some_iff.1 h1
  exact ⟨q, hq, e, List.mem_of_getElem? hq⟩
end NetForks
end Go.Proofs.Ytjbonklgklldmaa
