/- A list of packets in memory, and what the law folder's count answers of it. No condition but a size. -/
import Derived.Test.YtjbonklgklldmaaNetSame
namespace Go.Proofs.Ytjbonklgklldmaa
open Go.ChangeShapes Go.WideShapes Go.ChangeAt Go.RowKit B8 Nm
set_option linter.unusedVariables false

/-- the list of packets at a -/
structure Lst (w : World) (a : Option Addr) (m : Nat) (l : List Pv) : Prop where
  len : l.length = m
  cells : 0 < m → ∃ g, a = some ⟨g, 0, none⟩ ∧ g < w.heap.size ∧ ∀ k p, l[k]? = some p → w.cell? ⟨g, k * 3, none⟩ = some (.int .i64 p.f) ∧ w.cell? ⟨g, k * 3 + 1, none⟩ = some (.int .i64 p.t) ∧ w.cell? ⟨g, k * 3 + 2, none⟩ = some (.slice p.a p.n p.cp)
  ins : ∀ p ∈ l, p.Ok w
  short : ∀ p ∈ l, p.n ≤ 16384
theorem Lst.below {w w' : World} {a : Option Addr} {m : Nat} {l : List Pv} (h : Lst w a m l) (hb : Below w.heap.size w w') : Lst w' a m l :=
  ⟨h.len, fun h0 => by
    obtain ⟨g, e, hg, hc⟩ := h.cells h0
    have c : ∀ o, w'.cell? ⟨g, o, none⟩ = w.cell? ⟨g, o, none⟩ := fun o => World.cell?_of_block (a := ⟨g, o, none⟩) (hb.block g hg)
    exact ⟨g, e, Nat.lt_of_lt_of_le hg hb.size, fun k p hp => by rw [c, c, c]; exact hc k p hp⟩, fun p hp => (h.ins p hp).below hb, h.short⟩
theorem lst_of_row {w : World} {N m c : Nat} {a : Option Addr} {l : List Pv} (h : w.ownsRow N 33 3 (.slice a m c) m (pcells l)) (hi : ∀ p ∈ l, p.Ok w) (hs : ∀ p ∈ l, p.n ≤ 16384) : Lst w a m l := by
  have hl : l.length = m := by
    have := h.1
    rw [pcells_length] at this
    omega
  refine ⟨hl, fun h0 => ?_, hi, hs⟩
  obtain ⟨_, ⟨e1, e2⟩ | ⟨g, cp, cur, e1, _, e3, _⟩⟩ := id h
  · omega
  · obtain ⟨e4, e5⟩ : a = some ⟨g, 0, none⟩ ∧ c = cp := by simpa using e1
    rw [e4] at h
    refine ⟨g, e4, (Array.getElem?_eq_some_iff.1 e3).1, fun k p hp => ?_⟩
    have hk : k < l.length := (List.getElem?_eq_some_iff.1 hp).1
    have hc : ∀ j, j < 3 → w.cell? ⟨g, k * 3 + j, none⟩ = p.cells[j]? := fun j hj => by
      rw [h.cellAt (k * 3 + j) (by omega)]
      exact pcells_at _ _ _ hp j hj
    exact ⟨(hc 0 (by omega)).trans rfl, (hc 1 (by omega)).trans rfl, (hc 2 (by omega)).trans rfl⟩
/-- how often -/
def cntP (l : List Pv) (x : Pk) : Nat := l.countP fun q => decide (q.pk = x)
theorem cntP_snoc (l : List Pv) (q : Pv) (x : Pk) : cntP (l ++ [q]) x = cntP l x + if q.pk = x then 1 else 0 := by
  simp [cntP, List.countP_append]
theorem cntP_le (l : List Pv) (x : Pk) : cntP l x ≤ l.length := List.countP_le_length
end Go.Proofs.Ytjbonklgklldmaa
