/- The document's greatest; an entry and a ballot that the document's functions keep while they look for the best vote. No condition. -/
import Derived.Test.YtjhkenmlaammnaaChoFor
import Derived.Test.YtjhkenmlaammnaaChoEntry
import Derived.Test.YtjhkenmlaammnaaChoOpen
namespace Go.Proofs.Ytjhkenmlaammnaa
open Go.ChangeShapes Go.WideShapes Go.ChangeAt Go.RowKit Go.Shelf B8 Am Cz
set_option linter.unusedVariables false

set_option maxRecDepth 100000 in
set_option maxHeartbeats 1000000 in
theorem rgreatest_any {w : World} {a : Option Addr} {m c : Nat} {l : List Pp} (h : Ps w a m l) :
    Calls Try.prog 33 #[.slice a m c] w fun e w' => e = .returned (.int .i64 (topV (l.map Pp.pr))) ∧ w' = w := by
  have H := hide h
  have rm := h.room
  clear h
  go_enter Try.func33, Try.ntmps33
  go_wp2_with fail
  go_loopw [3, 4, 5] (fun t iv _ wr => ∃ (k : Nat), k ≤ m ∧ iv = .int .i64 k ∧ t = .int .i64 (topV ((l.take k).map Pp.pr)) ∧ Hid (wr = w)) (fun _ iv _ _ => m - (intOf iv).toNat)
  case atStart => exact ⟨0, Nat.zero_le _, rfl, by simp [topV], rfl⟩
  case round =>
    obtain ⟨k, hk, rfl, rfl, HW⟩ := hrel
    obtain rfl := HW.out
    clear HW
    by_cases hlt : k < m
    · obtain ⟨b, off, p, rfl, hb, hp, hpl, c0, c1⟩ := H.out.at hlt
      have TS : Hid (topV ((l.take (k + 1)).map Pp.pr) = (p.l.map Vv.vt).foldl (fun t v => max t v.s) (topV ((l.take k).map Pp.pr))) := by show _ = _; rw [take_snoc hp]; exact top_snoc _ _
      generalize topV ((l.take k).map Pp.pr) = t0 at *
      have VP := hide (H.out.each p hpl).1
      have rv := VP.out.room
      have i1 : (k : Int) < (m : Int) := by omega
      have i2 : (0 : Int) ≤ (k : Int) := by omega
      clear hp hpl hb
      go_wp2_with fail
      go_loopw [3, 5] (fun t iv wr' => ∃ (j : Nat), j ≤ p.m ∧ iv = .int .i64 j ∧ t = .int .i64 (((p.l.take j).map Vv.vt).foldl (fun t v => max t v.s) t0) ∧ Hid (wr' = wr)) (fun _ iv _ => p.m - (intOf iv).toNat)
      case atStart => exact ⟨0, Nat.zero_le _, rfl, by simp, rfl⟩
      case round =>
        obtain ⟨j, hj, rfl, rfl, HW⟩ := hrel
        obtain rfl := HW.out
        clear HW
        by_cases hlj : j < p.m
        · obtain ⟨b', off', q, e', hb', hq, hql, d0, d1, d2, d3⟩ := VP.out.at hlj
          have TJ : Hid (((p.l.take (j + 1)).map Vv.vt).foldl (fun t v => max t v.s) t0 = max (((p.l.take j).map Vv.vt).foldl (fun t v => max t v.s) t0) q.s) := by
            show _ = _
            rw [take_snoc hq, List.map_append, List.foldl_append]
            rfl
          generalize ((p.l.take j).map Vv.vt).foldl (fun t v => max t v.s) t0 = t1 at *
          have j1 : (j : Int) < (p.m : Int) := by omega
          have j2 : (0 : Int) ≤ (j : Int) := by omega
          rw [e'] at c1
          clear hb' hq hql e'
          by_cases hm : t1 < q.s
          · go_wp2_with fail
            all_goals
              go_roundw
              case rel => exact ⟨j + 1, by omega, by go_num, by first | (rw [TJ.out]; done) | (rw [TJ.out]; rfl) | (rw [TJ.out]; congr 1; omega), trivial⟩
              case measure => simp [intOf]; omega
          · go_wp2_with fail
            all_goals
              go_roundw
              case rel => exact ⟨j + 1, by omega, by go_num, by first | (rw [TJ.out]; done) | (rw [TJ.out]; rfl) | (rw [TJ.out]; congr 1; omega), trivial⟩
              case measure => simp [intOf]; omega
        · obtain rfl : j = p.m := by omega
          rw [List.take_of_length_le (by rw [VP.out.len]; exact Nat.le_refl _)]
          go_wp2_with fail
          go_roundw
          case rel => exact ⟨k + 1, by omega, by go_num, by rw [TS.out], trivial⟩
          case measure => simp [intOf]; omega
    · obtain rfl : k = m := by omega
      rw [List.take_of_length_le (by rw [H.out.len]; exact Nat.le_refl _)]
      go_wp2_with fail
      go_ret
      exact ⟨rfl, rfl⟩
/-- the i-th cast's cells, in a row of its own -/
theorem crow_at {w : World} {B : Nat} {a : Option Addr} {m c : Nat} {l : List Ca} (row : w.ownsRow B 47 5 (.slice a m c) m (ccells l)) (len : l.length = m) {i : Nat} (hi : i < m) :
    ∃ b p, a = some ⟨b, 0, none⟩ ∧ l[i]? = some p ∧ B ≤ b ∧ b < w.heap.size ∧ w.cell? ⟨b, i * 5 + 1, none⟩ = some (.int .i64 p.v.s) ∧ w.cell? ⟨b, i * 5 + 2, none⟩ = some (.int .i64 p.v.r) ∧ w.cell? ⟨b, i * 5 + 3, none⟩ = some (.int .i64 p.v.n) ∧ w.cell? ⟨b, i * 5 + 4, none⟩ = some (.slice p.v.a p.v.m p.v.cp) := by
  have hl : i < l.length := by rw [len]; exact hi
  have hp : l[i]? = some l[i] := List.getElem?_eq_getElem hl
  obtain ⟨_, ⟨e, e2⟩ | ⟨g, cp, cur, e, hB, hg, _⟩⟩ := id row
  · omega
  · obtain ⟨e1, e3⟩ : a = some ⟨g, 0, none⟩ ∧ c = cp := by simpa using e
    rw [e1] at row
    have hc : ∀ j, j < 5 → w.cell? ⟨g, i * 5 + j, none⟩ = l[i].cells[j]? := fun j hj => by
      rw [row.cellAt (i * 5 + j) (by omega)]
      exact ccells_at _ _ _ hp j hj
    exact ⟨g, l[i], e1, hp, hB, (Array.getElem?_eq_some_iff.1 hg).1, (hc 1 (by omega)).trans rfl, (hc 2 (by omega)).trans rfl, (hc 3 (by omega)).trans rfl, (hc 4 (by omega)).trans rfl⟩
theorem forP_mem {l : List Pp} {s : Int} {v : Vv} (h : v ∈ forP l s) : v.s = s ∧ ∃ p ∈ l, v ∈ p.l := by
  unfold forP forK at h
  obtain ⟨h1, h2⟩ := List.mem_filter.1 h
  obtain ⟨k, _, h3⟩ := List.mem_flatMap.1 h1
  obtain ⟨p, hp, hv⟩ := List.mem_flatMap.1 h3
  exact ⟨by simpa using h2, p, (List.mem_filter.1 hp).1, hv⟩
/-- an entry at E and a ballot at T: the best vote so far -/
structure Rb (wr : World) (B E T : Nat) (s : Int) (cur : Option Vv) (ev : Ev) : Prop where
  erow : wr.heap[E]? = some (.cells #[.int .i64 s, .slice ev.a ev.m ev.cp] 39 (0, 0))
  brow : wr.heap[T]? = some (.cells #[.int .i64 (cur.getD dvv).r, .int .i64 (cur.getD dvv).n] 43 (0, 0))
  own : Own wr B ev
  es : ev.s = s
  eb : ev.b = (cur.getD dvv).b
section
variable {wr w' : World} {B E T : Nat} {s : Int} {cur : Option Vv} {ev : Ev}
theorem Rb.lts (h : Rb wr B E T s cur ev) : E < wr.heap.size ∧ T < wr.heap.size ∧ E ≠ T := ⟨(Array.getElem?_eq_some_iff.1 h.erow).1, (Array.getElem?_eq_some_iff.1 h.brow).1, fun e => by
  have h1 := h.erow
  rw [e, h.brow] at h1
  simp at h1⟩
theorem Rb.below (h : Rb wr B E T s cur ev) (hb : Below wr.heap.size wr w') : Rb w' B E T s cur ev :=
  ⟨(hb.block _ h.lts.1).trans h.erow, (hb.block _ h.lts.2.1).trans h.brow, h.own.below hb, h.es, h.eb⟩
theorem Rb.facts (h : Rb wr B E T s cur ev) : wr.cell? ⟨E, 0, none⟩ = some (.int .i64 s) ∧ wr.cell? ⟨E, 1, none⟩ = some (.slice ev.a ev.m ev.cp) ∧ wr.cell? ⟨T, 0, none⟩ = some (.int .i64 (cur.getD dvv).r) ∧ wr.cell? ⟨T, 1, none⟩ = some (.int .i64 (cur.getD dvv).n) ∧ (∀ o, wr.frozen? ⟨E, o, none⟩ = false) ∧ (∀ o, wr.frozen? ⟨T, o, none⟩ = false) := by
  refine ⟨?_, ?_, ?_, ?_, fun o => frozen_of_row _ _ _ _ _ h.erow, fun o => frozen_of_row _ _ _ _ _ h.brow⟩
  · rw [cell_of_row _ _ _ _ _ _ h.erow]; rfl
  · rw [cell_of_row _ _ _ _ _ _ h.erow]; rfl
  · rw [cell_of_row _ _ _ _ _ _ h.brow]; rfl
  · rw [cell_of_row _ _ _ _ _ _ h.brow]; rfl
/-- a better vote is taken: its ballot stored, its value copied -/
theorem Rb.take (h : Rb wr B E T s cur ev) {v : Vv} (hm : v.m ≤ 140737488351232) (hB : B ≤ wr.heap.size) {w2 : World} {a2 : Option Addr} {c2 : Nat} (hv : wfs v.b ∧ v.b.length = v.m)
    (ho : w2.ownsRow wr.heap.size 5 1 (.slice a2 v.m c2) v.m (B8.vals v.b)) (hb : Below wr.heap.size ((wr.setCell ⟨T, 0, none⟩ (.int .i64 v.r)).setCell ⟨T, 1, none⟩ (.int .i64 v.n)) w2) :
    Rb (w2.setCell ⟨E, 1, none⟩ (.slice a2 v.m c2)) B E T s (some v) ⟨s, a2, v.m, c2, v.b⟩ ∧ (∀ k, k < wr.heap.size → k ≠ E → k ≠ T → (w2.setCell ⟨E, 1, none⟩ (.slice a2 v.m c2)).heap[k]? = wr.heap[k]?) ∧ wr.heap.size ≤ w2.heap.size ∧ w2.os = wr.os ∧ w2.tape = wr.tape ∧ w2.output = wr.output := by
  obtain ⟨hE, hT, hne⟩ := h.lts
  have e2 : w2.heap[E]? = some (.cells #[.int .i64 s, .slice ev.a ev.m ev.cp] 39 (0, 0)) := (hb.block E hE).trans (set_row (set_row h.erow (fun e => hne e.symm)) (fun e => hne e.symm))
  have b2 : w2.heap[T]? = some (.cells #[.int .i64 v.r, .int .i64 v.n] 43 (0, 0)) := (hb.block T hT).trans (put_row (put_row h.brow))
  refine ⟨⟨put_row e2, set_row b2 hne, ⟨⟨hv.1, hv.2, hm⟩, row_base (row_same ho (fun k hk => Below.heap_setCell _ _ _ _ (fun e => by have := (ho.lt k hk).1; simp only at e; omega))) hB⟩, rfl, rfl⟩, fun k hk h1 h2 => ?_, ?_, hb.os, hb.tape, hb.output⟩
  · rw [Below.heap_setCell _ _ _ _ (by simpa using h1), hb.block k hk, Below.heap_setCell _ _ _ _ (by simpa using h2), Below.heap_setCell _ _ _ _ (by simpa using h2)]
  · have := hb.size
    simpa using this
end
end Go.Proofs.Ytjhkenmlaammnaa
