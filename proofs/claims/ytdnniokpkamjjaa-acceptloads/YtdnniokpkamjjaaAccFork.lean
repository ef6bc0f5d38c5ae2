/- Fork of a landed acceptor; lists that are written over. No condition. -/
import Derived.Test.YtdnniokpkamjjaaAccCalls
import Derived.Laws.Externs
import Derived.MapKept
namespace Go.Proofs.Ytdnniokpkamjjaa
open Go.ChangeShapes Go.WideShapes Go.ChangeAt Go.RowKit B8 Am
set_option linter.unusedVariables false

theorem equalIn_map_nil (w : World) (d mb : Nat) : (Op.equalIn (d + 1) 61 (.map (some mb)) (.map none)).run Try.prog w = .ok false w := by
  simp [Op.equalIn, run_underlying Try.underlying61]
theorem eql_map_nil (w : World) (mb : Nat) : (binOp .eql 61 (.map (some mb)) (.map none)).run Try.prog w = .ok (.bool false) w := by
  simp only [binOp]
  simp [Op.equal, Op.maxDepth, equalIn_map_nil w 9999 mb]
theorem assert_map (w : World) (v : Value) (xT : TypeId) : (Instr.typeAssert (.iface 61 v) xT 61 false).run Try.prog w = .ok v w := by
  simp [Instr.typeAssert, run_underlying Try.underlying61, go_sem, Result.andThen]
theorem clone_entry (w : World) {r : Nat} {es : Array MapEntry} {clock : Nat} (t : TypeId) (hb : w.heap[r]? = some (.map es clock)) :
    (Extern.MapsClone.clone #[.iface t (.map (some r))]).run Try.prog w = .ok (.iface t (.map (some w.heap.size))) (w.alloc (.map es clock)) := by
  refine Eq.trans (congrArg (fun x => Sem.run Try.prog x w) (show Extern.MapsClone.clone #[.iface t (.map (some r))] = (getObj r >>= _) from rfl)) ?_
  simp [MapKept.run_getObj_map hb, Result.andThen, go_sem]
set_option maxRecDepth 100000 in
theorem clone_map {w : World} {mb : Nat} {l : List Vv} (h : Mp w mb l) :
    Calls Try.prog 43 #[.map (some mb)] w fun e w' => e = .returned (.map (some w.heap.size)) ∧ Mp w' w.heap.size l ∧ Below w.heap.size w w' ∧ w.heap.size < w'.heap.size := by
  obtain ⟨D, ⟨es, clock, hb, F, hs, hD0⟩, hD⟩ := h
  have HH : Hid (Mp (w.alloc (.map es clock)) w.heap.size l) := ⟨D, ⟨es, clock, heap_alloc_new w _, F, hs, hD0⟩, hD⟩
  clear hD hD0 F hs
  have hq := eql_map_nil w mb
  go_enter Try.func43, Try.ntmps43
  go_wp2_with fail
  rw [run_callFunc_extern Try.func47 (by kernel_rfl) (by kernel_rfl) (by kernel_rfl) (e := Extern.MapsClone.clone) (by kernel_rfl), clone_entry w 61 hb]
  simp only [Result.andThen]
  rw [Oper.upon_value]
  go_wp2_with fail
  rw [assert_map]
  simp only [Result.andThen]
  rw [Oper.upon_value]
  go_wp2_with fail
  go_ret
  exact ⟨rfl, HH.out, below_alloc (Below.refl _ _) _, by simp⟩
set_option maxRecDepth 100000 in
set_option maxHeartbeats 1000000 in
theorem fork_any {w : World} {P : Nat → Prop} {A mb : Nat} {s : As} (h : Ac w P A mb s) :
    Calls Try.prog 27 #[.pointer (some ⟨A, 0, none⟩)] w fun e w' => ∃ A' mb', e = .returned (.pointer (some ⟨A', 0, none⟩)) ∧ Below w.heap.size w w' ∧ Ac w' P A' mb' s ∧ w.heap.size ≤ A' ∧ w.heap.size ≤ mb' := by
  have c0 := h.c0
  have c1 := h.c1
  have c2 := h.c2
  have c3 := h.c3
  have H := hide h
  obtain ⟨l, hmp, hvs, hin⟩ := h.ex
  have C := hide (clone_map (hmp.same (w' := w.drew) rfl))
  have FI : Hid (∀ w1, Below w.heap.size w w1 → Mp w1 w.heap.size l → w.heap.size < w1.heap.size → Below w.heap.size w (w1.alloc (.cells #[.int .i64 s.pr, .int .i64 s.pn, .int .i64 s.first, .map (some w.heap.size)] 63)) ∧ Ac (w1.alloc (.cells #[.int .i64 s.pr, .int .i64 s.pn, .int .i64 s.first, .map (some w.heap.size)] 63)) P w1.heap.size w.heap.size s) := fun w1 hb hm hs => by
    have hb2 := below_alloc (Below.refl w1.heap.size w1) (.cells #[.int .i64 s.pr, .int .i64 s.pn, .int .i64 s.first, .map (some w.heap.size)] 63)
    exact ⟨below_step hb hb2, heap_alloc_new w1 _, ⟨l, hm.same (hb2.block _ hs), hvs, fun p hp => ((hin p hp).below hb).below hb2⟩, H.out.ok⟩
  clear h hmp hvs hin
  go_enter Try.func27, Try.ntmps27
  go_wp2_with fail
  go_region_held3 (fun u => u.cell? ⟨A, 0, none⟩ = some (.int .i64 s.pr) ∧ u.cell? ⟨A, 1, none⟩ = some (.int .i64 s.pn) ∧ u.cell? ⟨A, 2, none⟩ = some (.int .i64 s.first) ∧ u.cell? ⟨A, 3, none⟩ = some (.map (some mb))) (first | go_keep | exact ⟨c0, c1, c2, c3⟩ | exact ⟨d0, d1, d2, d3⟩ | exact ⟨g0, g1, g2, g3⟩) ((first | (go_at_call 43; refine C.out.mono ?_; rintro e w1 ⟨rfl, hm1, hb1, hs1⟩; have H1 := H.out.drew.below hb1; have d0 := H1.c0; have d1 := H1.c1; have d2 := H1.c2; have d3 := H1.c3; have FN := hide (FI.out w1 ((Below.refl _ _).drew.trans hb1) hm1 hs1); have S1 : Hid (w.heap.size ≤ w1.heap.size) := hb1.size; have H2 := H1.below (below_alloc (Below.refl _ _) (.cells #[.int .i64 s.pr, .int .i64 s.pn, .int .i64 s.first, .map (some w.heap.size)] 63)); have g0 := H2.c0; have g1 := H2.c1; have g2 := H2.c2; have g3 := H2.c3; clear hm1 hb1 hs1 H1 H2)))
  all_goals (go_wp2_with fail; go_ret; exact ⟨_, _, rfl, FN.out.1, FN.out.2, S1.out, Nat.le_refl _⟩)
/-- a list of votes whose values and slots may be written over: blocks from B on -/
structure Wr (w : World) (B g m : Nat) (l : List Vv) : Prop where
  hB : B ≤ g
  len : l.length = m
  row : ∃ cs, w.heap[g]? = some (.cells cs 48 (0, 0)) ∧ m * 4 ≤ cs.size ∧ ∀ i p, l[i]? = some p → cs[i * 4 + 3]? = some (.slice p.a p.m p.cp)
  vals : ∀ p ∈ l, 0 < p.m → ∃ gb cs, p.a = some ⟨gb, 0, none⟩ ∧ B ≤ gb ∧ w.heap[gb]? = some (.cells cs 5 (0, 0)) ∧ p.m ≤ cs.size
theorem Told.wr {w : World} {B : Nat} {a : Option Addr} {m c : Nat} {l : List Vv} (h : Told w B a m c l) (h0 : 0 < m) : ∃ g, a = some ⟨g, 0, none⟩ ∧ Wr w B g m l := by
  obtain ⟨hl, ⟨e, e2⟩ | ⟨g, cp, cur, e, hB, hg, hle, _, hsz, htk⟩⟩ := id h.vl.row
  · omega
  · obtain ⟨rfl, rfl⟩ : a = some ⟨g, 0, none⟩ ∧ c = cp := by simpa using e
    have hlen := h.vl.len
    have hsz2 : m * 4 ≤ cur.size := by rw [hsz]; exact Nat.mul_le_mul_right _ hle
    refine ⟨g, rfl, hB, hlen, ⟨cur, hg, hsz2, fun i p hp => ?_⟩, fun p hp h1 => ?_⟩
    · have hi : i < l.length := (List.getElem?_eq_some_iff.1 hp).1
      have h3 := vcells_at l i p hp 3 (by omega)
      rw [← htk, List.getElem?_take, if_pos (by omega)] at h3
      simpa [Vv.cells] using h3
    · obtain ⟨_, ⟨e3, e4⟩ | ⟨gb, cq, cs, e3, hB3, hg3, hle3, _, hsz3, _⟩⟩ := id (h.fresh p hp)
      · omega
      · obtain ⟨e5, e6⟩ : p.a = some ⟨gb, 0, none⟩ ∧ p.cp = cq := by simpa using e3
        exact ⟨gb, cs, e5, hB3, hg3, by rw [hsz3]; omega⟩
theorem Wr.setVal {w : World} {B g m : Nat} {l : List Vv} (h : Wr w B g m l) {gb : Nat} {cs : Array Value} (hg : w.heap[gb]? = some (.cells cs 5 (0, 0))) (o : Nat) (u : Value) : Wr (w.setCell ⟨gb, o, none⟩ u) B g m l := by
  obtain ⟨cr, h1, h2, h3⟩ := h.row
  have ne : gb ≠ g := fun e => by rw [e, h1] at hg; simp at hg
  refine ⟨h.hB, h.len, ⟨cr, set_row h1 ne, h2, h3⟩, fun p hp h0 => ?_⟩
  obtain ⟨gp, cq, e1, e2, e3, e4⟩ := h.vals p hp h0
  by_cases e : gb = gp
  · subst e
    exact ⟨gb, _, e1, e2, put_row e3, by simpa using e4⟩
  · exact ⟨gp, cq, e1, e2, set_row e3 e, e4⟩
theorem Wr.setSlot {w : World} {B g m : Nat} {l : List Vv} (h : Wr w B g m l) (i : Nat) (u : Value) : Wr (w.setCell ⟨g, i * 4, none⟩ u) B g m l := by
  obtain ⟨cr, h1, h2, h3⟩ := h.row
  refine ⟨h.hB, h.len, ⟨_, put_row h1, by simpa using h2, fun j p hp => ?_⟩, fun p hp h0 => ?_⟩
  · rw [Array.getElem?_setIfInBounds, if_neg (by omega)]
    exact h3 j p hp
  · obtain ⟨gp, cq, e1, e2, e3, e4⟩ := h.vals p hp h0
    have ne : g ≠ gp := fun e => by rw [e, e3] at h1; simp at h1
    exact ⟨gp, cq, e1, e2, set_row e3 ne, e4⟩
end Go.Proofs.Ytdnniokpkamjjaa
