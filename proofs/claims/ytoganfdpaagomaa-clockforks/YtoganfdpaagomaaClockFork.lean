/- maps.Clone at the map of places; the queue's fork and the clock's Fork. No condition. -/
import Derived.Test.YtoganfdpaagomaaClockCalls
import Derived.Deep.RegionHeld3
import Derived.Laws.Externs
import Derived.MapKept
namespace Go.Proofs.Ytoganfdpaagomaa
open Go.ChangeShapes Go.WideShapes Go.ChangeAt Go.RowKit Cm
set_option linter.unusedVariables false

theorem equalIn_map_nil (w : World) (d mb : Nat) : (Op.equalIn (d + 1) 55 (.map (some mb)) (.map none)).run Try.prog w = .ok false w := by
  simp [Op.equalIn, run_underlying Try.underlying55]
theorem eql_map_nil (w : World) (mb : Nat) : (binOp .eql 55 (.map (some mb)) (.map none)).run Try.prog w = .ok (.bool false) w := by
  simp only [binOp]
  simp [Op.equal, Op.maxDepth, equalIn_map_nil w 9999 mb]
theorem assert_map (w : World) (v : Value) (xT : TypeId) : (Instr.typeAssert (.iface 55 v) xT 55 false).run Try.prog w = .ok v w := by
  simp [Instr.typeAssert, run_underlying Try.underlying55, go_sem, Result.andThen]
theorem clone_entry (w : World) {r : Nat} {es : Array MapEntry} {clock : Nat} (t : TypeId) (hb : w.heap[r]? = some (.map es clock)) :
    (Extern.MapsClone.clone #[.iface t (.map (some r))]).run Try.prog w = .ok (.iface t (.map (some w.heap.size))) (w.alloc (.map es clock)) := by
  refine Eq.trans (congrArg (fun x => Sem.run Try.prog x w) (show Extern.MapsClone.clone #[.iface t (.map (some r))] = (getObj r >>= _) from rfl)) ?_
  simp [MapKept.run_getObj_map hb, Result.andThen, go_sem]
set_option maxRecDepth 100000 in
theorem clone_map {w : World} {mb n : Nat} {F : ByteArray → Option Nat} (h : Mp w mb n F) :
    Calls Try.prog 45 #[.map (some mb)] w fun e w' => e = .returned (.map (some w.heap.size)) ∧ Mp w' w.heap.size n F ∧ Below w.heap.size w w' ∧ w.heap.size < w'.heap.size := by
  obtain ⟨D, ⟨es, clock, hb, FF, hs, hD0⟩, hD⟩ := h
  have HH : Hid (Mp (w.alloc (.map es clock)) w.heap.size n F) := ⟨D, ⟨es, clock, heap_alloc_new w _, FF, hs, hD0⟩, hD⟩
  clear hD hD0 FF hs
  have hq := eql_map_nil w mb
  go_enter Try.func45, Try.ntmps45
  go_wp2_with fail
  rw [run_callFunc_extern Try.func59 (by kernel_rfl) (by kernel_rfl) (by kernel_rfl) (e := Extern.MapsClone.clone) (by kernel_rfl), clone_entry w 55 hb]
  simp only [Result.andThen]
  rw [Oper.upon_value]
  go_wp2_with fail
  rw [assert_map]
  simp only [Result.andThen]
  rw [Oper.upon_value]
  go_wp2_with fail
  go_ret
  exact ⟨rfl, HH.out, below_alloc (Below.refl _ _) _, by simp⟩
theorem qu_forked {w w1 w2 : World} {m c' : Nat} {a' : Option Addr} {l : List Tm} {F : ByteArray → Option Nat} (hm : m = l.length) (mo : l.length ≤ 65) (sz : ∀ s ∈ names l, s.size ≤ maxLen) (b1 : Below w.heap.size w w1) (o1 : w1.ownsRow w.heap.size 54 3 (.slice a' m c') m (tcells l)) (b2 : Below w1.heap.size w1 w2) (h2 : Mp w2 w1.heap.size (names l).length F ∧ Ix (names l) F) :
    Qu (w2.alloc (.cells #[.slice a' m c', .map (some w1.heap.size)] 57)) ⟨w2.heap.size, w1.heap.size, a', m, c'⟩ l (names l) ∧ Below w.heap.size w (w2.alloc (.cells #[.slice a' m c', .map (some w1.heap.size)] 57)) ∧ ∀ k, (⟨w2.heap.size, w1.heap.size, a', m, c'⟩ : Ql).M k → w.heap.size ≤ k := by
  have N := heap_alloc_new w2 (.cells #[.slice a' m c', .map (some w1.heap.size)] 57)
  have row0 : w1.ownsRow 0 54 3 (.slice a' m c') m (tcells l) := by
    obtain ⟨x1, h | ⟨g', cp', cur', z1, z2, z3⟩⟩ := o1
    · exact ⟨x1, .inl h⟩
    · exact ⟨x1, .inr ⟨g', cp', cur', z1, Nat.zero_le _, z3⟩⟩
  refine ⟨⟨by rw [cell_of_row _ _ 0 _ _ _ N]; rfl, by rw [cell_of_row _ _ 1 _ _ _ N]; rfl, fun o => by unfold World.frozen?; rw [N]; simp, ?_, hm, ⟨F, h2.1.same (Below.heap_alloc _ _ _ h2.1.lt), h2.2⟩, fun e => ?_, sz, ⟨mo, by rw [names_length]; exact mo⟩⟩, below_alloc (b1.trans (b2.mono b1.size)) _, fun k hk => ?_⟩
  · exact row_same row0 (fun k hk => (Below.heap_alloc _ _ _ (Nat.lt_of_lt_of_le (o1.lt k hk).2 b2.size)).trans (b2.block k (o1.lt k hk).2))
  · have h3 := (o1.lt _ e).2
    have h4 : w2.heap.size < w1.heap.size := h3
    have := b2.size
    omega
  · rcases hk with rfl | rfl | hk
    · exact Nat.le_trans b1.size b2.size
    · exact b1.size
    · exact (o1.lt k hk).1
set_option maxRecDepth 100000 in
set_option maxHeartbeats 1000000 in
theorem qfork_any {w : World} {L : Ql} {l : List Tm} (h : Qu w L l (names l)) :
    Calls Try.prog 36 #[.pointer (some ⟨L.Q, 0, none⟩)] w fun e w' => ∃ L', e = .returned (.pointer (some ⟨L'.Q, 0, none⟩)) ∧ Qu w' L' l (names l) ∧ Below w.heap.size w w' ∧ ∀ k, L'.M k → w.heap.size ≤ k := by
  have c0 := h.c0
  have c1 := h.c1
  have mo := h.most
  have hl := h.len
  have lq := h.ltQ
  have CC := hide (clone_tms h.drew.row (tcells_one l) (by omega))
  have H := hide h
  have HM := hide (And.intro hl (And.intro mo.1 h.sz))
  clear h mo hl
  go_enter Try.func36, Try.ntmps36
  go_wp2_with fail
  go_region_held3 (fun u => u.cell? ⟨L.Q, 0, none⟩ = some (.slice L.av L.m L.cv) ∧ u.cell? ⟨L.Q, 1, none⟩ = some (.map (some L.mb))) (first | go_keep | exact ⟨c0, c1⟩ | exact ⟨d0, d1⟩ | exact ⟨e0, e1⟩ | exact ⟨ac e0, ac e1⟩) ((first | (go_at_call 26; refine CC.out.mono ?_; rintro e w1 ⟨a', c', rfl, hb1, ho1⟩; have d0 : w1.cell? ⟨L.Q, 0, none⟩ = some (.slice L.av L.m L.cv) := (hb1.cell (p := ⟨L.Q, 0, none⟩) lq).trans c0; have d1 : w1.cell? ⟨L.Q, 1, none⟩ = some (.map (some L.mb)) := (hb1.cell (p := ⟨L.Q, 1, none⟩) lq).trans c1; have B1 := hide hb1; have O1 := hide ho1; clear hb1 ho1) | (go_at_call 45; have Q1 := H.out.drew.below (w' := w1) B1.out; obtain ⟨F, hmp, hix⟩ := Q1.mp; refine (clone_map hmp).mono ?_; rintro e w2 ⟨rfl, hm2, hb2, hs2⟩; have e0 : w2.cell? ⟨L.Q, 0, none⟩ = some (.slice L.av L.m L.cv) := (hb2.cell (p := ⟨L.Q, 0, none⟩) Q1.ltQ).trans d0; have e1 : w2.cell? ⟨L.Q, 1, none⟩ = some (.map (some L.mb)) := (hb2.cell (p := ⟨L.Q, 1, none⟩) Q1.ltQ).trans d1; have B2 := hide hb2; have M2 := hide (And.intro hm2 hix); have S2 := hide hs2; clear hb2 hm2 hix hmp Q1 hs2)))
  all_goals (go_wp2_with fail; go_ret; exact ⟨⟨w2.heap.size, w1.heap.size, a', L.m, c'⟩, rfl, qu_forked (w := w) HM.out.1 HM.out.2.1 HM.out.2.2 ((Below.refl _ _).drew.trans B1.out) O1.out B2.out M2.out⟩)
set_option maxRecDepth 100000 in
set_option maxHeartbeats 1000000 in
theorem fork_any {w : World} {C : Nat} {L : Ql} {s : Cs} {B : Int} (h : Cl w C L s B) :
    Calls Try.prog 20 #[.pointer (some ⟨C, 0, none⟩)] w fun e w' => ∃ D, e = .returned (.pointer (some ⟨D, 0, none⟩)) ∧ Below w.heap.size w w' ∧ ClN w' w.heap.size D s B := by
  have c0 := h.c0
  have c1 := h.c1
  have c2 := h.c2
  have lc := h.ltC
  obtain ⟨l, p1, p2, q⟩ := h.q
  have CF := hide (qfork_any q.drew)
  have FI : Hid (∀ w1 (L1 : Ql), Qu w1 L1 l (names l) → Below w.heap.size w w1 → (∀ k, L1.M k → w.heap.size ≤ k) → Below w.heap.size w (w1.alloc (.cells #[.int .i64 s.now, .int .i64 s.sets, .pointer (some ⟨L1.Q, 0, none⟩)] 50)) ∧ ClN (w1.alloc (.cells #[.int .i64 s.now, .int .i64 s.sets, .pointer (some ⟨L1.Q, 0, none⟩)] 50)) w.heap.size w1.heap.size s B) := fun w1 L1 q1 b1 m1 => by
    have N := heap_alloc_new w1 (.cells #[.int .i64 s.now, .int .i64 s.sets, .pointer (some ⟨L1.Q, 0, none⟩)] 50)
    refine ⟨below_alloc b1 _, L1, ⟨by rw [cell_of_row _ _ 0 _ _ _ N]; rfl, by rw [cell_of_row _ _ 1 _ _ _ N]; rfl, by rw [cell_of_row _ _ 2 _ _ _ N]; rfl, fun o => by unfold World.frozen?; rw [N]; simp, ⟨l, p1, p2, q1.below (below_alloc (Below.refl _ _) _)⟩, fun hm => by have := q1.lt _ hm; omega, h.ok⟩, fun k hk => ?_⟩
    rcases hk with rfl | hk
    · exact b1.size
    · exact m1 k hk
  clear h q p1 p2
  go_enter Try.func20, Try.ntmps20
  go_wp2_with fail
  go_region_held3 (fun u => u.cell? ⟨C, 0, none⟩ = some (.int .i64 s.now) ∧ u.cell? ⟨C, 1, none⟩ = some (.int .i64 s.sets) ∧ u.cell? ⟨C, 2, none⟩ = some (.pointer (some ⟨L.Q, 0, none⟩))) (first | go_keep | exact ⟨c0, c1, c2⟩ | exact ⟨d0, d1, d2⟩ | exact ⟨ac d0, ac d1, ac d2⟩) ((first | (go_at_call 36; refine CF.out.mono ?_; rintro e w1 ⟨L1, rfl, q1, b1, m1⟩; have d0 : w1.cell? ⟨C, 0, none⟩ = some (.int .i64 s.now) := (b1.cell (p := ⟨C, 0, none⟩) lc).trans c0; have d1 : w1.cell? ⟨C, 1, none⟩ = some (.int .i64 s.sets) := (b1.cell (p := ⟨C, 1, none⟩) lc).trans c1; have d2 : w1.cell? ⟨C, 2, none⟩ = some (.pointer (some ⟨L.Q, 0, none⟩)) := (b1.cell (p := ⟨C, 2, none⟩) lc).trans c2; have FIN := hide (FI.out w1 L1 q1 ((Below.refl _ _).drew.trans b1) m1); clear q1 b1 m1)))
  all_goals (go_wp2_with fail; go_ret; exact ⟨_, rfl, FIN.out.1, FIN.out.2⟩)
end Go.Proofs.Ytoganfdpaagomaa
