/- The queue's Pop. No condition. -/
import Derived.Test.YtoganfdpaagomaaClockDelete
namespace Go.Proofs.Ytoganfdpaagomaa
open Go.ChangeShapes Go.WideShapes Go.ChangeAt Go.RowKit Cm
set_option linter.unusedVariables false

section
variable {w w2 : World} {L : Ql} {l : List Tm} {ns : List ByteArray}
theorem Qu.popped {t : Tm} (h : Qu w L (l ++ [t]) ns) {b : Nat} (ea : L.av = some ⟨b, 0, none⟩)
    (hrow : w2.ownsRow 0 54 3 (.slice (some ⟨b, 0, none⟩) (l.length + 0) L.cv) (l.length + 0) (tcells ((l ++ [t]).eraseIdx l.length))) (hg : w.grownBy w2 (some b)) :
    QMv w L l ns (w2.setCell ⟨L.Q, 0, none⟩ (.slice (some ⟨b, 0, none⟩) (l.length + 0) L.cv)) := by
  obtain ⟨w4, e4⟩ : ∃ w4, w4 = w2.setCell ⟨L.Q, 0, none⟩ (.slice (some ⟨b, 0, none⟩) (l.length + 0) L.cv) := ⟨_, rfl⟩
  have eo : (Value.slice L.av L.m L.cv).ownBlock = some b := by rw [ea]; rfl
  have gQ : b ≠ L.Q := fun e => h.v1 (e ▸ eo)
  have o4 : ∀ k, k ≠ L.Q → w4.heap[k]? = w2.heap[k]? := fun k hk => by rw [e4]; exact Below.heap_setCell _ _ _ _ hk
  have nv : ∀ k, k < w.heap.size → k ≠ b → w2.heap[k]? = w.heap[k]? := fun k hk hn => hg.block k hk (fun e => hn (Option.some.inj e))
  have eQ := nv L.Q h.ltQ (Ne.symm gQ)
  have c3 : ∀ o, w2.cell? ⟨L.Q, o, none⟩ = w.cell? ⟨L.Q, o, none⟩ := fun o => World.cell?_of_block (a := ⟨L.Q, o, none⟩) eQ
  obtain ⟨F, hmp, hix⟩ := h.mp
  have hmo := h.most
  simp at hmo
  rw [← e4]
  refine ⟨?_, { L with m := l.length }, ⟨?_, ?_, fun o => ?_, ?_, rfl, ⟨F, ?_, hix⟩, ?_, h.sz, ?_⟩, rfl, fun k hk => ?_⟩
  · rw [e4]
    exact ((Chg.refl L.M w).grown hg (fun k hk => .inl (.inr (.inr (eo.trans hk))))).setCell (p := ⟨L.Q, 0, none⟩) (.inl (.inl rfl)) _
  · show w4.cell? ⟨L.Q, 0, none⟩ = some (.slice L.av l.length L.cv)
    rw [e4, ea]; exact World.cell?_setCell_same' _ _ _ (by rw [c3, h.c0]; rfl)
  · show w4.cell? ⟨L.Q, 1, none⟩ = _
    rw [e4, World.cell?_setCell_other _ _ _ _ (by simp), c3]; exact h.c1
  · show w4.frozen? ⟨L.Q, o, none⟩ = _
    rw [e4, setCell_frozen]
    exact (World.frozen?_of_block (a := ⟨L.Q, o, none⟩) eQ).trans (h.f o)
  · show w4.ownsRow 0 54 3 (.slice L.av l.length L.cv) l.length (tcells l)
    rw [ea]
    have e5 : (l ++ [t]).eraseIdx l.length = l := by rw [List.eraseIdx_append_of_length_le (Nat.le_refl _)]; simp
    rw [e5] at hrow
    exact row_same hrow (fun k hk => o4 k (by simp [Value.ownBlock] at hk; rw [← hk]; exact gQ))
  · exact hmp.same ((o4 L.mb h.mQ).trans (nv _ h.ltM (fun e => h.vM (by rw [e]; exact eo))))
  · show (Value.slice L.av l.length L.cv).ownBlock ≠ some L.Q
    rw [ea]
    simp [Value.ownBlock]
    exact gQ
  · exact ⟨by omega, hmo.2⟩
  · rcases hk with h1 | h1 | h1
    · exact .inl (.inl h1)
    · exact .inl (.inr (.inl h1))
    · refine .inl (.inr (.inr ?_))
      simp only [Ql.v, ea, Value.ownBlock] at h1 ⊢
      exact h1
set_option maxRecDepth 100000 in
set_option maxHeartbeats 1000000 in
theorem qpop_any {t : Tm} (h : Qu w L (l ++ [t]) ns) :
    Calls Try.prog 83 #[.pointer (some ⟨L.Q, 0, none⟩)] w fun e w' => e = .returned (.iface 54 (tagg t)) ∧ QMv w L l ns w' := by
  have C := hide (len_any h)
  have hl := h.len
  have hmo := h.most.1
  simp at hl hmo
  obtain ⟨b, ea, eo, k0, k1, k2⟩ := h.at (k := l.length) (by simp)
  have gt : g (l ++ [t]) l.length = t := by rw [g_at (by simp)]; simp
  rw [gt] at k0 k1 k2
  have c0 := h.c0
  rw [ea, hl] at c0
  rw [show (l ++ [t]).length = l.length + 1 by simp] at C
  have A := hide (h.below (below_alloc (Below.refl _ _) (.cells #[.string t.name, .int .i64 t.due, .int .i64 t.turn] 54)))
  have row := A.out.row
  rw [ea, hl] at row
  have D := hide (delete_any (k := l.length) (r := 0) row (by simp) (by omega) (l.length + 1) rfl)
  have a0 := A.out.c0
  rw [ea, hl] at a0
  have s1 : IntKind.i64.wrap ((l.length : Int) + 1 - 1) = (l.length : Int) := by rw [IntKind.wrap_i64]; omega
  have s2 : IntKind.i64.wrap ((l.length : Int) + 1) = (l.length : Int) + 1 := by rw [IntKind.wrap_i64]; omega
  have s3 : IntKind.i64.wrap (l.length : Int) = (l.length : Int) := by rw [IntKind.wrap_i64]; omega
  have hn : l.length ≤ 64 := by omega
  have b1 : (0 : Int) ≤ (l.length : Int) := by omega
  have b2 : (l.length : Int) < ((l.length + 1 : Nat) : Int) := by omega
  have EA := hide ea
  have EO := hide eo
  have H := hide h
  clear h hl hmo ea eo gt row
  go_enter Try.func83, Try.ntmps83
  go_wp2_with fail
  refine C.out.mono ?_
  rintro e w1 ⟨rfl, rfl⟩
  go_wp2_with fail
  refine D.out.mono ?_
  rintro e w2 ⟨rfl, hr2, hg2⟩
  have gQ : b ≠ L.Q := fun e => H.out.v1 (e ▸ EO.out)
  have d1 : w2.cell? ⟨L.Q, 0, none⟩ = some (.slice (some ⟨b, 0, none⟩) (l.length + 1) L.cv) := hg2.cell a0 (fun e => gQ (Option.some.inj e).symm)
  have f1 : w2.frozen? ⟨L.Q, 0, none⟩ = false := (World.frozen?_of_block (a := ⟨L.Q, 0, none⟩) (hg2.block _ A.out.ltQ (fun e => gQ (Option.some.inj e).symm))).trans (A.out.f 0)
  have hw : w1.heap.size < (w1.alloc (.cells #[.string t.name, .int .i64 t.due, .int .i64 t.turn] 54)).heap.size := by simp
  have gw : b ≠ w1.heap.size := fun e => by have := (H.out.row.lt b EO.out).2; omega
  have m0 : w2.heap[w1.heap.size]? = some (.cells #[.string t.name, .int .i64 t.due, .int .i64 t.turn] 54) := (hg2.block _ hw (fun e => gw (Option.some.inj e).symm)).trans (heap_alloc_new w1 _)
  have p0 : w2.cell? ⟨w1.heap.size, 0, none⟩ = some (.string t.name) := by rw [cell_of_row w2 _ 0 _ _ _ m0]; rfl
  have p1 : w2.cell? ⟨w1.heap.size, 1, none⟩ = some (.int .i64 t.due) := by rw [cell_of_row w2 _ 1 _ _ _ m0]; rfl
  have p2 : w2.cell? ⟨w1.heap.size, 2, none⟩ = some (.int .i64 t.turn) := by rw [cell_of_row w2 _ 2 _ _ _ m0]; rfl
  have FIN : Hid (QMv w1 L l ns (w2.setCell ⟨L.Q, 0, none⟩ (.slice (some ⟨b, 0, none⟩) l.length L.cv))) := by
    obtain ⟨h1, h2⟩ := A.out.popped EA.out hr2 hg2
    exact ⟨(Chg.of_below (below_alloc (Below.refl _ _) _) L.M).trans h1 (fun k _ hk => hk), h2.imp fun L' ⟨q1, q2, q3⟩ => ⟨q1, q2, fun k hk => (q3 k hk).imp id (fun h => Nat.le_trans (by simp) h)⟩⟩
  have wQ : w1.heap.size ≠ L.Q := fun e => by have := H.out.ltQ; omega
  clear hr2 hg2 gQ hw gw m0
  go_wp2_with fail
  go_ret
  exact ⟨rfl, FIN.out⟩
end
end Go.Proofs.Ytoganfdpaagomaa
