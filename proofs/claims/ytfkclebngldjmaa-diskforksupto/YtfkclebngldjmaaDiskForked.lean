/- The landed disk's Fork, whole. Condition: there is memory for what waits. -/
import Derived.Test.YtfkclebngldjmaaDiskFork
namespace Go.Proofs.Ytfkclebngldjmaa
open Go.ChangeShapes Go.WideShapes Go.ChangeAt Go.RowKit B8 Dm
set_option linter.unusedVariables false

/-- the new disk's own cells -/
structure Fk (w : World) (F : Nat) (v0 v1 v2 v3 v4 : Value) : Prop where
  c0 : w.cell? ⟨F, 0, none⟩ = some v0
  c1 : w.cell? ⟨F, 1, none⟩ = some v1
  c2 : w.cell? ⟨F, 2, none⟩ = some v2
  c3 : w.cell? ⟨F, 3, none⟩ = some v3
  c4 : w.cell? ⟨F, 4, none⟩ = some v4
  f : ∀ o, w.frozen? ⟨F, o, none⟩ = false
section
variable {w w' : World} {F : Nat} {v0 v1 v2 v3 v4 : Value}
theorem Fk.same (h : Fk w F v0 v1 v2 v3 v4) (e : w'.heap[F]? = w.heap[F]?) : Fk w' F v0 v1 v2 v3 v4 := by
  have c : ∀ o, w'.cell? ⟨F, o, none⟩ = w.cell? ⟨F, o, none⟩ := fun o => World.cell?_of_block (a := ⟨F, o, none⟩) e
  exact ⟨(c 0).trans h.c0, (c 1).trans h.c1, (c 2).trans h.c2, (c 3).trans h.c3, (c 4).trans h.c4, fun o => (World.frozen?_of_block (a := ⟨F, o, none⟩) e).trans (h.f o)⟩
theorem Fk.set0 (h : Fk w F v0 v1 v2 v3 v4) (u : Value) : Fk (w.setCell ⟨F, 0, none⟩ u) F u v1 v2 v3 v4 :=
  ⟨World.cell?_setCell_same _ _ _ h.c0, (World.cell?_setCell_other _ _ _ _ (by simp)).trans h.c1, (World.cell?_setCell_other _ _ _ _ (by simp)).trans h.c2, (World.cell?_setCell_other _ _ _ _ (by simp)).trans h.c3, (World.cell?_setCell_other _ _ _ _ (by simp)).trans h.c4, fun o => (World.frozen?_setCell _ _ _ _).trans (h.f o)⟩
theorem Fk.set1 (h : Fk w F v0 v1 v2 v3 v4) (u : Value) : Fk (w.setCell ⟨F, 1, none⟩ u) F v0 u v2 v3 v4 :=
  ⟨(World.cell?_setCell_other _ _ _ _ (by simp)).trans h.c0, World.cell?_setCell_same _ _ _ h.c1, (World.cell?_setCell_other _ _ _ _ (by simp)).trans h.c2, (World.cell?_setCell_other _ _ _ _ (by simp)).trans h.c3, (World.cell?_setCell_other _ _ _ _ (by simp)).trans h.c4, fun o => (World.frozen?_setCell _ _ _ _).trans (h.f o)⟩
theorem Fk.set2 (h : Fk w F v0 v1 v2 v3 v4) (u : Value) : Fk (w.setCell ⟨F, 2, none⟩ u) F v0 v1 u v3 v4 :=
  ⟨(World.cell?_setCell_other _ _ _ _ (by simp)).trans h.c0, (World.cell?_setCell_other _ _ _ _ (by simp)).trans h.c1, World.cell?_setCell_same _ _ _ h.c2, (World.cell?_setCell_other _ _ _ _ (by simp)).trans h.c3, (World.cell?_setCell_other _ _ _ _ (by simp)).trans h.c4, fun o => (World.frozen?_setCell _ _ _ _).trans (h.f o)⟩
end
theorem heap_setCell_other {w : World} {F o : Nat} {u : Value} {k : Nat} (h : k ≠ F) : (w.setCell ⟨F, o, none⟩ u).heap[k]? = w.heap[k]? := Below.heap_setCell _ ⟨F, o, none⟩ _ _ h
theorem size_setCell {w : World} {a : Addr} {u : Value} : (w.setCell a u).heap.size = w.heap.size := by simp [World.setCell]
theorem row_lower {w : World} {B : Nat} {T : TypeId} {sz n : Nat} {v : Value} {xs : List Value} (h : w.ownsRow B T sz v n xs) : w.ownsRow 0 T sz v n xs := by
  obtain ⟨hl, h | ⟨g, cp, cur, h1, h2, h3, h4, h5, h6, h7⟩⟩ := h
  · exact ⟨hl, .inl h⟩
  · exact ⟨hl, .inr ⟨g, cp, cur, h1, Nat.zero_le _, h3, h4, h5, h6, h7⟩⟩
theorem fk_new (w : World) (v0 v1 v2 v3 v4 : Value) (T : TypeId) : Fk (w.alloc (.cells #[v0, v1, v2, v3, v4] T)) w.heap.size v0 v1 v2 v3 v4 := by
  have hD : (w.alloc (.cells #[v0, v1, v2, v3, v4] T)).heap[w.heap.size]? = some (.cells #[v0, v1, v2, v3, v4] T (0, 0)) := heap_alloc_new w _
  have c := fun j => cell_of_row (w.alloc (.cells #[v0, v1, v2, v3, v4] T)) w.heap.size j _ _ _ hD
  exact ⟨by rw [c]; rfl, by rw [c]; rfl, by rw [c]; rfl, by rw [c]; rfl, by rw [c]; rfl, fun o => frozen_of_row _ _ o _ _ hD⟩

set_option maxRecDepth 100000 in
set_option maxHeartbeats 1000000 in
theorem fork_any {w : World} {D : Nat} {s : Ds} {L : Nat → Prop} (h : Dsk w D s L) (hr : s.ws.length < 1900000000000) :
    Calls Try.prog 26 #[.pointer (some ⟨D, 0, none⟩)] w fun e w' => ∃ F, e = .returned (.pointer (some ⟨F, 0, none⟩)) ∧ Below w.heap.size w w' ∧ Dsk w' F s (fun k => w.heap.size ≤ k) := by
  obtain ⟨gk, ck, gs, cs, av, m, cv, h, hl⟩ := h
  have c0 := h.c0
  have c1 := h.c1
  have c2 := h.c2
  have c3 := h.c3
  have c4 := h.c4
  have H := hide h
  have MR : Hid (m < 1900000000000) := by show _ < _; rw [h.len]; exact hr
  have d0 : (w.alloc (.cells #[.slice (some ⟨gk, 0, none⟩) s.n ck, .slice (some ⟨gs, 0, none⟩) s.n cs, .slice av m cv, .int .i64 s.left, .bool s.down] 65)).cell? ⟨D, 0, none⟩ = some (.slice (some ⟨gk, 0, none⟩) s.n ck) := (World.cell?_alloc_lt w _ _ h.ltD).trans c0
  clear h hl hr
  go_enter Try.func26, Try.ntmps26
  go_wp2_with fail
  have F1 := hide (fk_new w (.slice (some ⟨gk, 0, none⟩) s.n ck) (.slice (some ⟨gs, 0, none⟩) s.n cs) (.slice av m cv) (.int .i64 s.left) (.bool s.down) 65)
  obtain ⟨w1, e1⟩ : ∃ w1, w1 = w.alloc (.cells #[.slice (some ⟨gk, 0, none⟩) s.n ck, .slice (some ⟨gs, 0, none⟩) s.n cs, .slice av m cv, .int .i64 s.left, .bool s.down] 65) := ⟨_, rfl⟩
  rw [← e1] at F1 ⊢
  have B1 : Hid (Below w.heap.size w w1) := by rw [e1]; exact below_alloc (Below.refl _ _) _
  have S1 : Hid (w1.heap.size = w.heap.size + 1) := by rw [e1]; simp [Hid]
  clear e1 c0 c3 c4 d0
  have OK := hide H.out.ok
  have K1 := hide (H.out.kept.same (B1.out.block gk H.out.ltk))
  refine (clone_blocks K1.out (fun i hi => (OK.out.kept i hi).1) OK.out.lo OK.out.hi).mono ?_
  rintro e w2 ⟨G1, C1, rfl, hb2, hG1, hG1', hC1, hk2⟩
  have B2 : Hid (Below w.heap.size w w2) := B1.out.trans (hb2.mono (by have := S1.out; omega))
  have F2 := hide (F1.out.same (hb2.block w.heap.size (by have := S1.out; omega)))
  have K2 := hide hk2
  have N1 : Hid (w.heap.size < G1 ∧ G1 < w2.heap.size ∧ s.n ≤ C1) := ⟨by have := S1.out; omega, hG1', hC1⟩
  have x0 := F2.out.c0
  have x1 := F2.out.f 0
  have y1 : (w2.setCell ⟨w.heap.size, 0, none⟩ (.slice (some ⟨G1, 0, none⟩) s.n C1)).cell? ⟨D, 1, none⟩ = some (.slice (some ⟨gs, 0, none⟩) s.n cs) := by
    rw [World.cell?_setCell_other _ _ _ _ (by simp)]
    exact (B2.out.cell (p := ⟨D, 1, none⟩) H.out.ltD).trans c1
  clear hb2 hk2 hG1 hG1' hC1 F1 K1 B1 S1
  go_wp2_with fail
  have F3 := hide (F2.out.set0 (.slice (some ⟨G1, 0, none⟩) s.n C1))
  obtain ⟨w3, e3⟩ : ∃ w3, w3 = w2.setCell ⟨w.heap.size, 0, none⟩ (.slice (some ⟨G1, 0, none⟩) s.n C1) := ⟨_, rfl⟩
  rw [← e3] at F3 ⊢
  have o3 : Hid (∀ k, k ≠ w.heap.size → w3.heap[k]? = w2.heap[k]?) := fun k hk => by rw [e3]; exact heap_setCell_other hk
  have S3 : Hid (w3.heap.size = w2.heap.size) := by rw [e3]; exact size_setCell
  have B3 : Hid (Below w.heap.size w w3) := ⟨by rw [e3]; exact B2.out.os, by rw [e3]; exact B2.out.tape, by rw [e3]; exact B2.out.output, by rw [S3.out]; exact B2.out.size, fun k hk => (o3.out k (by omega)).trans (B2.out.block k hk)⟩
  have K3 := hide (K2.out.same (o3.out G1 (by have := N1.out.1; omega)))
  have N3 : Hid (w.heap.size < G1 ∧ G1 < w3.heap.size ∧ s.n ≤ C1) := by rw [S3.out]; exact N1.out
  have P3 := hide (H.out.shown.same (B3.out.block gs H.out.lts))
  clear e3 x0 x1 y1 F2 K2 B2 N1 o3 S3 c1
  refine (clone_blocks P3.out (fun i hi => (OK.out.shown i hi).1) OK.out.lo OK.out.hi).mono ?_
  rintro e w4 ⟨G2, C2, rfl, hb4, hG2, hG2', hC2, hk4⟩
  have B4 : Hid (Below w.heap.size w w4) := B3.out.trans (hb4.mono B3.out.size)
  have F4 := hide (F3.out.same (hb4.block w.heap.size (by have := N3.out; omega)))
  have K4 := hide (K3.out.same (hb4.block G1 N3.out.2.1))
  have P4 := hide hk4
  have N4 : Hid (w.heap.size < G1 ∧ G1 < G2 ∧ G2 < w4.heap.size ∧ s.n ≤ C1 ∧ s.n ≤ C2) := ⟨N3.out.1, by have := N3.out.2.1; omega, hG2', N3.out.2.2, hC2⟩
  have x0 := F4.out.c1
  have x1 := F4.out.f 1
  have y2 : (w4.setCell ⟨w.heap.size, 1, none⟩ (.slice (some ⟨G2, 0, none⟩) s.n C2)).cell? ⟨D, 2, none⟩ = some (.slice av m cv) := by
    rw [World.cell?_setCell_other _ _ _ _ (by simp)]
    exact (B4.out.cell (p := ⟨D, 2, none⟩) H.out.ltD).trans c2
  clear hb4 hk4 hG2 hG2' hC2 F3 K3 B3 N3 P3
  go_wp2_with fail
  have F5 := hide (F4.out.set1 (.slice (some ⟨G2, 0, none⟩) s.n C2))
  obtain ⟨w5, e5⟩ : ∃ w5, w5 = w4.setCell ⟨w.heap.size, 1, none⟩ (.slice (some ⟨G2, 0, none⟩) s.n C2) := ⟨_, rfl⟩
  rw [← e5] at F5 ⊢
  have o5 : Hid (∀ k, k ≠ w.heap.size → w5.heap[k]? = w4.heap[k]?) := fun k hk => by rw [e5]; exact heap_setCell_other hk
  have S5 : Hid (w5.heap.size = w4.heap.size) := by rw [e5]; exact size_setCell
  have B5 : Hid (Below w.heap.size w w5) := ⟨by rw [e5]; exact B4.out.os, by rw [e5]; exact B4.out.tape, by rw [e5]; exact B4.out.output, by rw [S5.out]; exact B4.out.size, fun k hk => (o5.out k (by omega)).trans (B4.out.block k hk)⟩
  have K5 := hide (K4.out.same (o5.out G1 (by have := N4.out; omega)))
  have P5 := hide (P4.out.same (o5.out G2 (by have := N4.out; omega)))
  have N5 : Hid (w.heap.size < G1 ∧ G1 < G2 ∧ G2 < w5.heap.size ∧ s.n ≤ C1 ∧ s.n ≤ C2) := by rw [S5.out]; exact N4.out
  have R5 : Hid (w5.ownsRow 0 74 65 (.slice av m cv) m (wcells s.ws)) := row_same H.out.ws (fun k hk => B5.out.block k (H.out.ws.lt k hk).2)
  clear e5 x0 x1 y2 F4 K4 P4 B4 N4 o5 S5 c2
  refine (clone_writes R5.out (wcells_one _) MR.out).mono ?_
  rintro e w6 ⟨a3, c3, rfl, hb6, hr6⟩
  have B6 : Hid (Below w.heap.size w w6) := B5.out.trans (hb6.mono B5.out.size)
  have F6 := hide (F5.out.same (hb6.block w.heap.size (by have := N5.out; omega)))
  have K6 := hide (K5.out.same (hb6.block G1 (by have := N5.out; omega)))
  have P6 := hide (P5.out.same (hb6.block G2 (by have := N5.out; omega)))
  have R6 := hide hr6
  have V6 : Hid (∀ k, (Value.slice a3 m c3).ownBlock = some k → G2 < k) := fun k hk => by have := (hr6.lt k hk).1; have := N5.out; omega
  have N6 : Hid (w.heap.size < G1 ∧ G1 < G2 ∧ s.n ≤ C1 ∧ s.n ≤ C2) := ⟨N5.out.1, N5.out.2.1, N5.out.2.2.2⟩
  have x0 := F6.out.c2
  have x1 := F6.out.f 2
  clear hb6 hr6 F5 K5 P5 R5 B5 N5
  go_wp2_with fail
  go_ret
  have F7 := F6.out.set2 (.slice a3 m c3)
  have o7 : ∀ k, k ≠ w.heap.size → (w6.setCell ⟨w.heap.size, 2, none⟩ (.slice a3 m c3)).heap[k]? = w6.heap[k]? := fun k hk => heap_setCell_other hk
  have n6 := N6.out
  refine ⟨w.heap.size, rfl, ⟨B6.out.os, B6.out.tape, B6.out.output, by rw [size_setCell]; exact B6.out.size, fun k hk => (o7 k (by omega)).trans (B6.out.block k hk)⟩, G1, C1, G2, C2, a3, m, c3,
    ⟨F7.c0, F7.c1, F7.c2, F7.c3, F7.c4, F7.f, K6.out.same (o7 G1 (by omega)), P6.out.same (o7 G2 (by omega)), H.out.len, row_lower (row_same R6.out (fun k hk => o7 k (by have := V6.out k hk; omega))), n6.2.2.1, n6.2.2.2, by omega, by omega, by omega, fun e => by have := V6.out _ e; omega, fun e => by have := V6.out _ e; omega, fun e => by have := V6.out _ e; omega, OK.out⟩, fun k hk => ?_⟩
  rcases hk with rfl | rfl | rfl | hk
  · omega
  · omega
  · omega
  · have := V6.out k hk; omega
end Go.Proofs.Ytfkclebngldjmaa
