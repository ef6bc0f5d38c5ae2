/- The queue's take. No condition. -/
import Derived.Test.YtoganfdpaagomaaClockAdd
namespace Go.Proofs.Ytoganfdpaagomaa
open Go.ChangeShapes Go.WideShapes Go.ChangeAt Go.RowKit Cm
set_option linter.unusedVariables false

theorem set3 {w : World} {b : Nat} {x y z x' y' z' : Value} {t : TypeId} (h : w.heap[b]? = some (.cells #[x, y, z] t)) : (((w.setCell ⟨b, 0, none⟩ x').setCell ⟨b, 1, none⟩ y').setCell ⟨b, 2, none⟩ z').heap[b]? = some (.cells #[x', y', z'] t) := by
  simp [World.setCell, Array.getElem?_modify, h]
theorem set3_far {w : World} {b k : Nat} {x' y' z' : Value} (h : k ≠ b) : (((w.setCell ⟨b, 0, none⟩ x').setCell ⟨b, 1, none⟩ y').setCell ⟨b, 2, none⟩ z').heap[k]? = w.heap[k]? := by
  rw [Below.heap_setCell _ _ _ _ h, Below.heap_setCell _ _ _ _ h, Below.heap_setCell _ _ _ _ h]
theorem set3_size {w : World} {b : Nat} {x' y' z' : Value} : (((w.setCell ⟨b, 0, none⟩ x').setCell ⟨b, 1, none⟩ y').setCell ⟨b, 2, none⟩ z').heap.size = w.heap.size := by
  simp [World.setCell]
set_option maxRecDepth 100000 in
set_option maxHeartbeats 1000000 in
theorem take_any {w : World} {L : Ql} {l : List Tm} {k n : Nat} (h : Qu w L l (names l)) (hl : l.length = n + 1) (hk : k ≤ n) (hh : HeapN l l.length) :
    Calls Try.prog 35 #[.pointer (some ⟨L.Q, 0, none⟩), .int .i64 k] w fun e w' => e = .returned (tagg (g l k)) ∧ HP w L (l.eraseIdx k) names w' := by
  obtain ⟨b, ea, eo, i0, i1, i2⟩ := h.at (k := k) (by omega)
  have hln := h.len
  have hmo := h.most.1
  obtain ⟨t, et⟩ : ∃ t, t = g l k := ⟨_, rfl⟩
  rw [← et] at i0 i1 i2 ⊢
  obtain ⟨w1, e1⟩ : ∃ w1, w1 = (w.alloc (.cells #[.string ⟨#[]⟩, .int .i64 0, .int .i64 0] 54)).alloc (.cells #[.string t.name, .int .i64 t.due, .int .i64 t.turn] 54) := ⟨_, rfl⟩
  have B1 : Below w.heap.size w w1 := by rw [e1]; exact below_alloc (below_alloc (Below.refl _ _) _) _
  have S1 : w1.heap.size = w.heap.size + 2 := by rw [e1]; simp
  have N0 : w1.heap[w.heap.size]? = some (.cells #[.string ⟨#[]⟩, .int .i64 0, .int .i64 0] 54) := by rw [e1]; exact (Below.heap_alloc _ _ _ (by simp)).trans (heap_alloc_new w _)
  have N1 : w1.heap[w.heap.size + 1]? = some (.cells #[.string t.name, .int .i64 t.due, .int .i64 t.turn] 54) := by
    rw [e1]
    have := heap_alloc_new (w.alloc (.cells #[.string ⟨#[]⟩, .int .i64 0, .int .i64 0] 54)) (.cells #[.string t.name, .int .i64 t.due, .int .i64 t.turn] 54)
    simpa using this
  have CR := hide (hremove_any (h.below B1) hl hk hh)
  rw [← et] at CR
  have hz := h.below (below_alloc (Below.refl _ _) (.cells #[.string ⟨#[]⟩, .int .i64 0, .int .i64 0] 54))
  have c0 := hz.c0
  rw [ea] at c0
  obtain ⟨b', ea', _, j0, j1, j2⟩ := hz.at (k := k) (by omega)
  obtain rfl : b = b' := by rw [ea] at ea'; simpa using ea'
  rw [← et] at j0 j1 j2
  clear hz ea' i0 i1 i2
  have x1 : (0 : Int) ≤ k := by omega
  have x2 : (k : Int) < L.m := by omega
  have H := hide h
  have BB := hide (And.intro B1 (And.intro S1 (And.intro N0 N1)))
  have E1 := hide e1
  have ET := hide et
  have SN : Hid (t.name.size ≤ maxLen) := h.sz _ (by rw [et]; exact List.mem_map_of_mem (g_mem (by omega)))
  clear h hl hk hh ea eo hln hmo et B1 S1 N0 N1 e1
  go_enter Try.func35, Try.ntmps35
  go_wp2_with fail
  rw [← E1.out]
  refine CR.out.mono ?_
  rintro e w2 ⟨rfl, l', hp, hhp, hc2, L2, q2, eQ, m2⟩
  have nL : ∀ j, w.heap.size ≤ j → ¬ L.M j := fun j hj hm => by have := H.out.lt j hm; omega
  have M0 := (hc2.block _ (by rw [BB.out.2.1]; omega) (nL _ (Nat.le_refl _))).trans BB.out.2.2.1
  have M1 := (hc2.block _ (by rw [BB.out.2.1]; omega) (nL _ (Nat.le_succ _))).trans BB.out.2.2.2
  have n2 : ∀ j, w.heap.size ≤ j → j < w.heap.size + 2 → ¬ L2.M j := fun j h1 h2 hm => by
    rcases m2 j hm with h3 | h3
    · exact nL j h1 h3
    · rw [BB.out.2.1] at h3; omega
  have c1 := q2.c1
  rw [eQ] at c1
  have p0 : w2.cell? ⟨w.heap.size + 1, 0, none⟩ = some (.string t.name) := by rw [cell_of_row w2 _ 0 _ _ _ M1]; rfl
  have p1 : w2.cell? ⟨w.heap.size + 1, 1, none⟩ = some (.int .i64 t.due) := by rw [cell_of_row w2 _ 1 _ _ _ M1]; rfl
  have p2 : w2.cell? ⟨w.heap.size + 1, 2, none⟩ = some (.int .i64 t.turn) := by rw [cell_of_row w2 _ 2 _ _ _ M1]; rfl
  rw [← ET.out] at q2
  obtain ⟨F, hmp, hix⟩ := q2.mp
  have hF := hix.1 (names l').length t.name (by simp)
  have hmp1 : Mp w2.drew L2.mb ((names l').length + 1) F := by
    have : Mp w2.drew L2.mb (names l' ++ [t.name]).length F := hmp.same rfl
    simpa using this
  obtain ⟨u3, run3, m3, g3⟩ := mp_del hmp1 SN.out (by rw [hF]; rfl) 0
  have g3' : w2.grownBy u3 (some L2.mb) := ⟨g3.os, g3.tape, g3.output, g3.size, g3.block⟩
  have Q3 := q2.remap g3' m3 hix.pop (fun s hs => q2.sz s (List.mem_append_left _ hs)) (by have := q2.most.2; simp at this; omega)
  have f3 : ∀ j o, w.heap.size ≤ j → j < w.heap.size + 2 → w2.heap[j]? = some o → u3.heap[j]? = some o := fun j o h1 h2 h3 => (g3'.block j (Array.getElem?_eq_some_iff.1 h3).1 (fun e => n2 j h1 h2 (.inr (.inl (Option.some.inj e))))).trans h3
  have V0 := f3 _ _ (Nat.le_refl _) (by omega) M0
  have V1 := f3 _ _ (Nat.le_succ _) (by omega) M1
  have r0 : u3.cell? ⟨w.heap.size, 0, none⟩ = some (.string ⟨#[]⟩) := by rw [cell_of_row u3 _ 0 _ _ _ V0]; rfl
  have r1 : u3.cell? ⟨w.heap.size, 1, none⟩ = some (.int .i64 0) := by rw [cell_of_row u3 _ 1 _ _ _ V0]; rfl
  have r2 : u3.cell? ⟨w.heap.size, 2, none⟩ = some (.int .i64 0) := by rw [cell_of_row u3 _ 2 _ _ _ V0]; rfl
  have z0 : ∀ o, u3.frozen? ⟨w.heap.size, o, none⟩ = false := fun o => by simp [World.frozen?, V0]
  have y0 := z0 0
  have y1 := z0 1
  have y2 := z0 2
  have s0 : u3.cell? ⟨w.heap.size + 1, 0, none⟩ = some (.string t.name) := by rw [cell_of_row u3 _ 0 _ _ _ V1]; rfl
  have s1 : u3.cell? ⟨w.heap.size + 1, 1, none⟩ = some (.int .i64 t.due) := by rw [cell_of_row u3 _ 1 _ _ _ V1]; rfl
  have s2 : u3.cell? ⟨w.heap.size + 1, 2, none⟩ = some (.int .i64 t.turn) := by rw [cell_of_row u3 _ 2 _ _ _ V1]; rfl
  have V4 := hide (set3 (x' := .string t.name) (y' := .int .i64 t.due) (z' := .int .i64 t.turn) V0)
  have C3 : Chg L.M w1 u3 := hc2.grown g3' (fun j hj => m2 j (.inr (.inl (Option.some.inj hj).symm)))
  have FIN : Hid (HP w L (l.eraseIdx k) names (((u3.setCell ⟨w.heap.size, 0, none⟩ (.string t.name)).setCell ⟨w.heap.size, 1, none⟩ (.int .i64 t.due)).setCell ⟨w.heap.size, 2, none⟩ (.int .i64 t.turn))) := by
    refine ⟨l', hp, hhp, ?_⟩
    refine ⟨?_, L2, Q3.same (fun j hj => set3_far (fun e => n2 w.heap.size (Nat.le_refl _) (by omega) (e ▸ hj))), eQ, fun j hj => (m2 j hj).imp id (fun h => by rw [BB.out.2.1] at h; omega)⟩
    exact ((((Chg.of_below BB.out.1 L.M).trans C3 (fun k _ hk => hk)).setCell (p := ⟨w.heap.size, 0, none⟩) (.inr (Nat.le_refl _)) _).setCell (p := ⟨w.heap.size, 1, none⟩) (.inr (Nat.le_refl _)) _).setCell (p := ⟨w.heap.size, 2, none⟩) (.inr (Nat.le_refl _)) _
  have U3 := hide (rfl : u3 = u3)
  clear hp hhp hc2 q2 eQ m2 nL M0 M1 n2 hmp hix hF hmp1 m3 g3 g3' Q3 f3 V0 V1 z0 C3
  go_wp2_with fail
  go_cut [] from 6 (fun w5 => Hid (u3 = w5))
  case first =>
    go_region
    all_goals (go_wp2_with fail; go_meet; case rel => exact rfl)
  case rest =>
    obtain rfl := hcut.out
    go_wp2_with fail
    refine bodyPost_ret (v := tagg t) ?r ?d ?_
    case r => exact results_cell_row rfl _ _ w.heap.size 54 #[.string t.name, .int .i64 t.due, .int .i64 t.turn] (0, 0) _ rfl V4.out Try.underlying54 rfl (by kernel_rfl)
    case d => rfl
    exact ⟨rfl, FIN.out⟩
end Go.Proofs.Ytoganfdpaagomaa
