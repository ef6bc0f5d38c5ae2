/- The document's Show and Read. No condition. -/
import Derived.Test.YtfkclebngldjmaaDiskRefFall
namespace Go.Proofs.Ytfkclebngldjmaa
open Go.ChangeShapes Go.WideShapes Go.ChangeAt Go.RowKit B8 Dm
set_option linter.unusedVariables false

/-- 64 cells, loaded at one time -/
def ld64 (a : Addr) : Sem (Array Value) := loadCellsFrom a 0 64 #[]
theorem ld64_from (a : Addr) : loadCellsFrom a 0 64 #[] = ld64 a := rfl
theorem ld64_cells (a : Addr) : loadCells a 64 = ld64 a := rfl
theorem ldb {w : World} {N o : Nat} {bs : List Int} (h : w.rangeAt N o (vals bs)) (hl : bs.length = 64) : (ld64 ⟨N, o, none⟩).run Try.prog w = .ok (vals bs).toArray w := by
  have := run_loadCells_list (P := Try.prog) w ⟨N, o, none⟩ (vals bs) (fun j v hv => by rw [Addr.add_mid]; exact h j v hv)
  rw [vals_length, hl] at this
  exact this
/-- a block of zeros, made at one time -/
def zvB : Sem Value := zeroValue 71
theorem zvB_eq : zeroValue 71 = zvB := rfl
theorem rbzero : (Try.prog.info? 71).map (fun i => i.zero) = some (some (.agg (zrow 1))) := by kernel_rfl
theorem zvB_run (w : World) : zvB.run Try.prog w = .ok (.agg (zrow 1)) w := by
  have h := rbzero
  cases hi : Try.prog.info? 71 with
  | none => rw [hi] at h; cases h
  | some i =>
    rw [hi] at h
    simp only [Option.map_some, Option.some.injEq] at h
    simp [zvB, zeroValue, typeInfo, hi, h]
attribute [local go_sem ↓] ld64_from ld64_cells zvB_eq
theorem store64 {w : World} {g : Nat} {old : Array Value} {bs : List Int} (t : TypeId) (hg : w.heap[g]? = some (.cells old t (0, 0))) (ho : old.size = 64) (hl : bs.length = 64) : (storeCells ⟨g, 0, none⟩ (vals bs)).run Try.prog w = .ok () (w.setRow g (vals bs).toArray) := by
  have := run_storeCells_from (P := Try.prog) g t (vals bs) 0 old w hg (by rw [vals_length]; omega) (vals_one _)
  simpa using this

set_option maxRecDepth 100000 in
set_option maxHeartbeats 1000000 in
theorem show_any {w : World} {D gk ck m cv : Nat} {av : Option Addr} {s : Ds} (h : Rk w D gk ck av m cv s) (hm : m < 4000000000000) (at_ : Nat) (ha : at_ < s.n) :
    Calls Try.prog 47 #[.pointer (some ⟨D, 0, none⟩), .int .i64 at_] w fun e w' => e = .returned (.agg (vals (over s.kept s.ws at_)).toArray) ∧ Below w.heap.size w w' := by
  have K := hide h
  have c0 := h.c0
  have b1 : (0 : Int) ≤ (at_ : Int) := by omega
  have b2 : (at_ : Int) < (s.n : Int) := by omega
  have hzv := zvB_run
  obtain ⟨w1, e1⟩ : ∃ w1, w1 = w.alloc (.cells (zrow 1) 71) := ⟨_, rfl⟩
  have B1 : Hid (Below w.heap.size w w1) := by rw [e1]; exact below_alloc (Below.refl _ _) _
  have G1 : Hid (w1.heap[w.heap.size]? = some (.cells (zrow 1) 71 (0, 0))) := by rw [e1]; exact heap_alloc_new w _
  have S1 : Hid (w1.heap.size = w.heap.size + 1) := by rw [e1]; simp [Hid]
  have d0 : (w.alloc (.cells (zrow 1) 71)).cell? ⟨D, 0, none⟩ = some (.slice (some ⟨gk, 0, none⟩) s.n ck) := (World.cell?_alloc_lt w _ _ h.ltD).trans h.c0
  have LD : (ld64 ⟨gk, at_ * 64, none⟩).run Try.prog (w.alloc (.cells (zrow 1) 71)) = .ok (vals (s.kept at_)).toArray (w.alloc (.cells (zrow 1) 71)) := ldb (World.rangeAt_alloc (h.kept.cells at_ ha) _) (h.ok.kept at_ ha).1
  have VL : (vals (s.kept at_)).length = 64 := by rw [vals_length]; exact (h.ok.kept at_ ha).1
  have hst : (storeCells ⟨w.heap.size + 1, 0, none⟩ (vals (s.kept at_))).run Try.prog ((w.alloc (.cells (zrow 1) 71)).alloc (.cells (zrow 1) 71)) = .ok () ((w.alloc (.cells (zrow 1) 71)).alloc (.cells (vals (s.kept at_)).toArray 71)) := by
    have e5 : (w.alloc (.cells (zrow 1) 71)).heap.size = w.heap.size + 1 := by simp
    have := store64 (g := (w.alloc (.cells (zrow 1) 71)).heap.size) 71 (heap_alloc_new (w.alloc (.cells (zrow 1) 71)) (.cells (zrow 1) 71)) (by simp [zrow]) (h.ok.kept at_ ha).1
    rw [setRow_alloc, e5] at this
    exact this
  clear h
  go_enter Try.func47, Try.ntmps47
  go_wp2_with fail
  clear LD hst d0 c0 hzv VL e1 B1 G1 S1
  go_loopw [6] (fun i wr => ∃ k : Nat, k ≤ m ∧ i = .int .i64 k ∧ Hid (Below w.heap.size w wr) ∧ Hid (wr.heap[w.heap.size]? = some (.cells (zrow 1) 71 (0, 0))) ∧ Hid (wr.heap[w.heap.size + 1]? = some (.cells (vals (over s.kept (s.ws.take k) at_)).toArray 71 (0, 0)))) (fun i _ => m - (intOf i).toNat)
  case atStart =>
    refine ⟨0, by omega, rfl, below_alloc (below_alloc (Below.refl _ _) _) _, ?_, ?_⟩
    · show _ = _
      rw [heap_push_lt _ (by simp)]
      exact heap_alloc_new w _
    · show _ = _
      rw [show over s.kept (s.ws.take 0) at_ = s.kept at_ from rfl]
      have := heap_alloc_new (w.alloc (.cells (zrow 1) 71)) (.cells (vals (s.kept at_)).toArray 71)
      simpa using this
  case round =>
    obtain ⟨k, hk, rfl, HB, H0, H1⟩ := hrel
    have z1 : wr.cell? ⟨D, 1, none⟩ = some (.slice av m cv) := (HB.out.cell (p := ⟨D, 1, none⟩) K.out.ltD).trans K.out.c1
    by_cases hlt : k < m
    · obtain ⟨gw, cp', ev, _, ltw⟩ := K.out.ws.form (by omega)
      obtain ⟨rfl, rfl⟩ : av = some ⟨gw, 0, none⟩ ∧ cv = cp' := by simpa using ev
      obtain ⟨x, hx⟩ : ∃ x, s.ws[k]? = some x := ⟨_, List.getElem?_eq_getElem (by rw [← K.out.len]; omega)⟩
      have HX := hide hx
      have hmem := K.out.ok.ws x (List.mem_of_getElem? hx)
      have RA := hide (rangeAt_same (row_at K.out.ws (fun y hy => (K.out.ok.ws y hy).2.1) hx) (HB.out.block gw ltw))
      have x0 : wr.cell? ⟨gw, k * 65, none⟩ = some (.int .i64 x.1) := RA.out 0 _ rfl
      have RD : Hid (wr.rangeAt gw (k * 65 + 1) (vals x.2)) := fun j v hv => by
        have := RA.out (j + 1) v (by simpa [wcell] using hv)
        rw [show k * 65 + (j + 1) = k * 65 + 1 + j by omega] at this
        exact this
      have BX : Hid (Blk x.2) := hmem.2
      have OB : Hid ((over s.kept (s.ws.take k) at_).length = 64) := (over_blk (n := s.n) _ K.out.ok.kept (fun y hy => (K.out.ok.ws y (List.mem_of_mem_take hy)).2) at_ ha).1
      have i3 : (k : Int) < (m : Int) := by omega
      have i4 : (0 : Int) ≤ (k : Int) := by omega
      have TK : Hid (over s.kept (s.ws.take (k + 1)) at_ = if at_ = x.1 then x.2 else over s.kept (s.ws.take k) at_) := by show _ = _; rw [take_snoc hx, over_snoc]; rfl
      clear hx ev hmem
      by_cases he : x.1 = at_
      · have e1 : ((x.1 : Int) == (at_ : Int)) = true := by simp; omega
        have LD := ldb RD.out BX.out.1
        have hst := store64 (bs := x.2) 71 H1.out (by simp [vals, OB.out]) BX.out.1
        have VL : (vals x.2).length = 64 := by rw [vals_length]; exact BX.out.1
        go_wp2_with fail
        go_roundw
        case rel =>
          refine ⟨k + 1, by omega, by go_num, below_setRow HB.out (by omega) _, ?_, ?_⟩
          · show _ = _
            rw [setRow_other wr _ _ _ (by omega)]
            exact H0.out
          · show _ = _
            rw [TK.out, if_pos he.symm]
            exact setRow_heap wr _ _ _ _ _ H1.out
        case measure => simp [intOf]; omega
      · have e1 : ((x.1 : Int) == (at_ : Int)) = false := by simp; omega
        go_wp2_with fail
        go_roundw
        case rel =>
          refine ⟨k + 1, by omega, by go_num, HB, H0, ?_⟩
          show _ = _
          rw [TK.out, if_neg (fun e => he e.symm)]
          exact H1.out
        case measure => simp [intOf]; omega
    · obtain rfl : k = m := by omega
      have TK : Hid (s.ws.take k = s.ws) := by show _ = _; rw [K.out.len]; exact List.take_length
      rw [TK.out] at H1
      have OB : Hid ((over s.kept s.ws at_).length = 64) := (K.out.ok.shown at_ ha).1
      have LD : (ld64 ⟨w.heap.size + 1, 0, none⟩).run Try.prog wr = .ok (vals (over s.kept s.ws at_)).toArray wr := ldb (fun j v hv => by rw [Nat.zero_add, cell_of_row wr _ j _ _ _ H1.out]; simpa using hv) OB.out
      have hst := store64 (bs := over s.kept s.ws at_) 71 H0.out (by simp [zrow]) OB.out
      have VL : (vals (over s.kept s.ws at_)).length = 64 := by rw [vals_length]; exact OB.out
      generalize hbs : over s.kept s.ws at_ = bs at *
      have HBS := hide hbs
      clear hbs
      go_wp2_with fail
      refine bodyPost_ret (v := .agg (vals bs).toArray) ?r rfl ⟨by rw [HBS.out], below_setRow HB.out (Nat.le_refl _) _⟩
      case r => exact results_cell_row rfl _ _ w.heap.size 71 (vals bs).toArray (0, 0) _ rfl (setRow_heap wr _ _ _ _ _ H0.out) Try.underlying71 rfl (by rw [List.size_toArray, VL]; kernel_rfl)
theorem rread_yes {w : World} {D : Nat} {s : Ds} {L : Nat → Prop} (h : Rsk w D s L) (hr : s.ws.length < 4000000000000) (at_ : Nat) (hd : s.down = false) (ha : at_ < s.n) :
    Calls Try.prog 29 #[.pointer (some ⟨D, 0, none⟩), .int .i64 at_] w fun e w' => ∃ g, e = .returned (.tuple #[.slice (some ⟨g, 0, none⟩) 64 64, .int .i64 0]) ∧ Below w.heap.size w w' ∧ w'.heap[g]? = some (.cells (vals (over s.kept s.ws at_)).toArray 71 (0, 0)) ∧ w.heap.size ≤ g := by
  obtain ⟨gk, ck, av, m, cv, h, hl⟩ := h
  have c0 := h.c0
  have c3 := h.c3
  rw [hd] at c3
  have C := hide (show_any h (by rw [h.len]; exact hr) at_ ha)
  have a1 : ¬ ((at_ : Int) < 0) := by omega
  have a2 : (at_ : Int) < (s.n : Int) := by omega
  have OB : Hid ((over s.kept s.ws at_).length = 64) := (h.ok.shown at_ ha).1
  have hzv := zvB_run
  clear h hl hd hr
  generalize over s.kept s.ws at_ = bs at *
  have VL : (vals bs).length = 64 := by rw [vals_length]; exact OB.out
  have hst : ∀ u : World, (storeCells ⟨u.heap.size, 0, none⟩ (vals bs)).run Try.prog (u.alloc (.cells (zrow 1) 71)) = .ok () (u.alloc (.cells (vals bs).toArray 71)) := fun u => by
    have := store64 (bs := bs) (g := u.heap.size) 71 (heap_alloc_new u (.cells (zrow 1) 71)) (by simp [zrow]) OB.out
    rw [setRow_alloc] at this
    exact this
  go_enter Try.func29, Try.ntmps29
  go_wp2_with fail
  refine C.out.mono ?_
  rintro e w1 ⟨rfl, hb⟩
  have B1 := hide hb
  clear hb
  go_wp2_with fail
  go_ret2
  exact ⟨_, rfl, below_alloc B1.out _, heap_alloc_new w1 _, B1.out.size⟩
theorem rread_no {w : World} {D : Nat} {s : Ds} {L : Nat → Prop} (h : Rsk w D s L) (at_ : Int) (h0 : reachE s at_ ≠ 0) :
    Calls Try.prog 29 #[.pointer (some ⟨D, 0, none⟩), .int .i64 at_] w fun e w' => e = .returned (.tuple #[.slice none 0 0, .int .i64 (reachE s at_)]) ∧ w' = w := by
  obtain ⟨gk, ck, av, m, cv, h, hl⟩ := h
  have c0 := h.c0
  have c3 := h.c3
  clear h hl
  cases hd : s.down with
  | true =>
    rw [hd] at c3
    have e3 : Hid (reachE s at_ = 40) := by show _ = _; unfold reachE; rw [hd]; rfl
    clear h0 hd
    go_enter Try.func29, Try.ntmps29
    go_wp2_with fail
    go_ret2
    rw [e3.out]
    exact ⟨rfl, rfl⟩
  | false =>
    rw [hd] at c3
    have e3 : Hid (reachE s at_ = 41) := by
      show _ = _
      unfold reachE at h0 ⊢
      rw [hd] at h0 ⊢
      simp at h0 ⊢
      omega
    by_cases a1 : at_ < 0
    · clear h0 hd
      go_enter Try.func29, Try.ntmps29
      go_wp2_with fail
      go_ret2
      rw [e3.out]
      exact ⟨rfl, rfl⟩
    · have a2 : (s.n : Int) ≤ at_ := by
        unfold reachE at h0
        rw [hd] at h0
        simp at h0
        omega
      clear h0 hd
      go_enter Try.func29, Try.ntmps29
      go_wp2_with fail
      go_ret2
      rw [e3.out]
      exact ⟨rfl, rfl⟩
end Go.Proofs.Ytfkclebngldjmaa
