/- How things that came in by value read: their plain fields. No condition. -/
import Derived.Test.YtfdejkfbjmkngabCodecOpen
import Derived.Test.YtfdejkfbjmkngabWireTop
import Derived.SizedLaws
namespace Go.Proofs.Ytfdejkfbjmkngab
open Go.ChangeShapes Go.WideShapes Go.ChangeAt Go.RowKit B8 Cm Wm
set_option linter.unusedVariables false
set_option maxRecDepth 100000

/-- a row of cells that holds these plain fields, as a list -/
def FlatL (w : World) (cs : List Value) (xs : List Atom) : Prop := cs.length = xs.length ∧ ∀ (j : Nat) (x : Atom), xs[j]? = some x → ∃ v, cs[j]? = some v ∧ AtomV w (fun b => b < w.heap.size) v x
theorem fl_cons {w : World} {cs : List Value} {o n : Nat} {xs ys : List Atom} (h : FlatL w ((cs.drop o).take n) xs) (g : FlatL w (cs.drop (o + n)) ys) (hl : o + n ≤ cs.length) : FlatL w (cs.drop o) (xs ++ ys) := by
  have hn : ((cs.drop o).take n).length = n := by simp; omega
  have e : cs.drop o = (cs.drop o).take n ++ cs.drop (o + n) := by rw [← List.drop_drop]; exact (List.take_append_drop n (cs.drop o)).symm
  have hx : xs.length = n := by rw [← h.1, hn]
  refine ⟨by rw [e, List.length_append, List.length_append, h.1, g.1], fun j x hj => ?_⟩
  by_cases hjn : j < xs.length
  · rw [List.getElem?_append_left hjn] at hj
    obtain ⟨v, h1, h2⟩ := h.2 j x hj
    exact ⟨v, by rw [e, List.getElem?_append_left (by omega)]; exact h1, h2⟩
  · rw [List.getElem?_append_right (by omega)] at hj
    obtain ⟨v, h1, h2⟩ := g.2 _ x hj
    exact ⟨v, by rw [e, List.getElem?_append_right (by omega), hn]; rw [hx] at h1; exact h1, h2⟩
theorem fl_end {w : World} {cs : List Value} {o n : Nat} {xs : List Atom} (h : FlatL w ((cs.drop o).take n) xs) (hl : cs.length = o + n) : FlatL w (cs.drop o) xs := by
  rw [List.take_of_length_le (by simp; omega)] at h
  exact h
theorem fl_one {w : World} {v : Value} {x : Atom} (h : AtomV w (fun b => b < w.heap.size) v x) : FlatL w [v] [x] := ⟨rfl, fun j y hy => by
  match j, hy with
  | 0, hy => exact ⟨v, rfl, by simp at hy; rw [← hy]; exact h⟩⟩

/-- what is read is within the row's own bounds -/
def Light {H : Type} (t : TypeId) (d : DataW H) : Prop := ∀ n ∈ d.weights Try.prog t, n ≤ reachBytes
section
variable {H : Type} {enc : TypeId × Value → H} {W : World} {b0 : Nat} {held : Bool} {m : Nat} {cs : List Value} {y : DataW H × List MemPlace}
theorem rd_struct {t : TypeId} {fs : Array Field} (hu : Try.prog.underlying t = some (.struct fs)) (h : DataW.trod enc Try.prog W b0 (fun _ => true) held m t cs = some y) (hl : Light t y.1) :
    ∃ k, cs.length = Try.prog.cellsOf t ∧ ∀ (i : Nat) (f : Field), fs[i]? = some f → ∃ z : DataW H × List MemPlace, DataW.trod enc Try.prog W b0 (fun _ => true) held k f.type ((cs.drop f.offset).take (Try.prog.cellsOf f.type)) = some z ∧ Light f.type z.1 := by
  obtain ⟨xs, k, rfl, hy, hc, hx, hf⟩ := DataW.trod_struct hu h
  refine ⟨k, hc, fun i f hi => ?_⟩
  have hlt : i < xs.length := by rw [hx]; exact (Array.getElem?_eq_some_iff.1 hi).1
  refine ⟨xs[i], by rw [hf i f hi]; exact List.getElem?_eq_getElem hlt, fun n hn => hl n ?_⟩
  rw [hy]
  show n ∈ DataW.weights Try.prog t (.agg (xs.map (·.1)))
  simp only [DataW.weights, hu]
  exact DataW.weights_mem_each (j := i) (t := f.type) (d := xs[i].1) (by rw [List.getElem?_map]; simp [hi]) (by rw [List.getElem?_map, List.getElem?_eq_getElem hlt]; rfl) n hn
theorem rd_int {t : TypeId} (hu : Try.prog.underlying t = some (.int .i64)) (h : DataW.trod enc Try.prog W b0 (fun _ => true) held m t cs = some y) : ∃ x : Atom, FlatL W cs [x] ∧ x.k = 0 := by
  obtain ⟨n, rfl, _, hw⟩ := DataW.trod_int hu h
  exact ⟨⟨0, n, []⟩, fl_one (.inl ⟨rfl, rfl, bounds_i64 hw⟩), rfl⟩
theorem rd_u32 {t : TypeId} (hu : Try.prog.underlying t = some (.int .u32)) (h : DataW.trod enc Try.prog W b0 (fun _ => true) held m t cs = some y) : ∃ x : Atom, FlatL W cs [x] ∧ x.k = 1 := by
  obtain ⟨n, rfl, _, hw⟩ := DataW.trod_int hu h
  exact ⟨⟨1, n, []⟩, fl_one (.inr (.inl ⟨rfl, rfl, bounds_u32 hw⟩)), rfl⟩
theorem rd_bool {t : TypeId} (hu : Try.prog.underlying t = some .bool) (h : DataW.trod enc Try.prog W b0 (fun _ => true) held m t cs = some y) : ∃ x : Atom, FlatL W cs [x] ∧ x.k = 2 := by
  obtain ⟨b, rfl, _⟩ := DataW.trod_bool hu h
  cases b
  · exact ⟨⟨2, 0, []⟩, fl_one (.inr (.inr (.inl ⟨rfl, .inr ⟨rfl, rfl⟩⟩))), rfl⟩
  · exact ⟨⟨2, 1, []⟩, fl_one (.inr (.inr (.inl ⟨rfl, .inl ⟨rfl, rfl⟩⟩))), rfl⟩
theorem rd_str {t : TypeId} (hu : Try.prog.underlying t = some .string) (h : DataW.trod enc Try.prog W b0 (fun _ => true) held m t cs = some y) (hl : Light t y.1) : ∃ x : Atom, FlatL W cs [x] ∧ x.k = 3 := by
  obtain ⟨s, rfl, rfl, _⟩ := DataW.trod_string hu h
  have := hl s.data.toList.length (by simp [DataW.weights])
  refine ⟨⟨3, 0, strB s⟩, fl_one (.inr (.inr (.inr (.inl ⟨rfl, s, rfl, rfl, ?_⟩)))), rfl⟩
  show (strB s).length ≤ _
  unfold strB
  rw [List.length_map]
  exact this
theorem rd_bytes (h : DataW.trod enc Try.prog W b0 (fun _ => true) held m 22 cs = some y) (hl : Light 22 y.1) : ∃ x : Atom, FlatL W cs [x] ∧ x.k = 4 := by
  rcases open_ints Try.underlying22 Try.underlying5 (by kernel_rfl) h with ⟨rfl, _⟩ | ⟨a, len, cap, zs, rfl, _, hlc, _, hz, hy, hcell, hwz⟩
  · exact ⟨⟨4, 0, []⟩, fl_one (.inr (.inr (.inr (.inr ⟨rfl, none, 0, 0, rfl, ⟨rfl, Nat.le_refl _, fun _ => rfl, fun h => absurd h (by omega), wfs_nil⟩, by omega, fun b off e => by cases e⟩)))), rfl⟩
  · simp only [if_true] at hz
    have hw : (zs.length) * 1 ≤ reachBytes := by
      refine hl _ ?_
      rw [hy]
      show _ ∈ DataW.weights Try.prog 22 (.slice _ _)
      simp only [DataW.weights, Try.underlying22]
      rw [show Try.prog.bytesOf 5 = 1 from by kernel_rfl]
      refine List.mem_cons.2 (.inl ?_)
      simp [lits]
      omega
    have hq : Sq W (some a) len cap (zs.take len) := by
      refine ⟨by simp; omega, hlc, fun h => absurd h (by simp), fun h0 => ?_, ?_⟩
      · obtain ⟨b, off, spot⟩ := a
        have hc0 := hcell 0 (by omega)
        have hspot : spot = none := by simpa [Addr.add] using World.cell?_spot hc0
        subst hspot
        refine ⟨b, off, rfl, fun j hj => ?_⟩
        have := hcell j (by omega)
        rw [Addr.add_lit] at this
        simpa [List.getElem?_take, hj, List.getD] using this
      · intro j
        by_cases hj : j < (zs.take len).length
        · have hm : (zs.take len)[j] ∈ zs := List.mem_of_mem_take (List.getElem_mem hj)
          rw [List.getElem?_eq_getElem hj]; exact hwz _ hm
        · rw [List.getElem?_eq_none (Nat.le_of_not_lt hj)]
          decide
    refine ⟨⟨4, 0, zs.take len⟩, fl_one (.inr (.inr (.inr (.inr ⟨rfl, some a, len, cap, rfl, hq, ?_, fun b off e h0 => ?_⟩)))), rfl⟩
    · have : reachBytes = 140737488351232 := by decide
      omega
    · obtain ⟨b', off', e', hc⟩ := hq.cells h0
      rw [e] at e'
      cases e'
      exact World.block_lt_of_cell? W _ (hc 0 h0)
end

theorem cells_op : Try.prog.cellsOf 25 = 6 := by kernel_rfl
theorem rd_op {H : Type} {enc : TypeId × Value → H} {W : World} {b0 : Nat} {held : Bool} {m : Nat} {cs : List Value} {y : DataW H × List MemPlace} (h : DataW.trod enc Try.prog W b0 (fun _ => true) held m 25 cs = some y) (hl : Light 25 y.1) : ∃ xs : List Atom, FlatL W cs xs ∧ xs.map Atom.k = [0, 3, 3, 0, 0, 0] := by
  obtain ⟨k, hc, hf⟩ := rd_struct Try.underlying25 h hl
  rw [cells_op] at hc
  obtain ⟨z0, t0, g0⟩ := hf 0 _ rfl
  obtain ⟨x0, f0, k0⟩ := rd_int Try.underlying3 t0
  have f0 : FlatL W ((cs.drop 0).take 1) [x0] := f0
  obtain ⟨z1, t1, g1⟩ := hf 1 _ rfl
  obtain ⟨x1, f1, k1⟩ := rd_str Try.underlying9 t1 g1
  have f1 : FlatL W ((cs.drop 1).take 1) [x1] := f1
  obtain ⟨z2, t2, g2⟩ := hf 2 _ rfl
  obtain ⟨x2, f2, k2⟩ := rd_str Try.underlying9 t2 g2
  have f2 : FlatL W ((cs.drop 2).take 1) [x2] := f2
  obtain ⟨z3, t3, g3⟩ := hf 3 _ rfl
  obtain ⟨x3, f3, k3⟩ := rd_int Try.underlying3 t3
  have f3 : FlatL W ((cs.drop 3).take 1) [x3] := f3
  obtain ⟨z4, t4, g4⟩ := hf 4 _ rfl
  obtain ⟨x4, f4, k4⟩ := rd_int Try.underlying3 t4
  have f4 : FlatL W ((cs.drop 4).take 1) [x4] := f4
  obtain ⟨z5, t5, g5⟩ := hf 5 _ rfl
  obtain ⟨x5, f5, k5⟩ := rd_int Try.underlying3 t5
  have f5 : FlatL W ((cs.drop 5).take 1) [x5] := f5
  have e5 := fl_end (o := 5) f5 hc
  have e4 := fl_cons (o := 4) (n := 1) f4 e5 (by omega)
  have e3 := fl_cons (o := 3) (n := 1) f3 e4 (by omega)
  have e2 := fl_cons (o := 2) (n := 1) f2 e3 (by omega)
  have e1 := fl_cons (o := 1) (n := 1) f1 e2 (by omega)
  have e0 := fl_cons (o := 0) (n := 1) f0 e1 (by omega)
  rw [List.drop_zero] at e0
  exact ⟨_, e0, by simp [k0, k1, k2, k3, k4, k5]⟩

theorem cells_plan : Try.prog.cellsOf 27 = 7 := by kernel_rfl
theorem rd_plan {H : Type} {enc : TypeId × Value → H} {W : World} {b0 : Nat} {held : Bool} {m : Nat} {cs : List Value} {y : DataW H × List MemPlace} (h : DataW.trod enc Try.prog W b0 (fun _ => true) held m 27 cs = some y) (hl : Light 27 y.1) : ∃ xs : List Atom, FlatL W cs xs ∧ xs.map Atom.k = [0, 0, 0, 3, 3, 0, 0] := by
  obtain ⟨k, hc, hf⟩ := rd_struct Try.underlying27 h hl
  rw [cells_plan] at hc
  obtain ⟨z0, t0, g0⟩ := hf 0 _ rfl
  obtain ⟨x0, f0, k0⟩ := rd_int Try.underlying3 t0
  have f0 : FlatL W ((cs.drop 0).take 1) [x0] := f0
  obtain ⟨z1, t1, g1⟩ := hf 1 _ rfl
  obtain ⟨x1, f1, k1⟩ := rd_int Try.underlying3 t1
  have f1 : FlatL W ((cs.drop 1).take 1) [x1] := f1
  obtain ⟨z2, t2, g2⟩ := hf 2 _ rfl
  obtain ⟨x2, f2, k2⟩ := rd_int Try.underlying3 t2
  have f2 : FlatL W ((cs.drop 2).take 1) [x2] := f2
  obtain ⟨z3, t3, g3⟩ := hf 3 _ rfl
  obtain ⟨x3, f3, k3⟩ := rd_str Try.underlying9 t3 g3
  have f3 : FlatL W ((cs.drop 3).take 1) [x3] := f3
  obtain ⟨z4, t4, g4⟩ := hf 4 _ rfl
  obtain ⟨x4, f4, k4⟩ := rd_str Try.underlying9 t4 g4
  have f4 : FlatL W ((cs.drop 4).take 1) [x4] := f4
  obtain ⟨z5, t5, g5⟩ := hf 5 _ rfl
  obtain ⟨x5, f5, k5⟩ := rd_int Try.underlying3 t5
  have f5 : FlatL W ((cs.drop 5).take 1) [x5] := f5
  obtain ⟨z6, t6, g6⟩ := hf 6 _ rfl
  obtain ⟨x6, f6, k6⟩ := rd_int Try.underlying3 t6
  have f6 : FlatL W ((cs.drop 6).take 1) [x6] := f6
  have e6 := fl_end (o := 6) f6 hc
  have e5 := fl_cons (o := 5) (n := 1) f5 e6 (by omega)
  have e4 := fl_cons (o := 4) (n := 1) f4 e5 (by omega)
  have e3 := fl_cons (o := 3) (n := 1) f3 e4 (by omega)
  have e2 := fl_cons (o := 2) (n := 1) f2 e3 (by omega)
  have e1 := fl_cons (o := 1) (n := 1) f1 e2 (by omega)
  have e0 := fl_cons (o := 0) (n := 1) f0 e1 (by omega)
  rw [List.drop_zero] at e0
  exact ⟨_, e0, by simp [k0, k1, k2, k3, k4, k5, k6]⟩

theorem cells_command : Try.prog.cellsOf 29 = 25 := by kernel_rfl
theorem rd_command {H : Type} {enc : TypeId × Value → H} {W : World} {b0 : Nat} {held : Bool} {m : Nat} {cs : List Value} {y : DataW H × List MemPlace} (h : DataW.trod enc Try.prog W b0 (fun _ => true) held m 29 cs = some y) (hl : Light 29 y.1) : ∃ xs : List Atom, FlatL W cs xs ∧ xs.map Atom.k = [0, 0, 0, 0, 0, 0, 3, 0, 0, 0, 2, 0, 3, 3, 0, 0, 0, 0, 0, 0, 3, 3, 0, 0, 4] := by
  obtain ⟨k, hc, hf⟩ := rd_struct Try.underlying29 h hl
  rw [cells_command] at hc
  obtain ⟨z0, t0, g0⟩ := hf 0 _ rfl
  obtain ⟨x0, f0, k0⟩ := rd_int Try.underlying3 t0
  have f0 : FlatL W ((cs.drop 0).take 1) [x0] := f0
  obtain ⟨z1, t1, g1⟩ := hf 1 _ rfl
  obtain ⟨x1, f1, k1⟩ := rd_int Try.underlying3 t1
  have f1 : FlatL W ((cs.drop 1).take 1) [x1] := f1
  obtain ⟨z2, t2, g2⟩ := hf 2 _ rfl
  obtain ⟨x2, f2, k2⟩ := rd_int Try.underlying3 t2
  have f2 : FlatL W ((cs.drop 2).take 1) [x2] := f2
  obtain ⟨z3, t3, g3⟩ := hf 3 _ rfl
  obtain ⟨x3, f3, k3⟩ := rd_int Try.underlying3 t3
  have f3 : FlatL W ((cs.drop 3).take 1) [x3] := f3
  obtain ⟨z4, t4, g4⟩ := hf 4 _ rfl
  obtain ⟨x4, f4, k4⟩ := rd_int Try.underlying3 t4
  have f4 : FlatL W ((cs.drop 4).take 1) [x4] := f4
  obtain ⟨z5, t5, g5⟩ := hf 5 _ rfl
  obtain ⟨x5, f5, k5⟩ := rd_int Try.underlying3 t5
  have f5 : FlatL W ((cs.drop 5).take 1) [x5] := f5
  obtain ⟨z6, t6, g6⟩ := hf 6 _ rfl
  obtain ⟨x6, f6, k6⟩ := rd_str Try.underlying9 t6 g6
  have f6 : FlatL W ((cs.drop 6).take 1) [x6] := f6
  obtain ⟨z7, t7, g7⟩ := hf 7 _ rfl
  obtain ⟨x7, f7, k7⟩ := rd_int Try.underlying3 t7
  have f7 : FlatL W ((cs.drop 7).take 1) [x7] := f7
  obtain ⟨z8, t8, g8⟩ := hf 8 _ rfl
  obtain ⟨x8, f8, k8⟩ := rd_int Try.underlying3 t8
  have f8 : FlatL W ((cs.drop 8).take 1) [x8] := f8
  obtain ⟨z9, t9, g9⟩ := hf 9 _ rfl
  obtain ⟨x9, f9, k9⟩ := rd_int Try.underlying3 t9
  have f9 : FlatL W ((cs.drop 9).take 1) [x9] := f9
  obtain ⟨z10, t10, g10⟩ := hf 10 _ rfl
  obtain ⟨x10, f10, k10⟩ := rd_bool Try.underlying4 t10
  have f10 : FlatL W ((cs.drop 10).take 1) [x10] := f10
  obtain ⟨z11, t11, g11⟩ := hf 11 _ rfl
  obtain ⟨x11, f11, k11⟩ := rd_op t11 g11
  have f11 : FlatL W ((cs.drop 11).take 6) x11 := by have h9 : FlatL W ((cs.drop 11).take (Try.prog.cellsOf 25)) x11 := f11; rw [cells_op] at h9; exact h9
  obtain ⟨z12, t12, g12⟩ := hf 12 _ rfl
  obtain ⟨x12, f12, k12⟩ := rd_plan t12 g12
  have f12 : FlatL W ((cs.drop 17).take 7) x12 := by have h9 : FlatL W ((cs.drop 17).take (Try.prog.cellsOf 27)) x12 := f12; rw [cells_plan] at h9; exact h9
  obtain ⟨z13, t13, g13⟩ := hf 13 _ rfl
  obtain ⟨x13, f13, k13⟩ := rd_bytes t13 g13
  have f13 : FlatL W ((cs.drop 24).take 1) [x13] := f13
  have e13 := fl_end (o := 24) f13 hc
  have e12 := fl_cons (o := 17) (n := 7) f12 e13 (by omega)
  have e11 := fl_cons (o := 11) (n := 6) f11 e12 (by omega)
  have e10 := fl_cons (o := 10) (n := 1) f10 e11 (by omega)
  have e9 := fl_cons (o := 9) (n := 1) f9 e10 (by omega)
  have e8 := fl_cons (o := 8) (n := 1) f8 e9 (by omega)
  have e7 := fl_cons (o := 7) (n := 1) f7 e8 (by omega)
  have e6 := fl_cons (o := 6) (n := 1) f6 e7 (by omega)
  have e5 := fl_cons (o := 5) (n := 1) f5 e6 (by omega)
  have e4 := fl_cons (o := 4) (n := 1) f4 e5 (by omega)
  have e3 := fl_cons (o := 3) (n := 1) f3 e4 (by omega)
  have e2 := fl_cons (o := 2) (n := 1) f2 e3 (by omega)
  have e1 := fl_cons (o := 1) (n := 1) f1 e2 (by omega)
  have e0 := fl_cons (o := 0) (n := 1) f0 e1 (by omega)
  rw [List.drop_zero] at e0
  exact ⟨_, e0, by simp [k0, k1, k2, k3, k4, k5, k6, k7, k8, k9, k10, k11, k12, k13]⟩

theorem cells_ballot : Try.prog.cellsOf 47 = 2 := by kernel_rfl
theorem rd_ballot {H : Type} {enc : TypeId × Value → H} {W : World} {b0 : Nat} {held : Bool} {m : Nat} {cs : List Value} {y : DataW H × List MemPlace} (h : DataW.trod enc Try.prog W b0 (fun _ => true) held m 47 cs = some y) (hl : Light 47 y.1) : ∃ xs : List Atom, FlatL W cs xs ∧ xs.map Atom.k = [0, 0] := by
  obtain ⟨k, hc, hf⟩ := rd_struct Try.underlying47 h hl
  rw [cells_ballot] at hc
  obtain ⟨z0, t0, g0⟩ := hf 0 _ rfl
  obtain ⟨x0, f0, k0⟩ := rd_int Try.underlying3 t0
  have f0 : FlatL W ((cs.drop 0).take 1) [x0] := f0
  obtain ⟨z1, t1, g1⟩ := hf 1 _ rfl
  obtain ⟨x1, f1, k1⟩ := rd_int Try.underlying3 t1
  have f1 : FlatL W ((cs.drop 1).take 1) [x1] := f1
  have e1 := fl_end (o := 1) f1 hc
  have e0 := fl_cons (o := 0) (n := 1) f0 e1 (by omega)
  rw [List.drop_zero] at e0
  exact ⟨_, e0, by simp [k0, k1]⟩



theorem cells_right : Try.prog.cellsOf 53 = 4 := by kernel_rfl
theorem rd_right {H : Type} {enc : TypeId × Value → H} {W : World} {b0 : Nat} {held : Bool} {m : Nat} {cs : List Value} {y : DataW H × List MemPlace} (h : DataW.trod enc Try.prog W b0 (fun _ => true) held m 53 cs = some y) (hl : Light 53 y.1) : ∃ xs : List Atom, FlatL W cs xs ∧ xs.map Atom.k = [0, 3, 0, 0] := by
  obtain ⟨k, hc, hf⟩ := rd_struct Try.underlying53 h hl
  rw [cells_right] at hc
  obtain ⟨z0, t0, g0⟩ := hf 0 _ rfl
  obtain ⟨x0, f0, k0⟩ := rd_int Try.underlying3 t0
  have f0 : FlatL W ((cs.drop 0).take 1) [x0] := f0
  obtain ⟨z1, t1, g1⟩ := hf 1 _ rfl
  obtain ⟨x1, f1, k1⟩ := rd_str Try.underlying9 t1 g1
  have f1 : FlatL W ((cs.drop 1).take 1) [x1] := f1
  obtain ⟨z2, t2, g2⟩ := hf 2 _ rfl
  obtain ⟨x2, f2, k2⟩ := rd_int Try.underlying3 t2
  have f2 : FlatL W ((cs.drop 2).take 1) [x2] := f2
  obtain ⟨z3, t3, g3⟩ := hf 3 _ rfl
  obtain ⟨x3, f3, k3⟩ := rd_int Try.underlying3 t3
  have f3 : FlatL W ((cs.drop 3).take 1) [x3] := f3
  have e3 := fl_end (o := 3) f3 hc
  have e2 := fl_cons (o := 2) (n := 1) f2 e3 (by omega)
  have e1 := fl_cons (o := 1) (n := 1) f1 e2 (by omega)
  have e0 := fl_cons (o := 0) (n := 1) f0 e1 (by omega)
  rw [List.drop_zero] at e0
  exact ⟨_, e0, by simp [k0, k1, k2, k3]⟩



theorem open_command_held {H : Type} {enc : TypeId × Value → H} {W : World} {r : Reach} {base b0 : Nat} {held : Bool} {v : Value} {d : DataW H} {p : List MemPlace}
    (hv : Value.okWide Try.prog W r base 29 v) (h : DataW.Trod enc Try.prog W b0 (fun _ => true) held 29 v d p) (hl : Light 29 d) :
    ∃ (cs : Array Value) (xs : List Atom), v = .agg cs ∧ Vals W (fun b => b < W.heap.size) cs xs ∧ xs.map Atom.k = [0, 0, 0, 0, 0, 0, 3, 0, 0, 0, 2, 0, 3, 3, 0, 0, 0, 0, 0, 0, 3, 3, 0, 0, 4] := by
  obtain ⟨cs, rfl, hsz⟩ := okWide_struct Try.underlying29 hv
  obtain ⟨m, hm⟩ := h
  obtain ⟨xs, hx, hk⟩ := rd_command hm hl
  refine ⟨cs, xs, rfl, ⟨by have := hx.1; simpa [Value.cells] using this, fun j x hj => ?_⟩, hk⟩
  obtain ⟨v, h1, h2⟩ := hx.2 j x hj
  exact ⟨v, by simpa [Value.cells] using h1, h2⟩


end Go.Proofs.Ytfdejkfbjmkngab
