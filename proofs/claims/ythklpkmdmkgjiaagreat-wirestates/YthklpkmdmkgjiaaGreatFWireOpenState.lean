/- How a state that came in by value reads: its plain fields and its lists. No condition. -/
import Derived.Test.YthklpkmdmkgjiaaGreatFWireOpenList
import Derived.Test.YthklpkmdmkgjiaaGreatFWireStateVal
import Derived.Deep.Slices
namespace Go.Proofs.YthklpkmdmkgjiaaGreat
open Go.ChangeShapes Go.WideShapes Go.ChangeAt Go.RowKit B8 Cm Wm
set_option linter.unusedVariables false
set_option maxRecDepth 100000

theorem cells_holder : Tryz.prog.cellsOf 146 = 4 := by kernel_rfl
theorem rd_holder {H : Type} {enc : TypeId × Value → H} {W : World} {b0 : Nat} {held : Bool} {m : Nat} {cs : List Value} {y : DataW H × List MemPlace} (h : DataW.trod enc Tryz.prog W b0 (fun _ => true) held m 146 cs = some y) (hl : Light 146 y.1) : ∃ xs : List Atom, FlatL W cs xs ∧ xs.map Atom.k = [0, 0, 0, 0] := by
  obtain ⟨k, hc, hf⟩ := rd_struct Tryz.underlying146 h hl
  rw [cells_holder] at hc
  obtain ⟨z0, t0, g0⟩ := hf 0 _ rfl
  obtain ⟨x0, f0, k0⟩ := rd_int Tryz.underlying3 t0
  have f0 : FlatL W ((cs.drop 0).take 1) [x0] := f0
  obtain ⟨z1, t1, g1⟩ := hf 1 _ rfl
  obtain ⟨x1, f1, k1⟩ := rd_int Tryz.underlying3 t1
  have f1 : FlatL W ((cs.drop 1).take 1) [x1] := f1
  obtain ⟨z2, t2, g2⟩ := hf 2 _ rfl
  obtain ⟨x2, f2, k2⟩ := rd_int Tryz.underlying3 t2
  have f2 : FlatL W ((cs.drop 2).take 1) [x2] := f2
  obtain ⟨z3, t3, g3⟩ := hf 3 _ rfl
  obtain ⟨x3, f3, k3⟩ := rd_int Tryz.underlying3 t3
  have f3 : FlatL W ((cs.drop 3).take 1) [x3] := f3
  have e3 := fl_end (o := 3) f3 hc
  have e2 := fl_cons (o := 2) (n := 1) f2 e3 (by omega)
  have e1 := fl_cons (o := 1) (n := 1) f1 e2 (by omega)
  have e0 := fl_cons (o := 0) (n := 1) f0 e1 (by omega)
  rw [List.drop_zero] at e0
  exact ⟨_, e0, by simp [k0, k1, k2, k3]⟩
theorem cells_span : Tryz.prog.cellsOf 89 = 2 := by kernel_rfl
theorem rd_span {H : Type} {enc : TypeId × Value → H} {W : World} {b0 : Nat} {held : Bool} {m : Nat} {cs : List Value} {y : DataW H × List MemPlace} (h : DataW.trod enc Tryz.prog W b0 (fun _ => true) held m 89 cs = some y) (hl : Light 89 y.1) : ∃ xs : List Atom, FlatL W cs xs ∧ xs.map Atom.k = [0, 0] := by
  obtain ⟨k, hc, hf⟩ := rd_struct Tryz.underlying89 h hl
  rw [cells_span] at hc
  obtain ⟨z0, t0, g0⟩ := hf 0 _ rfl
  obtain ⟨x0, f0, k0⟩ := rd_int Tryz.underlying3 t0
  have f0 : FlatL W ((cs.drop 0).take 1) [x0] := f0
  obtain ⟨z1, t1, g1⟩ := hf 1 _ rfl
  obtain ⟨x1, f1, k1⟩ := rd_int Tryz.underlying3 t1
  have f1 : FlatL W ((cs.drop 1).take 1) [x1] := f1
  have e1 := fl_end (o := 1) f1 hc
  have e0 := fl_cons (o := 0) (n := 1) f0 e1 (by omega)
  rw [List.drop_zero] at e0
  exact ⟨_, e0, by simp [k0, k1]⟩
theorem cells_lock : Tryz.prog.cellsOf 92 = 4 := by kernel_rfl
theorem rd_lock {H : Type} {enc : TypeId × Value → H} {W : World} {b0 : Nat} {held : Bool} {m : Nat} {cs : List Value} {y : DataW H × List MemPlace} (h : DataW.trod enc Tryz.prog W b0 (fun _ => true) held m 92 cs = some y) (hl : Light 92 y.1) : ∃ xs : List Atom, FlatL W cs xs ∧ xs.map Atom.k = [0, 0, 0, 0] := by
  obtain ⟨k, hc, hf⟩ := rd_struct Tryz.underlying92 h hl
  rw [cells_lock] at hc
  obtain ⟨z0, t0, g0⟩ := hf 0 _ rfl
  obtain ⟨x0, f0, k0⟩ := rd_int Tryz.underlying3 t0
  have f0 : FlatL W ((cs.drop 0).take 1) [x0] := f0
  obtain ⟨z1, t1, g1⟩ := hf 1 _ rfl
  obtain ⟨x1, f1, k1⟩ := rd_int Tryz.underlying3 t1
  have f1 : FlatL W ((cs.drop 1).take 1) [x1] := f1
  obtain ⟨z2, t2, g2⟩ := hf 2 _ rfl
  obtain ⟨x2, f2, k2⟩ := rd_int Tryz.underlying3 t2
  have f2 : FlatL W ((cs.drop 2).take 1) [x2] := f2
  obtain ⟨z3, t3, g3⟩ := hf 3 _ rfl
  obtain ⟨x3, f3, k3⟩ := rd_int Tryz.underlying3 t3
  have f3 : FlatL W ((cs.drop 3).take 1) [x3] := f3
  have e3 := fl_end (o := 3) f3 hc
  have e2 := fl_cons (o := 2) (n := 1) f2 e3 (by omega)
  have e1 := fl_cons (o := 1) (n := 1) f1 e2 (by omega)
  have e0 := fl_cons (o := 0) (n := 1) f0 e1 (by omega)
  rw [List.drop_zero] at e0
  exact ⟨_, e0, by simp [k0, k1, k2, k3]⟩
theorem cells_answer : Tryz.prog.cellsOf 64 = 4 := by kernel_rfl
theorem rd_answer {H : Type} {enc : TypeId × Value → H} {W : World} {b0 : Nat} {held : Bool} {m : Nat} {cs : List Value} {y : DataW H × List MemPlace} (h : DataW.trod enc Tryz.prog W b0 (fun _ => true) held m 64 cs = some y) (hl : Light 64 y.1) : ∃ xs : List Atom, FlatL W cs xs ∧ xs.map Atom.k = [0, 0, 0, 0] := by
  obtain ⟨k, hc, hf⟩ := rd_struct Tryz.underlying64 h hl
  rw [cells_answer] at hc
  obtain ⟨z0, t0, g0⟩ := hf 0 _ rfl
  obtain ⟨x0, f0, k0⟩ := rd_int Tryz.underlying32 t0
  have f0 : FlatL W ((cs.drop 0).take 1) [x0] := f0
  obtain ⟨z1, t1, g1⟩ := hf 1 _ rfl
  obtain ⟨x1, f1, k1⟩ := rd_int Tryz.underlying3 t1
  have f1 : FlatL W ((cs.drop 1).take 1) [x1] := f1
  obtain ⟨z2, t2, g2⟩ := hf 2 _ rfl
  obtain ⟨x2, f2, k2⟩ := rd_int Tryz.underlying3 t2
  have f2 : FlatL W ((cs.drop 2).take 1) [x2] := f2
  obtain ⟨z3, t3, g3⟩ := hf 3 _ rfl
  obtain ⟨x3, f3, k3⟩ := rd_int Tryz.underlying3 t3
  have f3 : FlatL W ((cs.drop 3).take 1) [x3] := f3
  have e3 := fl_end (o := 3) f3 hc
  have e2 := fl_cons (o := 2) (n := 1) f2 e3 (by omega)
  have e1 := fl_cons (o := 1) (n := 1) f1 e2 (by omega)
  have e0 := fl_cons (o := 0) (n := 1) f0 e1 (by omega)
  rw [List.drop_zero] at e0
  exact ⟨_, e0, by simp [k0, k1, k2, k3]⟩
theorem cells_mark : Tryz.prog.cellsOf 66 = 7 := by kernel_rfl
theorem rd_mark {H : Type} {enc : TypeId × Value → H} {W : World} {b0 : Nat} {held : Bool} {m : Nat} {cs : List Value} {y : DataW H × List MemPlace} (h : DataW.trod enc Tryz.prog W b0 (fun _ => true) held m 66 cs = some y) (hl : Light 66 y.1) : ∃ xs : List Atom, FlatL W cs xs ∧ xs.map Atom.k = [0, 0, 2, 0, 0, 0, 0] := by
  obtain ⟨k, hc, hf⟩ := rd_struct Tryz.underlying66 h hl
  rw [cells_mark] at hc
  obtain ⟨z0, t0, g0⟩ := hf 0 _ rfl
  obtain ⟨x0, f0, k0⟩ := rd_int Tryz.underlying3 t0
  have f0 : FlatL W ((cs.drop 0).take 1) [x0] := f0
  obtain ⟨z1, t1, g1⟩ := hf 1 _ rfl
  obtain ⟨x1, f1, k1⟩ := rd_int Tryz.underlying3 t1
  have f1 : FlatL W ((cs.drop 1).take 1) [x1] := f1
  obtain ⟨z2, t2, g2⟩ := hf 2 _ rfl
  obtain ⟨x2, f2, k2⟩ := rd_bool Tryz.underlying4 t2
  have f2 : FlatL W ((cs.drop 2).take 1) [x2] := f2
  obtain ⟨z3, t3, g3⟩ := hf 3 _ rfl
  obtain ⟨x3, f3, k3⟩ := rd_answer t3 g3
  have f3 : FlatL W ((cs.drop 3).take 4) x3 := by have h9 : FlatL W ((cs.drop 3).take (Tryz.prog.cellsOf 64)) x3 := f3; rw [cells_answer] at h9; exact h9
  have e3 := fl_end (o := 3) f3 hc
  have e2 := fl_cons (o := 2) (n := 1) f2 e3 (by omega)
  have e1 := fl_cons (o := 1) (n := 1) f1 e2 (by omega)
  have e0 := fl_cons (o := 0) (n := 1) f0 e1 (by omega)
  rw [List.drop_zero] at e0
  exact ⟨_, e0, by simp [k0, k1, k2, k3]⟩
theorem cells_wait : Tryz.prog.cellsOf 69 = 11 := by kernel_rfl
theorem rd_wait {H : Type} {enc : TypeId × Value → H} {W : World} {b0 : Nat} {held : Bool} {m : Nat} {cs : List Value} {y : DataW H × List MemPlace} (h : DataW.trod enc Tryz.prog W b0 (fun _ => true) held m 69 cs = some y) (hl : Light 69 y.1) : ∃ xs : List Atom, FlatL W cs xs ∧ xs.map Atom.k = [0, 0, 0, 0, 0, 0, 3, 3, 0, 0, 0] := by
  obtain ⟨k, hc, hf⟩ := rd_struct Tryz.underlying69 h hl
  rw [cells_wait] at hc
  obtain ⟨z0, t0, g0⟩ := hf 0 _ rfl
  obtain ⟨x0, f0, k0⟩ := rd_int Tryz.underlying3 t0
  have f0 : FlatL W ((cs.drop 0).take 1) [x0] := f0
  obtain ⟨z1, t1, g1⟩ := hf 1 _ rfl
  obtain ⟨x1, f1, k1⟩ := rd_int Tryz.underlying3 t1
  have f1 : FlatL W ((cs.drop 1).take 1) [x1] := f1
  obtain ⟨z2, t2, g2⟩ := hf 2 _ rfl
  obtain ⟨x2, f2, k2⟩ := rd_int Tryz.underlying3 t2
  have f2 : FlatL W ((cs.drop 2).take 1) [x2] := f2
  obtain ⟨z3, t3, g3⟩ := hf 3 _ rfl
  obtain ⟨x3, f3, k3⟩ := rd_int Tryz.underlying3 t3
  have f3 : FlatL W ((cs.drop 3).take 1) [x3] := f3
  obtain ⟨z4, t4, g4⟩ := hf 4 _ rfl
  obtain ⟨x4, f4, k4⟩ := rd_int Tryz.underlying3 t4
  have f4 : FlatL W ((cs.drop 4).take 1) [x4] := f4
  obtain ⟨z5, t5, g5⟩ := hf 5 _ rfl
  obtain ⟨x5, f5, k5⟩ := rd_op t5 g5
  have f5 : FlatL W ((cs.drop 5).take 6) x5 := by have h9 : FlatL W ((cs.drop 5).take (Tryz.prog.cellsOf 58)) x5 := f5; rw [cells_op] at h9; exact h9
  have e5 := fl_end (o := 5) f5 hc
  have e4 := fl_cons (o := 4) (n := 1) f4 e5 (by omega)
  have e3 := fl_cons (o := 3) (n := 1) f3 e4 (by omega)
  have e2 := fl_cons (o := 2) (n := 1) f2 e3 (by omega)
  have e1 := fl_cons (o := 1) (n := 1) f1 e2 (by omega)
  have e0 := fl_cons (o := 0) (n := 1) f0 e1 (by omega)
  rw [List.drop_zero] at e0
  exact ⟨_, e0, by simp [k0, k1, k2, k3, k4, k5]⟩
theorem cells_deal : Tryz.prog.cellsOf 72 = 8 := by kernel_rfl
theorem rd_deal {H : Type} {enc : TypeId × Value → H} {W : World} {b0 : Nat} {held : Bool} {m : Nat} {cs : List Value} {y : DataW H × List MemPlace} (h : DataW.trod enc Tryz.prog W b0 (fun _ => true) held m 72 cs = some y) (hl : Light 72 y.1) : ∃ xs : List Atom, FlatL W cs xs ∧ xs.map Atom.k = [0, 0, 3, 3, 0, 0, 0, 0] := by
  obtain ⟨k, hc, hf⟩ := rd_struct Tryz.underlying72 h hl
  rw [cells_deal] at hc
  obtain ⟨z0, t0, g0⟩ := hf 0 _ rfl
  obtain ⟨x0, f0, k0⟩ := rd_int Tryz.underlying3 t0
  have f0 : FlatL W ((cs.drop 0).take 1) [x0] := f0
  obtain ⟨z1, t1, g1⟩ := hf 1 _ rfl
  obtain ⟨x1, f1, k1⟩ := rd_int Tryz.underlying3 t1
  have f1 : FlatL W ((cs.drop 1).take 1) [x1] := f1
  obtain ⟨z2, t2, g2⟩ := hf 2 _ rfl
  obtain ⟨x2, f2, k2⟩ := rd_str Tryz.underlying9 t2 g2
  have f2 : FlatL W ((cs.drop 2).take 1) [x2] := f2
  obtain ⟨z3, t3, g3⟩ := hf 3 _ rfl
  obtain ⟨x3, f3, k3⟩ := rd_str Tryz.underlying9 t3 g3
  have f3 : FlatL W ((cs.drop 3).take 1) [x3] := f3
  obtain ⟨z4, t4, g4⟩ := hf 4 _ rfl
  obtain ⟨x4, f4, k4⟩ := rd_int Tryz.underlying3 t4
  have f4 : FlatL W ((cs.drop 4).take 1) [x4] := f4
  obtain ⟨z5, t5, g5⟩ := hf 5 _ rfl
  obtain ⟨x5, f5, k5⟩ := rd_int Tryz.underlying3 t5
  have f5 : FlatL W ((cs.drop 5).take 1) [x5] := f5
  obtain ⟨z6, t6, g6⟩ := hf 6 _ rfl
  obtain ⟨x6, f6, k6⟩ := rd_int Tryz.underlying3 t6
  have f6 : FlatL W ((cs.drop 6).take 1) [x6] := f6
  obtain ⟨z7, t7, g7⟩ := hf 7 _ rfl
  obtain ⟨x7, f7, k7⟩ := rd_int Tryz.underlying3 t7
  have f7 : FlatL W ((cs.drop 7).take 1) [x7] := f7
  have e7 := fl_end (o := 7) f7 hc
  have e6 := fl_cons (o := 6) (n := 1) f6 e7 (by omega)
  have e5 := fl_cons (o := 5) (n := 1) f5 e6 (by omega)
  have e4 := fl_cons (o := 4) (n := 1) f4 e5 (by omega)
  have e3 := fl_cons (o := 3) (n := 1) f3 e4 (by omega)
  have e2 := fl_cons (o := 2) (n := 1) f2 e3 (by omega)
  have e1 := fl_cons (o := 1) (n := 1) f1 e2 (by omega)
  have e0 := fl_cons (o := 0) (n := 1) f0 e1 (by omega)
  rw [List.drop_zero] at e0
  exact ⟨_, e0, by simp [k0, k1, k2, k3, k4, k5, k6, k7]⟩
theorem cells_end : Tryz.prog.cellsOf 75 = 2 := by kernel_rfl
theorem rd_end {H : Type} {enc : TypeId × Value → H} {W : World} {b0 : Nat} {held : Bool} {m : Nat} {cs : List Value} {y : DataW H × List MemPlace} (h : DataW.trod enc Tryz.prog W b0 (fun _ => true) held m 75 cs = some y) (hl : Light 75 y.1) : ∃ xs : List Atom, FlatL W cs xs ∧ xs.map Atom.k = [0, 0] := by
  obtain ⟨k, hc, hf⟩ := rd_struct Tryz.underlying75 h hl
  rw [cells_end] at hc
  obtain ⟨z0, t0, g0⟩ := hf 0 _ rfl
  obtain ⟨x0, f0, k0⟩ := rd_int Tryz.underlying3 t0
  have f0 : FlatL W ((cs.drop 0).take 1) [x0] := f0
  obtain ⟨z1, t1, g1⟩ := hf 1 _ rfl
  obtain ⟨x1, f1, k1⟩ := rd_int Tryz.underlying3 t1
  have f1 : FlatL W ((cs.drop 1).take 1) [x1] := f1
  have e1 := fl_end (o := 1) f1 hc
  have e0 := fl_cons (o := 0) (n := 1) f0 e1 (by omega)
  rw [List.drop_zero] at e0
  exact ⟨_, e0, by simp [k0, k1]⟩
/-- so many cells hold these plain fields -/
def Fa (W : World) (cs : List Value) (o : Nat) (xs : List Atom) : Prop := ∀ (j : Nat) (y : Atom), xs[j]? = some y → ∃ v, cs[o + j]? = some v ∧ AtomV W (fun b => b < W.heap.size) v y
theorem fa_of {W : World} {cs : List Value} {o n : Nat} {xs : List Atom} (h : FlatL W ((cs.drop o).take n) xs) : Fa W cs o xs := fun j y hy => by
  obtain ⟨v, h1, h2⟩ := h.2 j y hy
  have hj : j < n := by have := (List.getElem?_eq_some_iff.1 h1).1; rw [List.length_take] at this; omega
  rw [List.getElem?_take, if_pos hj, List.getElem?_drop] at h1
  exact ⟨v, h1, h2⟩
theorem fa_app {W : World} {cs : List Value} {o n : Nat} {xs ys : List Atom} (h : Fa W cs o xs) (hl : xs.length = n) (g : Fa W cs (o + n) ys) : Fa W cs o (xs ++ ys) := fun j y hy => by
  by_cases hj : j < xs.length
  · rw [List.getElem?_append_left hj] at hy
    exact h j y hy
  · rw [List.getElem?_append_right (by omega)] at hy
    obtain ⟨v, h1, h2⟩ := g _ y hy
    exact ⟨v, by rw [show o + j = o + n + (j - xs.length) by omega]; exact h1, h2⟩
theorem sl_at {cs : List Value} {o : Nat} {v : Value} (h : (cs.drop o).take 1 = [v]) : cs[o]? = some v := by
  have : ((cs.drop o).take 1)[0]? = some v := by rw [h]; rfl
  rw [List.getElem?_take, if_pos (by omega), List.getElem?_drop] at this
  simpa using this
theorem len_of {xs : List Atom} {ks : List Nat} (h : xs.map Atom.k = ks) : xs.length = ks.length := by have := congrArg List.length h; simpa using this

theorem cells_account : Tryz.prog.cellsOf 94 = 10 := by kernel_rfl
theorem rd_account {H : Type} {enc : TypeId × Value → H} {W : World} {b0 : Nat} {held : Bool} {m : Nat} {cs : List Value} {y : DataW H × List MemPlace} (h : DataW.trod enc Tryz.prog W b0 (fun _ => true) held m 94 cs = some y) (hl : Light 94 y.1) : ∃ x : Acc, AccC W (fun b => b < W.heap.size) (fun q => cs[q]?) x ∧ AccK x ∧ x.hs.length * 32 ≤ 140737488351232 := by
  obtain ⟨k, hc, hf⟩ := rd_struct Tryz.underlying94 h hl
  rw [cells_account] at hc
  obtain ⟨z0, t0, g0⟩ := hf 0 _ rfl
  obtain ⟨x0, f0, k0⟩ := rd_str Tryz.underlying9 t0 g0
  have f0 : FlatL W ((cs.drop 0).take 1) [x0] := f0
  obtain ⟨z1, t1, g1⟩ := hf 1 _ rfl
  obtain ⟨x1, f1, k1⟩ := rd_span t1 g1
  have f1 : FlatL W ((cs.drop 1).take 2) x1 := by have h9 : FlatL W ((cs.drop 1).take (Tryz.prog.cellsOf 89)) x1 := f1; rw [cells_span] at h9; exact h9
  obtain ⟨z2, t2, g2⟩ := hf 2 _ rfl
  obtain ⟨x2, f2, k2⟩ := rd_int Tryz.underlying3 t2
  have f2 : FlatL W ((cs.drop 3).take 1) [x2] := f2
  obtain ⟨z3, t3, g3⟩ := hf 3 _ rfl
  obtain ⟨x3, f3, k3⟩ := rd_int Tryz.underlying3 t3
  have f3 : FlatL W ((cs.drop 4).take 1) [x3] := f3
  obtain ⟨z4, t4, g4⟩ := hf 4 _ rfl
  obtain ⟨a4, n4, c4, ls4, e4, l4, k4, b4⟩ := rd_list (bytes := 32) Tryz.underlying90 cells_holder (by kernel_rfl) (by omega) (fun h hl => rd_holder h hl) t4 g4
  have e4 : (cs.drop 5).take (Tryz.prog.cellsOf 90) = [.slice a4 n4 c4] := e4
  rw [show Tryz.prog.cellsOf 90 = 1 by kernel_rfl] at e4
  obtain ⟨z5, t5, g5⟩ := hf 5 _ rfl
  obtain ⟨x5, f5, k5⟩ := rd_lock t5 g5
  have f5 : FlatL W ((cs.drop 6).take 4) x5 := by have h9 : FlatL W ((cs.drop 6).take (Tryz.prog.cellsOf 92)) x5 := f5; rw [cells_lock] at h9; exact h9
  have A0 := fa_app (fa_of f0) rfl (fa_app (fa_of f1) (len_of k1) (fa_app (fa_of f2) rfl (fa_of f3)))
  have A1 := fa_of f5
  exact ⟨⟨[x0] ++ (x1 ++ ([x2] ++ [x3])), ls4, x5⟩, ⟨fun j z hz => by have := A0 j z hz; rw [Nat.zero_add] at this; exact this, ⟨a4, n4, c4, sl_at e4, l4⟩, A1⟩, ⟨by simp [k0, k1, k2, k3], k4, k5⟩, by show ls4.length * 32 ≤ _; rw [l4.length]; exact b4⟩
theorem rd_accounts {H : Type} {enc : TypeId × Value → H} {W : World} {b0 : Nat} {held : Bool} {m : Nat} {cs : List Value} {y : DataW H × List MemPlace} (h : DataW.trod enc Tryz.prog W b0 (fun _ => true) held m 22 cs = some y) (hl : Light 22 y.1) :
    ∃ (a : Option Addr) (n cp : Nat) (xss : List Acc), cs = [.slice a n cp] ∧ La W (fun b => b < W.heap.size) a n cp xss ∧ (∀ x ∈ xss, AccK x) ∧ (∀ x ∈ xss, x.hs.length * 32 ≤ 140737488351232) ∧ n * 104 ≤ 140737488351232 := by
  have hu : Tryz.prog.underlying 22 = some (.slice 94) := Tryz.underlying22
  have hby : Tryz.prog.bytesOf 94 = 104 := by kernel_rfl
  rcases Go.Deep.open_slice hu h with ⟨hcs, _⟩ | ⟨x, l, c, m', n', D, Pl, hcs, hb, hll, hm, hmm, hx, hcell⟩
  · exact ⟨none, 0, 0, [], hcs, La.nil_ _ _, fun x hx => by simp at hx, fun x hx => by simp at hx, by omega⟩
  · simp only [if_true] at hmm
    subst hmm
    have hd1 : y.1 = _ := congrArg Prod.fst hx
    have hlen : l * 104 ≤ 140737488351232 := by
      have := hl ((l + (m' - l)) * 104) (by
        rw [hd1]
        simp only [DataW.weights, hu]
        rw [hby]
        simp)
      have e : reachBytes = 140737488351232 := by decide
      rw [Nat.add_mul] at this
      omega
    have each : ∀ j, j < l → ∃ x5 : Acc, (∃ cs', W.cells? b0 (x.add (j * 10)) 10 = some cs' ∧ AccC W (fun b => b < W.heap.size) (fun q => cs'[q]?) x5) ∧ AccK x5 ∧ x5.hs.length * 32 ≤ 140737488351232 := by
      intro j hj
      obtain ⟨cs', h1, h2⟩ := hcell j (by omega)
      rw [cells_account] at h1
      have lj : Light 94 (D j) := fun q hq => hl q (by
        rw [hd1]
        simp only [DataW.weights, hu]
        exact List.mem_cons_of_mem _ (List.mem_append_left _ (weights_all (d := D j) (List.mem_map.2 ⟨j, List.mem_range.2 hj, rfl⟩) q hq)))
      obtain ⟨x5, hf, hk, h5⟩ := rd_account h2 lj
      exact ⟨x5, ⟨cs', h1, hf⟩, hk, h5⟩
    refine ⟨some x, l, m', (List.range l).map (fun j => if h : j < l then (each j h).choose else ⟨[], [], []⟩), hcs, ⟨by simp, hll, (fun e => by cases e), fun h0 => ?_⟩, fun xs hxs => ?_, fun xs hxs => ?_, hlen⟩
    · obtain ⟨b, off, spot⟩ := x
      obtain ⟨cs0, g1, g2⟩ := (each 0 h0).choose_spec.1
      obtain ⟨_, hl0, hc0⟩ := World.cells?_some g1
      have hsome : ∃ v, cs0[0]? = some v := ⟨_, List.getElem?_eq_getElem (by omega)⟩
      obtain ⟨v, hv⟩ := hsome
      have hc00 := (hc0 0 (by omega)).trans hv
      have hspot : spot = none := by
        have h5 := World.cell?_spot hc00
        simpa [Addr.add] using h5
      subst hspot
      refine ⟨b, off, rfl, ?_, fun i xs hxs => ?_⟩
      · exact World.cells?_block (a := ⟨b, off, none⟩) (by simpa [Addr.add] using g1) (by omega)
      · have hi : i < l := by have := (List.getElem?_eq_some_iff.1 hxs).1; simpa using this
        have ex : (each i hi).choose = xs := by
          rw [List.getElem?_map, List.getElem?_range hi] at hxs
          simpa [hi] using hxs
        obtain ⟨⟨cs', k1, k2⟩, kk, _⟩ := (each i hi).choose_spec
        rw [ex] at k2 kk
        obtain ⟨_, hl5, hc5⟩ := World.cells?_some k1
        refine AccC.same k2 (fun q hq => ?_) kk (fun b hb => ⟨hb, rfl⟩)
        have h8 := hc5 q hq
        have e6 : ((⟨b, off, none⟩ : Addr).add (i * 10)).add q = ⟨b, off + i * 10 + q, none⟩ := by rw [Addr.add_mid, Addr.add_mid]
        exact e6 ▸ h8
    · obtain ⟨j, hj, rfl⟩ := List.mem_map.1 hxs
      have hj' := List.mem_range.1 hj
      simp only [dif_pos hj']
      exact (each j hj').choose_spec.2.1
    · obtain ⟨j, hj, rfl⟩ := List.mem_map.1 hxs
      have hj' := List.mem_range.1 hj
      simp only [dif_pos hj']
      exact (each j hj').choose_spec.2.2
theorem cells_state : Tryz.prog.cellsOf 31 = 29 := by kernel_rfl
theorem rd_state {H : Type} {enc : TypeId × Value → H} {W : World} {b0 : Nat} {held : Bool} {m : Nat} {cs : List Value} {y : DataW H × List MemPlace} (h : DataW.trod enc Tryz.prog W b0 (fun _ => true) held m 31 cs = some y) (hl : Light 31 y.1) : ∃ x : Sta, StaV W (fun b => b < W.heap.size) cs.toArray x ∧ x.acs.length * 104 ≤ 140737488351232 ∧ (∀ a ∈ x.acs, a.hs.length * 32 ≤ 140737488351232) ∧ x.ms.length * 56 ≤ 140737488351232 ∧ x.ws.length * 104 ≤ 140737488351232 ∧ x.ds.length * 80 ≤ 140737488351232 ∧ x.es.length * 16 ≤ 140737488351232 := by
  obtain ⟨k, hc, hf⟩ := rd_struct Tryz.underlying31 h hl
  rw [cells_state] at hc
  obtain ⟨z0, t0, g0⟩ := hf 0 _ rfl
  obtain ⟨x0, f0, k0⟩ := rd_int Tryz.underlying3 t0
  have f0 : FlatL W ((cs.drop 0).take 1) [x0] := f0
  obtain ⟨z1, t1, g1⟩ := hf 1 _ rfl
  obtain ⟨x1, f1, k1⟩ := rd_int Tryz.underlying3 t1
  have f1 : FlatL W ((cs.drop 1).take 1) [x1] := f1
  obtain ⟨z2, t2, g2⟩ := hf 2 _ rfl
  obtain ⟨x2, f2, k2⟩ := rd_bool Tryz.underlying4 t2
  have f2 : FlatL W ((cs.drop 2).take 1) [x2] := f2
  obtain ⟨z3, t3, g3⟩ := hf 3 _ rfl
  obtain ⟨x3, f3, k3⟩ := rd_str Tryz.underlying9 t3 g3
  have f3 : FlatL W ((cs.drop 3).take 1) [x3] := f3
  obtain ⟨z4, t4, g4⟩ := hf 4 _ rfl
  obtain ⟨x4, f4, k4⟩ := rd_str Tryz.underlying9 t4 g4
  have f4 : FlatL W ((cs.drop 4).take 1) [x4] := f4
  obtain ⟨z5, t5, g5⟩ := hf 5 _ rfl
  obtain ⟨x5, f5, k5⟩ := rd_int Tryz.underlying3 t5
  have f5 : FlatL W ((cs.drop 5).take 1) [x5] := f5
  obtain ⟨z6, t6, g6⟩ := hf 6 _ rfl
  obtain ⟨a6, n6, c6, ls6, e6, l6, k6, h6, b6⟩ := rd_accounts t6 g6
  have e6 : (cs.drop 6).take (Tryz.prog.cellsOf 22) = [.slice a6 n6 c6] := e6
  rw [show Tryz.prog.cellsOf 22 = 1 by kernel_rfl] at e6
  obtain ⟨z7, t7, g7⟩ := hf 7 _ rfl
  obtain ⟨a7, n7, c7, ls7, e7, l7, k7, b7⟩ := rd_list (bytes := 56) Tryz.underlying23 cells_mark (by kernel_rfl) (by omega) (fun h hl => rd_mark h hl) t7 g7
  have e7 : (cs.drop 7).take (Tryz.prog.cellsOf 23) = [.slice a7 n7 c7] := e7
  rw [show Tryz.prog.cellsOf 23 = 1 by kernel_rfl] at e7
  obtain ⟨z8, t8, g8⟩ := hf 8 _ rfl
  obtain ⟨a8, n8, c8, ls8, e8, l8, k8, b8⟩ := rd_list (bytes := 104) Tryz.underlying24 cells_wait (by kernel_rfl) (by omega) (fun h hl => rd_wait h hl) t8 g8
  have e8 : (cs.drop 8).take (Tryz.prog.cellsOf 24) = [.slice a8 n8 c8] := e8
  rw [show Tryz.prog.cellsOf 24 = 1 by kernel_rfl] at e8
  obtain ⟨z9, t9, g9⟩ := hf 9 _ rfl
  obtain ⟨a9, n9, c9, ls9, e9, l9, k9, b9⟩ := rd_list (bytes := 80) Tryz.underlying25 cells_deal (by kernel_rfl) (by omega) (fun h hl => rd_deal h hl) t9 g9
  have e9 : (cs.drop 9).take (Tryz.prog.cellsOf 25) = [.slice a9 n9 c9] := e9
  rw [show Tryz.prog.cellsOf 25 = 1 by kernel_rfl] at e9
  obtain ⟨z10, t10, g10⟩ := hf 10 _ rfl
  obtain ⟨a10, n10, c10, ls10, e10, l10, k10, b10⟩ := rd_list (bytes := 16) Tryz.underlying26 cells_end (by kernel_rfl) (by omega) (fun h hl => rd_end h hl) t10 g10
  have e10 : (cs.drop 10).take (Tryz.prog.cellsOf 26) = [.slice a10 n10 c10] := e10
  rw [show Tryz.prog.cellsOf 26 = 1 by kernel_rfl] at e10
  obtain ⟨z11, t11, g11⟩ := hf 11 _ rfl
  obtain ⟨x11, f11, k11⟩ := rd_plan t11 g11
  have f11 : FlatL W ((cs.drop 11).take 7) x11 := by have h9 : FlatL W ((cs.drop 11).take (Tryz.prog.cellsOf 28)) x11 := f11; rw [cells_plan] at h9; exact h9
  obtain ⟨z12, t12, g12⟩ := hf 12 _ rfl
  obtain ⟨x12, f12, k12⟩ := rd_plan t12 g12
  have f12 : FlatL W ((cs.drop 18).take 7) x12 := by have h9 : FlatL W ((cs.drop 18).take (Tryz.prog.cellsOf 28)) x12 := f12; rw [cells_plan] at h9; exact h9
  obtain ⟨z13, t13, g13⟩ := hf 13 _ rfl
  obtain ⟨x13, f13, k13⟩ := rd_bytes t13 g13
  have f13 : FlatL W ((cs.drop 25).take 1) [x13] := f13
  obtain ⟨z14, t14, g14⟩ := hf 14 _ rfl
  obtain ⟨x14, f14, k14⟩ := rd_int Tryz.underlying3 t14
  have f14 : FlatL W ((cs.drop 26).take 1) [x14] := f14
  obtain ⟨z15, t15, g15⟩ := hf 15 _ rfl
  obtain ⟨x15, f15, k15⟩ := rd_int Tryz.underlying3 t15
  have f15 : FlatL W ((cs.drop 27).take 1) [x15] := f15
  obtain ⟨z16, t16, g16⟩ := hf 16 _ rfl
  obtain ⟨x16, f16, k16⟩ := rd_int Tryz.underlying3 t16
  have f16 : FlatL W ((cs.drop 28).take 1) [x16] := f16
  have A0 := fa_app (fa_of f0) rfl (fa_app (fa_of f1) rfl (fa_app (fa_of f2) rfl (fa_app (fa_of f3) rfl (fa_app (fa_of f4) rfl (fa_of f5)))))
  have A1 := fa_app (fa_of f11) (len_of k11) (fa_app (fa_of f12) (len_of k12) (fa_app (fa_of f13) rfl (fa_app (fa_of f14) rfl (fa_app (fa_of f15) rfl (fa_of f16)))))
  refine ⟨⟨[x0] ++ ([x1] ++ ([x2] ++ ([x3] ++ ([x4] ++ [x5])))), ls6, ls7, ls8, ls9, ls10, x11 ++ (x12 ++ ([x13] ++ ([x14] ++ ([x15] ++ [x16]))))⟩, ⟨by simpa using hc, ⟨by simp [k0, k1, k2, k3, k4, k5], k6, k7, k8, k9, k10, by simp [k11, k12, k13, k14, k15, k16]⟩, ⟨fun j z hz => ?_, ⟨a6, n6, c6, ?_, l6⟩, ⟨a7, n7, c7, ?_, l7⟩, ⟨a8, n8, c8, ?_, l8⟩, ⟨a9, n9, c9, ?_, l9⟩, ⟨a10, n10, c10, ?_, l10⟩, fun j z hz => ?_⟩⟩, by show ls6.length * _ ≤ _; rw [l6.length]; exact b6, h6, by show ls7.length * _ ≤ _; rw [l7.length]; exact b7, by show ls8.length * _ ≤ _; rw [l8.length]; exact b8, by show ls9.length * _ ≤ _; rw [l9.length]; exact b9, by show ls10.length * _ ≤ _; rw [l10.length]; exact b10⟩
  · obtain ⟨v, h1, h2⟩ := A0 j z hz
    exact ⟨v, by rw [Nat.zero_add] at h1; simpa using h1, h2⟩
  · simpa using sl_at e6
  · simpa using sl_at e7
  · simpa using sl_at e8
  · simpa using sl_at e9
  · simpa using sl_at e10
  · obtain ⟨v, h1, h2⟩ := A1 j z hz
    exact ⟨v, by simpa using h1, h2⟩
theorem open_state_held {H : Type} {enc : TypeId × Value → H} {W : World} {r : Reach} {base b0 : Nat} {held : Bool} {v : Value} {d : DataW H} {p : List MemPlace}
    (hv : Value.okWide Tryz.prog W r base 31 v) (h : DataW.Trod enc Tryz.prog W b0 (fun _ => true) held 31 v d p) (hl : Light 31 d) :
    ∃ (cs : Array Value) (x : Sta), v = .agg cs ∧ StaV W (fun b => b < W.heap.size) cs x ∧ x.acs.length * 104 ≤ 140737488351232 ∧ (∀ a ∈ x.acs, a.hs.length * 32 ≤ 140737488351232) ∧ x.ms.length * 56 ≤ 140737488351232 ∧ x.ws.length * 104 ≤ 140737488351232 ∧ x.ds.length * 80 ≤ 140737488351232 ∧ x.es.length * 16 ≤ 140737488351232 := by
  obtain ⟨cs, rfl, hsz⟩ := okWide_struct Tryz.underlying31 hv
  obtain ⟨m, hm⟩ := h
  obtain ⟨x, hx, hk⟩ := rd_state hm hl
  exact ⟨cs, x, rfl, by simpa [Value.cells] using hx, hk⟩
end Go.Proofs.YthklpkmdmkgjiaaGreat
