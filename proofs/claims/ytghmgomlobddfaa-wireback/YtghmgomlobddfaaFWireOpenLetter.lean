/- How a letter that came in by value reads: its plain fields and its lists. No condition. -/
import Derived.Test.YtghmgomlobddfaaFWireOpenList
import Derived.Test.YtghmgomlobddfaaFWireLetterVal
namespace Go.Proofs.Ytghmgomlobddfaa
open Go.ChangeShapes Go.WideShapes Go.ChangeAt Go.RowKit B8 Cm Wm
set_option linter.unusedVariables false
set_option maxRecDepth 100000

theorem fl_at {w : World} {cs : List Value} {o n : Nat} {xs : List Atom} (h : FlatL w ((cs.drop o).take n) xs) {j : Nat} {y : Atom} (hy : xs[j]? = some y) (hj : j < n) : ∃ v, cs[o + j]? = some v ∧ AtomV w (fun b => b < w.heap.size) v y := by
  obtain ⟨v, h1, h2⟩ := h.2 j y hy
  rw [List.getElem?_take, if_pos hj, List.getElem?_drop] at h1
  exact ⟨v, h1, h2⟩
section
variable {H : Type} {enc : TypeId × Value → H} {W : World} {b0 : Nat} {held : Bool} {m : Nat} {cs : List Value} {y : DataW H × List MemPlace}
theorem cells_lettero : Try.prog.cellsOf 45 = 13 := by kernel_rfl
theorem cells_listv : Try.prog.cellsOf 39 = 1 := by kernel_rfl
theorem cells_liste : Try.prog.cellsOf 40 = 1 := by kernel_rfl
theorem rd_letter (h : DataW.trod enc Try.prog W b0 (fun _ => true) held m 45 cs = some y) (hl : Light 45 y.1) : ∃ x : Let, LetV 7 W (fun b => b < W.heap.size) cs.toArray x ∧ LetK 7 x ∧ x.vs.length * 48 ≤ 140737488351232 ∧ x.es.length * 32 ≤ 140737488351232 := by
  obtain ⟨k, hc, hf⟩ := rd_struct Try.underlying45 h hl
  rw [cells_lettero] at hc
  obtain ⟨z0, t0, g0⟩ := hf 0 _ rfl
  obtain ⟨x0, f0, k0⟩ := rd_int Try.underlying3 t0
  have f0 : FlatL W ((cs.drop 0).take 1) [x0] := f0
  obtain ⟨z1, t1, g1⟩ := hf 1 _ rfl
  obtain ⟨x1, f1, k1⟩ := rd_int Try.underlying3 t1
  have f1 : FlatL W ((cs.drop 1).take 1) [x1] := f1
  obtain ⟨z2, t2, g2⟩ := hf 2 _ rfl
  obtain ⟨x2, f2, k2⟩ := rd_int Try.underlying3 t2
  have f2 : FlatL W ((cs.drop 2).take 1) [x2] := f2
  obtain ⟨z3, t3, g3⟩ := hf 3 _ rfl
  obtain ⟨x3, f3, k3⟩ := rd_ballot t3 g3
  have f3 : FlatL W ((cs.drop 3).take (Try.prog.cellsOf 30)) x3 := f3
  rw [cells_ballot] at f3
  obtain ⟨z4, t4, g4⟩ := hf 4 _ rfl
  obtain ⟨x4, f4, k4⟩ := rd_int Try.underlying3 t4
  have f4 : FlatL W ((cs.drop 5).take 1) [x4] := f4
  obtain ⟨z5, t5, g5⟩ := hf 5 _ rfl
  obtain ⟨x5, f5, k5⟩ := rd_int Try.underlying3 t5
  have f5 : FlatL W ((cs.drop 6).take 1) [x5] := f5
  obtain ⟨z6, t6, g6⟩ := hf 6 _ rfl
  obtain ⟨a6, n6, c6, vs, e6, l6, kv, b6⟩ := rd_list (bytes := 48) Try.underlying39 cells_vote (by kernel_rfl) (by omega) (fun h hl => rd_vote h hl) t6 g6
  have e6 : (cs.drop 7).take (Try.prog.cellsOf 39) = [.slice a6 n6 c6] := e6
  rw [cells_listv] at e6
  obtain ⟨z7, t7, g7⟩ := hf 7 _ rfl
  obtain ⟨a7, n7, c7, es, e7, l7, ke, b7⟩ := rd_list (bytes := 32) Try.underlying40 cells_entry (by kernel_rfl) (by omega) (fun h hl => rd_entry h hl) t7 g7
  have e7 : (cs.drop 8).take (Try.prog.cellsOf 40) = [.slice a7 n7 c7] := e7
  rw [cells_liste] at e7
  obtain ⟨z8, t8, g8⟩ := hf 8 _ rfl
  obtain ⟨x8, f8, k8⟩ := rd_piece t8 g8
  have f8 : FlatL W ((cs.drop 9).take (Try.prog.cellsOf 43)) x8 := f8
  rw [cells_piece] at f8
  have lx3 : x3.length = 2 := by have := congrArg List.length k3; simpa using this
  have lx8 : x8.length = 4 := by have := congrArg List.length k8; simpa using this
  refine ⟨⟨[x0, x1, x2] ++ (x3 ++ [x4, x5]), vs, es, x8⟩, ⟨by simpa using hc, by simp [lx3], lx8, fun j z hz => ?_, ⟨a6, n6, c6, ?_, l6⟩, ⟨a7, n7, c7, ?_, l7⟩, fun j z hz => ?_⟩, ⟨by simp [k0, k1, k2, k3, k4, k5], kv, ke, k8⟩, by rw [l6.length]; exact b6, by rw [l7.length]; exact b7⟩
  · have q : ∃ v, cs[j]? = some v ∧ AtomV W (fun b => b < W.heap.size) v z := by
      have hz' : ([x0, x1, x2] ++ (x3 ++ [x4, x5]))[j]? = some z := hz
      match j, hz' with
      | 0, hz' => exact fl_at f0 (j := 0) (by simpa using hz') (by omega)
      | 1, hz' => exact fl_at f1 (j := 0) (by simpa using hz') (by omega)
      | 2, hz' => exact fl_at f2 (j := 0) (by simpa using hz') (by omega)
      | j + 3, hz' =>
        have hz2 : (x3 ++ [x4, x5])[j]? = some z := by simpa using hz'
        by_cases hj : j < 2
        · rw [List.getElem?_append_left (by omega)] at hz2
          obtain ⟨v, h1, h2⟩ := fl_at f3 hz2 hj
          exact ⟨v, by rw [show j + 3 = 3 + j by omega]; exact h1, h2⟩
        · rw [List.getElem?_append_right (by omega), lx3] at hz2
          have hj2 : j - 2 < 2 := by have := (List.getElem?_eq_some_iff.1 hz2).1; simpa using this
          obtain ⟨i, hi⟩ : ∃ i, i = j - 2 := ⟨_, rfl⟩
          rw [← hi] at hz2 hj2
          match i, hi, hz2 with
          | 0, hi, hz2 =>
            obtain ⟨v, h1, h2⟩ := fl_at f4 (j := 0) (by simpa using hz2) (by omega)
            exact ⟨v, by rw [show j + 3 = 5 + 0 by omega]; exact h1, h2⟩
          | 1, hi, hz2 =>
            obtain ⟨v, h1, h2⟩ := fl_at f5 (j := 0) (by simpa using hz2) (by omega)
            exact ⟨v, by rw [show j + 3 = 6 + 0 by omega]; exact h1, h2⟩
    obtain ⟨v, h1, h2⟩ := q
    exact ⟨v, by simpa using h1, h2⟩
  · have : ((cs.drop 7).take 1)[0]? = some (.slice a6 n6 c6) := by rw [e6]; rfl
    rw [List.getElem?_take, if_pos (by omega), List.getElem?_drop] at this
    simpa using this
  · have : ((cs.drop 8).take 1)[0]? = some (.slice a7 n7 c7) := by rw [e7]; rfl
    rw [List.getElem?_take, if_pos (by omega), List.getElem?_drop] at this
    simpa using this
  · have hz' : x8[j]? = some z := hz
    have hj : j < 4 := by have := (List.getElem?_eq_some_iff.1 hz').1; omega
    obtain ⟨v, h1, h2⟩ := fl_at f8 hz' hj
    exact ⟨v, by simpa using h1, h2⟩
end
theorem open_letter_held {H : Type} {enc : TypeId × Value → H} {W : World} {r : Reach} {base b0 : Nat} {held : Bool} {v : Value} {d : DataW H} {p : List MemPlace}
    (hv : Value.okWide Try.prog W r base 45 v) (h : DataW.Trod enc Try.prog W b0 (fun _ => true) held 45 v d p) (hl : Light 45 d) :
    ∃ (cs : Array Value) (x : Let), v = .agg cs ∧ LetV 7 W (fun b => b < W.heap.size) cs x ∧ LetK 7 x ∧ x.vs.length * 48 ≤ 140737488351232 ∧ x.es.length * 32 ≤ 140737488351232 := by
  obtain ⟨cs, rfl, hsz⟩ := okWide_struct Try.underlying45 hv
  obtain ⟨m, hm⟩ := h
  obtain ⟨x, hx, hk⟩ := rd_letter hm hl
  exact ⟨cs, x, rfl, by simpa [Value.cells] using hx, hk⟩
end Go.Proofs.Ytghmgomlobddfaa
