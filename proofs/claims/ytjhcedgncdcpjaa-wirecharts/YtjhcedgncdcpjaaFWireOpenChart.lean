/- How a chart that came in by value reads: its plain fields and its lists. No condition. -/
import Derived.Test.YtjhcedgncdcpjaaJA
import Derived.Test.YtjhcedgncdcpjaaFWireChartVal
import Derived.Deep.Slices
namespace Go.Proofs.Ytjhcedgncdcpjaa
open Go.ChangeShapes Go.WideShapes Go.ChangeAt Go.RowKit B8 Cm Wm
set_option linter.unusedVariables false
set_option maxRecDepth 100000

theorem weights_all {H : Type} {P : Program} {e : TypeId} : ∀ {l : List (DataW H)} {d : DataW H}, d ∈ l → ∀ n ∈ d.weights P e, n ∈ DataW.weightsAll P e l
  | x :: r, d, h, n, hn => by
    simp only [DataW.weightsAll, List.mem_append]
    rcases List.mem_cons.1 h with rfl | h
    · exact .inl hn
    · exact .inr (weights_all h n hn)
section
variable {H : Type} {enc : TypeId × Value → H} {W : World} {b0 : Nat} {held : Bool} {m : Nat} {cs : List Value} {y : DataW H × List MemPlace}
theorem cells_placeo : Try.prog.cellsOf 59 = 3 := by kernel_rfl
theorem rd_place (h : DataW.trod enc Try.prog W b0 (fun _ => true) held m 59 cs = some y) (hl : Light 59 y.1) : ∃ xs : List Atom, FlatL W cs xs ∧ xs.map Atom.k = [0, 3, 0] := by
  obtain ⟨k, hc, hf⟩ := rd_struct Try.underlying59 h hl
  rw [cells_placeo] at hc
  obtain ⟨z0, t0, g0⟩ := hf 0 _ rfl
  obtain ⟨x0, f0, k0⟩ := rd_int Try.underlying3 t0
  have f0 : FlatL W ((cs.drop 0).take 1) [x0] := f0
  obtain ⟨z1, t1, g1⟩ := hf 1 _ rfl
  obtain ⟨x1, f1, k1⟩ := rd_str Try.underlying9 t1 g1
  have f1 : FlatL W ((cs.drop 1).take 1) [x1] := f1
  obtain ⟨z2, t2, g2⟩ := hf 2 _ rfl
  obtain ⟨x2, f2, k2⟩ := rd_int Try.underlying3 t2
  have f2 : FlatL W ((cs.drop 2).take 1) [x2] := f2
  have e2 := fl_end (o := 2) f2 hc
  have e1 := fl_cons (o := 1) (n := 1) f1 e2 (by omega)
  have e0 := fl_cons (o := 0) (n := 1) f0 e1 (by omega)
  rw [List.drop_zero] at e0
  exact ⟨_, e0, by simp [k0, k1, k2]⟩
theorem cells_answero : Try.prog.cellsOf 62 = 4 := by kernel_rfl
theorem rd_answer (h : DataW.trod enc Try.prog W b0 (fun _ => true) held m 62 cs = some y) (hl : Light 62 y.1) : ∃ xs : List Atom, FlatL W cs xs ∧ xs.map Atom.k = [0, 0, 0, 0] := by
  obtain ⟨k, hc, hf⟩ := rd_struct Try.underlying62 h hl
  rw [cells_answero] at hc
  obtain ⟨z0, t0, g0⟩ := hf 0 _ rfl
  obtain ⟨x0, f0, k0⟩ := rd_int Try.underlying29 t0
  have f0 : FlatL W ((cs.drop 0).take 1) [x0] := f0
  obtain ⟨z1, t1, g1⟩ := hf 1 _ rfl
  obtain ⟨x1, f1, k1⟩ := rd_int Try.underlying3 t1
  have f1 : FlatL W ((cs.drop 1).take 1) [x1] := f1
  obtain ⟨z2, t2, g2⟩ := hf 2 _ rfl
  obtain ⟨x2, f2, k2⟩ := rd_int Try.underlying3 t2
  have f2 : FlatL W ((cs.drop 2).take 1) [x2] := f2
  obtain ⟨z3, t3, g3⟩ := hf 3 _ rfl
  obtain ⟨x3, f3, k3⟩ := rd_int Try.underlying3 t3
  have f3 : FlatL W ((cs.drop 3).take 1) [x3] := f3
  have e3 := fl_end (o := 3) f3 hc
  have e2 := fl_cons (o := 2) (n := 1) f2 e3 (by omega)
  have e1 := fl_cons (o := 1) (n := 1) f1 e2 (by omega)
  have e0 := fl_cons (o := 0) (n := 1) f0 e1 (by omega)
  rw [List.drop_zero] at e0
  exact ⟨_, e0, by simp [k0, k1, k2, k3]⟩
theorem cells_marko : Try.prog.cellsOf 64 = 7 := by kernel_rfl
theorem rd_mark (h : DataW.trod enc Try.prog W b0 (fun _ => true) held m 64 cs = some y) (hl : Light 64 y.1) : ∃ xs : List Atom, FlatL W cs xs ∧ xs.map Atom.k = [0, 0, 2, 0, 0, 0, 0] := by
  obtain ⟨k, hc, hf⟩ := rd_struct Try.underlying64 h hl
  rw [cells_marko] at hc
  obtain ⟨z0, t0, g0⟩ := hf 0 _ rfl
  obtain ⟨x0, f0, k0⟩ := rd_int Try.underlying3 t0
  have f0 : FlatL W ((cs.drop 0).take 1) [x0] := f0
  obtain ⟨z1, t1, g1⟩ := hf 1 _ rfl
  obtain ⟨x1, f1, k1⟩ := rd_int Try.underlying3 t1
  have f1 : FlatL W ((cs.drop 1).take 1) [x1] := f1
  obtain ⟨z2, t2, g2⟩ := hf 2 _ rfl
  obtain ⟨x2, f2, k2⟩ := rd_bool Try.underlying4 t2
  have f2 : FlatL W ((cs.drop 2).take 1) [x2] := f2
  obtain ⟨z3, t3, g3⟩ := hf 3 _ rfl
  obtain ⟨x3, f3, k3⟩ := rd_answer t3 g3
  have f3 : FlatL W ((cs.drop 3).take (Try.prog.cellsOf 62)) x3 := f3
  rw [cells_answero] at f3
  have e3 := fl_end (o := 3) f3 hc
  have e2 := fl_cons (o := 2) (n := 1) f2 e3 (by omega)
  have e1 := fl_cons (o := 1) (n := 1) f1 e2 (by omega)
  have e0 := fl_cons (o := 0) (n := 1) f0 e1 (by omega)
  rw [List.drop_zero] at e0
  exact ⟨_, e0, by simp [k0, k1, k2, k3]⟩
theorem rd_list {T TS d bytes : Nat} {KS : List Nat} (hu : Try.prog.underlying TS = some (.slice T)) (hce : Try.prog.cellsOf T = d) (hby : Try.prog.bytesOf T = bytes) (hd : 0 < d)
    (rd : ∀ {m : Nat} {cs : List Value} {y : DataW H × List MemPlace}, DataW.trod enc Try.prog W b0 (fun _ => true) held m T cs = some y → Light T y.1 → ∃ xs : List Atom, FlatL W cs xs ∧ xs.map Atom.k = KS)
    (h : DataW.trod enc Try.prog W b0 (fun _ => true) held m TS cs = some y) (hl : Light TS y.1) :
    ∃ (a : Option Addr) (n cp : Nat) (xss : List (List Atom)), cs = [.slice a n cp] ∧ Ls W (fun b => b < W.heap.size) a n cp d xss ∧ (∀ xs ∈ xss, xs.map Atom.k = KS) ∧ n * bytes ≤ 140737488351232 := by
  rcases Go.Deep.open_slice hu h with ⟨hcs, _⟩ | ⟨x, l, c, m', n', D, Pl, hcs, hb, hll, hm, hmm, hx, hcell⟩
  · exact ⟨none, 0, 0, [], hcs, ⟨rfl, Nat.le_refl _, fun _ => rfl, fun h => absurd h (by omega)⟩, fun xs hx => by simp at hx, by omega⟩
  · simp only [if_true] at hmm
    subst hmm
    have hd1 : y.1 = _ := congrArg Prod.fst hx
    have hlen : l * bytes ≤ 140737488351232 := by
      have := hl ((l + (m' - l)) * bytes) (by
        rw [hd1]
        simp only [DataW.weights, hu]
        rw [hby]
        simp)
      have e : reachBytes = 140737488351232 := by decide
      rw [Nat.add_mul] at this
      omega
    have each : ∀ j, j < l → ∃ xs : List Atom, (∃ cs', W.cells? b0 (x.add (j * d)) d = some cs' ∧ FlatL W cs' xs) ∧ xs.map Atom.k = KS := by
      intro j hj
      obtain ⟨cs', h1, h2⟩ := hcell j (by omega)
      rw [hce] at h1
      have lj : Light T (D j) := fun q hq => hl q (by
        rw [hd1]
        simp only [DataW.weights, hu]
        exact List.mem_cons_of_mem _ (List.mem_append_left _ (weights_all (d := D j) (List.mem_map.2 ⟨j, List.mem_range.2 hj, rfl⟩) q hq)))
      obtain ⟨xs, hf, hk⟩ := rd h2 lj
      exact ⟨xs, ⟨cs', h1, hf⟩, hk⟩
    refine ⟨some x, l, m', (List.range l).map (fun j => if h : j < l then (each j h).choose else []), hcs, ⟨by simp, hll, (fun e => by cases e), fun h0 => ?_⟩, fun xs hxs => ?_, hlen⟩
    · obtain ⟨b, off, spot⟩ := x
      obtain ⟨cs0, g1, g2⟩ := (each 0 h0).choose_spec.1
      obtain ⟨_, hl0, hc0⟩ := World.cells?_some g1
      have hsome : ∃ v, cs0[0]? = some v := ⟨_, List.getElem?_eq_getElem (by omega)⟩
      obtain ⟨v, hv⟩ := hsome
      have hc00 := (hc0 0 hd).trans hv
      have hspot : spot = none := by
        have h5 := World.cell?_spot hc00
        simpa [Addr.add] using h5
      subst hspot
      refine ⟨b, off, rfl, ?_, fun i xs hxs => ?_⟩
      · exact World.cells?_block (a := ⟨b, off, none⟩) (by simpa [Addr.add] using g1) hd
      · have hi : i < l := by have := (List.getElem?_eq_some_iff.1 hxs).1; simpa using this
        have ex : (each i hi).choose = xs := by
          rw [List.getElem?_map, List.getElem?_range hi] at hxs
          simpa [hi] using hxs
        obtain ⟨⟨cs', k1, k2⟩, _⟩ := (each i hi).choose_spec
        rw [ex] at k2
        obtain ⟨_, hl5, hc5⟩ := World.cells?_some k1
        refine ⟨by rw [← k2.1, hl5], fun q yy hy => ?_⟩
        obtain ⟨v, h6, h7⟩ := k2.2 q yy hy
        refine ⟨v, ?_, h7⟩
        have hq : q < d := by have := (List.getElem?_eq_some_iff.1 h6).1; omega
        have h8 := (hc5 q hq).trans h6
        have e6 : ((⟨b, off, none⟩ : Addr).add (i * d)).add q = ⟨b, off + i * d + q, none⟩ := by rw [Addr.add_mid, Addr.add_mid]
        exact e6 ▸ h8
    · obtain ⟨j, hj, rfl⟩ := List.mem_map.1 hxs
      have hj' := List.mem_range.1 hj
      simp only [dif_pos hj']
      exact (each j hj').choose_spec.2
theorem cells_charto : Try.prog.cellsOf 27 = 12 := by kernel_rfl
theorem cells_list1 : Try.prog.cellsOf 22 = 1 := by kernel_rfl
theorem cells_list2 : Try.prog.cellsOf 25 = 1 := by kernel_rfl
theorem rd_chart (h : DataW.trod enc Try.prog W b0 (fun _ => true) held m 27 cs = some y) (hl : Light 27 y.1) : ∃ x : Cht, ChtV W (fun b => b < W.heap.size) cs.toArray x ∧ ChtK x ∧ x.ps.length * 32 ≤ 140737488351232 ∧ x.ms.length * 56 ≤ 140737488351232 := by
  obtain ⟨k, hc, hf⟩ := rd_struct Try.underlying27 h hl
  rw [cells_charto] at hc
  obtain ⟨z0, t0, g0⟩ := hf 0 _ rfl
  obtain ⟨x0, f0, k0⟩ := rd_int Try.underlying3 t0
  have f0 : FlatL W ((cs.drop 0).take 1) [x0] := f0
  obtain ⟨z1, t1, g1⟩ := hf 1 _ rfl
  obtain ⟨a1, n1, c1, ps, e1, l1, kp, b1⟩ := rd_list (bytes := 32) Try.underlying22 cells_placeo (by kernel_rfl) (by omega) (fun h hl => rd_place h hl) t1 g1
  have e1 : (cs.drop 1).take (Try.prog.cellsOf 22) = [.slice a1 n1 c1] := e1
  rw [cells_list1] at e1
  obtain ⟨z2, t2, g2⟩ := hf 2 _ rfl
  obtain ⟨x2, f2, k2⟩ := rd_int Try.underlying3 t2
  have f2 : FlatL W ((cs.drop 2).take 1) [x2] := f2
  obtain ⟨z3, t3, g3⟩ := hf 3 _ rfl
  obtain ⟨x3, f3, k3⟩ := rd_int Try.underlying3 t3
  have f3 : FlatL W ((cs.drop 3).take 1) [x3] := f3
  obtain ⟨z4, t4, g4⟩ := hf 4 _ rfl
  obtain ⟨x4, f4, k4⟩ := rd_plan t4 g4
  have f4 : FlatL W ((cs.drop 4).take (Try.prog.cellsOf 24)) x4 := f4
  rw [cells_plan] at f4
  obtain ⟨z5, t5, g5⟩ := hf 5 _ rfl
  obtain ⟨a5, n5, c5, ms, e5, l5, km, b5⟩ := rd_list (bytes := 56) Try.underlying25 cells_marko (by kernel_rfl) (by omega) (fun h hl => rd_mark h hl) t5 g5
  have e5 : (cs.drop 11).take (Try.prog.cellsOf 25) = [.slice a5 n5 c5] := e5
  rw [cells_list2] at e5
  have lx4 : x4.length = 7 := by have := congrArg List.length k4; simpa using this
  refine ⟨⟨[x0], ps, [x2, x3] ++ x4, ms⟩, ⟨by simpa using hc, rfl, by simp [lx4], fun j z hz => ?_, ⟨a1, n1, c1, ?_, l1⟩, fun j z hz => ?_, ⟨a5, n5, c5, ?_, l5⟩⟩, ⟨by simp [k0], kp, by simp [k2, k3, k4], km⟩, by rw [l1.length]; exact b1, by rw [l5.length]; exact b5⟩
  · obtain ⟨v, h1, h2⟩ := f0.2 j z hz
    have hj : j < 1 := by have := (List.getElem?_eq_some_iff.1 hz).1; simpa using this
    refine ⟨v, ?_, h2⟩
    rw [List.getElem?_take, if_pos hj, List.getElem?_drop, Nat.zero_add] at h1
    simpa using h1
  · have : ((cs.drop 1).take 1)[0]? = some (.slice a1 n1 c1) := by rw [e1]; rfl
    rw [List.getElem?_take, if_pos (by omega), List.getElem?_drop] at this
    simpa using this
  · have q : ∃ v, cs[2 + j]? = some v ∧ AtomV W (fun b => b < W.heap.size) v z := by
      have hz' : ([x2, x3] ++ x4)[j]? = some z := hz
      match j, hz' with
      | 0, hz' =>
        obtain ⟨v, h1, h2⟩ := f2.2 0 z (by simpa using hz')
        rw [List.getElem?_take, if_pos (by omega), List.getElem?_drop] at h1
        exact ⟨v, h1, h2⟩
      | 1, hz' =>
        obtain ⟨v, h1, h2⟩ := f3.2 0 z (by simpa using hz')
        rw [List.getElem?_take, if_pos (by omega), List.getElem?_drop] at h1
        exact ⟨v, h1, h2⟩
      | j + 2, hz' =>
        have hz2 : x4[j]? = some z := by simpa using hz'
        obtain ⟨v, h1, h2⟩ := f4.2 j z hz2
        have hj : j < 7 := by have := (List.getElem?_eq_some_iff.1 hz2).1; omega
        rw [List.getElem?_take, if_pos hj, List.getElem?_drop] at h1
        exact ⟨v, by rw [show 2 + (j + 2) = 4 + j by omega]; exact h1, h2⟩
    obtain ⟨v, h1, h2⟩ := q
    exact ⟨v, by simpa using h1, h2⟩
  · have : ((cs.drop 11).take 1)[0]? = some (.slice a5 n5 c5) := by rw [e5]; rfl
    rw [List.getElem?_take, if_pos (by omega), List.getElem?_drop] at this
    simpa using this
end
theorem open_chart_held {H : Type} {enc : TypeId × Value → H} {W : World} {r : Reach} {base b0 : Nat} {held : Bool} {v : Value} {d : DataW H} {p : List MemPlace}
    (hv : Value.okWide Try.prog W r base 27 v) (h : DataW.Trod enc Try.prog W b0 (fun _ => true) held 27 v d p) (hl : Light 27 d) :
    ∃ (cs : Array Value) (x : Cht), v = .agg cs ∧ ChtV W (fun b => b < W.heap.size) cs x ∧ ChtK x ∧ x.ps.length * 32 ≤ 140737488351232 ∧ x.ms.length * 56 ≤ 140737488351232 := by
  obtain ⟨cs, rfl, hsz⟩ := okWide_struct Try.underlying27 hv
  obtain ⟨m, hm⟩ := h
  obtain ⟨x, hx, hk⟩ := rd_chart hm hl
  exact ⟨cs, x, rfl, by simpa [Value.cells] using hx, hk⟩
end Go.Proofs.Ytjhcedgncdcpjaa
