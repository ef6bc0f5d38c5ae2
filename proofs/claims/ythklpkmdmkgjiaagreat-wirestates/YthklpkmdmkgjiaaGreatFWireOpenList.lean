/- How a list of structs that came in reads: its rows. No condition. -/
import Derived.Test.YthklpkmdmkgjiaaGreatJA
import Derived.Test.YthklpkmdmkgjiaaGreatFWireLs
import Derived.Deep.Slices
namespace Go.Proofs.YthklpkmdmkgjiaaGreat
open Go.ChangeShapes Go.WideShapes Go.ChangeAt Go.RowKit B8 Cm Wm
set_option linter.unusedVariables false
set_option maxRecDepth 100000

theorem weights_all {H : Type} {P : Program} {e : TypeId} : ∀ {l : List (DataW H)} {d : DataW H}, d ∈ l → ∀ n ∈ d.weights P e, n ∈ DataW.weightsAll P e l
  | x :: r, d, h, n, hn => by
    simp only [DataW.weightsAll, List.mem_append]
    rcases List.mem_cons.1 h with rfl | h
    · exact .inl hn
    · exact .inr (weights_all h n hn)
section
variable {H : Type} {enc : TypeId × Value → H} {W : World} {b0 : Nat} {held : Bool} {m : Nat} {cs : List Value} {y : DataW H × List MemPlace}
theorem rd_list {T TS d bytes : Nat} {KS : List Nat} (hu : Tryz.prog.underlying TS = some (.slice T)) (hce : Tryz.prog.cellsOf T = d) (hby : Tryz.prog.bytesOf T = bytes) (hd : 0 < d)
    (rd : ∀ {m : Nat} {cs : List Value} {y : DataW H × List MemPlace}, DataW.trod enc Tryz.prog W b0 (fun _ => true) held m T cs = some y → Light T y.1 → ∃ xs : List Atom, FlatL W cs xs ∧ xs.map Atom.k = KS)
    (h : DataW.trod enc Tryz.prog W b0 (fun _ => true) held m TS cs = some y) (hl : Light TS y.1) :
    ∃ (a : Option Addr) (n cp : Nat) (xss : List (List Atom)), cs = [.slice a n cp] ∧ Ls W (fun b => b < W.heap.size) a n cp d xss ∧ (∀ xs ∈ xss, xs.map Atom.k = KS) ∧ n * bytes ≤ 140737488351232 := by
  rcases Go.Deep.open_slice hu h with ⟨hcs, _⟩ | ⟨x, l, c, m', n', D, Pl, hcs, hb, hll, hm, hmm, hx, hcell⟩
  · exact ⟨none, 0, 0, [], hcs, ⟨rfl, Nat.le_refl _, fun _ => rfl, fun h => absurd h (by omega)⟩, fun xs hx => by simp at hx, by omega⟩
  · simp only [if_true] at hmm
    subst hmm
    have hd1 : y.1 = _ := congrArg Prod.fst hx
    have hlen : l * bytes ≤ 140737488351232 := by
      have := hl ((l + (m' - l)) * bytes) (by
        rw [hd1]
        simp only [DataW.weights, hu]
        rw [hby]
        simp)
      have e : reachBytes = 140737488351232 := by decide
      rw [Nat.add_mul] at this
      omega
    have each : ∀ j, j < l → ∃ xs : List Atom, (∃ cs', W.cells? b0 (x.add (j * d)) d = some cs' ∧ FlatL W cs' xs) ∧ xs.map Atom.k = KS := by
      intro j hj
      obtain ⟨cs', h1, h2⟩ := hcell j (by omega)
      rw [hce] at h1
      have lj : Light T (D j) := fun q hq => hl q (by
        rw [hd1]
        simp only [DataW.weights, hu]
        exact List.mem_cons_of_mem _ (List.mem_append_left _ (weights_all (d := D j) (List.mem_map.2 ⟨j, List.mem_range.2 hj, rfl⟩) q hq)))
      obtain ⟨xs, hf, hk⟩ := rd h2 lj
      exact ⟨xs, ⟨cs', h1, hf⟩, hk⟩
    refine ⟨some x, l, m', (List.range l).map (fun j => if h : j < l then (each j h).choose else []), hcs, ⟨by simp, hll, (fun e => by cases e), fun h0 => ?_⟩, fun xs hxs => ?_, hlen⟩
    · obtain ⟨b, off, spot⟩ := x
      obtain ⟨cs0, g1, g2⟩ := (each 0 h0).choose_spec.1
      obtain ⟨_, hl0, hc0⟩ := World.cells?_some g1
      have hsome : ∃ v, cs0[0]? = some v := ⟨_, List.getElem?_eq_getElem (by omega)⟩
      obtain ⟨v, hv⟩ := hsome
      have hc00 := (hc0 0 hd).trans hv
      have hspot : spot = none := by
        have h5 := World.cell?_spot hc00
        simpa [Addr.add] using h5
      subst hspot
      refine ⟨b, off, rfl, ?_, fun i xs hxs => ?_⟩
      · exact World.cells?_block (a := ⟨b, off, none⟩) (by simpa [Addr.add] using g1) hd
      · have hi : i < l := by have := (List.getElem?_eq_some_iff.1 hxs).1; simpa using this
        have ex : (each i hi).choose = xs := by
          rw [List.getElem?_map, List.getElem?_range hi] at hxs
          simpa [hi] using hxs
        obtain ⟨⟨cs', k1, k2⟩, _⟩ := (each i hi).choose_spec
        rw [ex] at k2
        obtain ⟨_, hl5, hc5⟩ := World.cells?_some k1
        refine ⟨by rw [← k2.1, hl5], fun q yy hy => ?_⟩
        obtain ⟨v, h6, h7⟩ := k2.2 q yy hy
        refine ⟨v, ?_, h7⟩
        have hq : q < d := by have := (List.getElem?_eq_some_iff.1 h6).1; omega
        have h8 := (hc5 q hq).trans h6
        have e6 : ((⟨b, off, none⟩ : Addr).add (i * d)).add q = ⟨b, off + i * d + q, none⟩ := by rw [Addr.add_mid, Addr.add_mid]
        exact e6 ▸ h8
    · obtain ⟨j, hj, rfl⟩ := List.mem_map.1 hxs
      have hj' := List.mem_range.1 hj
      simp only [dif_pos hj']
      exact (each j hj').choose_spec.2
end
end Go.Proofs.YthklpkmdmkgjiaaGreat
