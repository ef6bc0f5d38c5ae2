/- Lists of bytes and of structs that came in: what is known of them. No condition. -/
import Derived.Test.YtanfmpeblhegpaaDoorSq8
import Derived.Deep.Slices
import Derived.SizedLaws
namespace Go.Proofs.YtanfmpeblhegpaaDoor
open Go.ChangeShapes Go.WideShapes Go.ChangeAt Go.RowKit B8
set_option linter.unusedVariables false

theorem sq8_nil (w : World) : Sq w none 0 0 [] := ⟨rfl, Nat.le_refl _, fun _ => rfl, fun h => absurd h (by omega), wfs_nil⟩
/-- what is read is within the row's own bounds -/
def Light {H : Type} (t : TypeId) (d : DataW H) : Prop := ∀ n ∈ d.weights Tryd.prog t, n ≤ reachBytes
theorem weights_all {H : Type} {P : Program} {e : TypeId} : ∀ {l : List (DataW H)} {d : DataW H}, d ∈ l → ∀ n ∈ d.weights P e, n ∈ DataW.weightsAll P e l
  | x :: r, d, h, n, hn => by
    simp only [DataW.weightsAll, List.mem_append]
    rcases List.mem_cons.1 h with rfl | h
    · exact .inl hn
    · exact .inr (weights_all h n hn)
section
variable {H : Type} {enc : TypeId × Value → H} {W : World} {b0 : Nat} {held : Bool} {m : Nat} {cs : List Value} {y : DataW H × List MemPlace}
set_option maxRecDepth 100000 in
theorem rd_bytes (h : DataW.trod enc Tryd.prog W b0 (fun _ => true) held m 30 cs = some y) (hl : Light 30 y.1) : ∃ a n cp zs, cs = [.slice a n cp] ∧ Sq W a n cp zs ∧ cp ≤ 140737488351232 ∧ (0 < n → ∀ b off, a = some ⟨b, off, none⟩ → b < W.heap.size) := by
  rcases open_ints Tryd.underlying30 Tryd.underlying5 (by kernel_rfl) h with ⟨rfl, _⟩ | ⟨a, len, cap, zs, rfl, _, hlc, _, hz, hy, hcell, hwz⟩
  · exact ⟨none, 0, 0, [], rfl, sq8_nil W, by omega, fun h => absurd h (by omega)⟩
  · simp only [if_true] at hz
    have hw : (zs.length) * 1 ≤ reachBytes := by
      refine hl _ ?_
      rw [hy]
      show _ ∈ DataW.weights Tryd.prog 30 (.slice _ _)
      simp only [DataW.weights, Tryd.underlying30]
      rw [show Tryd.prog.bytesOf 5 = 1 from by kernel_rfl]
      refine List.mem_cons.2 (.inl ?_)
      simp [lits]
      omega
    have hq : Sq W (some a) len cap (zs.take len) := by
      refine ⟨by simp; omega, hlc, fun h => absurd h (by simp), fun h0 => ?_, ?_⟩
      · obtain ⟨b, off, spot⟩ := a
        have hc0 := hcell 0 (by omega)
        have hspot : spot = none := by simpa [Addr.add] using World.cell?_spot hc0
        subst hspot
        refine ⟨b, off, rfl, fun j hj => ?_⟩
        have := hcell j (by omega)
        rw [Addr.add_lit] at this
        simpa [List.getElem?_take, hj, List.getD] using this
      · intro j
        by_cases hj : j < (zs.take len).length
        · have hm : (zs.take len)[j] ∈ zs := List.mem_of_mem_take (List.getElem_mem hj)
          rw [List.getElem?_eq_getElem hj]; exact hwz _ hm
        · rw [List.getElem?_eq_none (Nat.le_of_not_lt hj)]
          decide
    refine ⟨some a, len, cap, _, rfl, hq, ?_, fun h0 b off e => ?_⟩
    · have : reachBytes = 140737488351232 := by decide
      omega
    · obtain ⟨b', off', e', hc⟩ := hq.cells h0
      rw [e] at e'
      cases e'
      exact World.block_lt_of_cell? W _ (hc 0 h0)
set_option maxRecDepth 100000 in
/-- a row of structs of so many cells each that came in -/
theorem rd_row {t e : TypeId} {size bytes : Nat} (ht : Tryd.prog.underlying t = some (.slice e)) (hc : Tryd.prog.cellsOf e = size) (hb : Tryd.prog.bytesOf e = bytes) (h0 : 0 < size) {α : Type} [Inhabited α] (enc' : α → List Value) (hlen : ∀ x, (enc' x).length = size) (hone : ∀ x, ∃ v r, enc' x = v :: r) (G : α → Prop)
    (hrd : ∀ (m : Nat) (cs : List Value) (y : DataW H × List MemPlace), DataW.trod enc Tryd.prog W b0 (fun _ => true) held m e cs = some y → Light e y.1 → ∃ x : α, cs = enc' x ∧ G x)
    (h : DataW.trod enc Tryd.prog W b0 (fun _ => true) held m t cs = some y) (hl : Light t y.1) :
    ∃ (a : Option Addr) (len cap : Nat) (l : List α), cs = [.slice a len cap] ∧ l.length = len ∧ (0 < len → ∃ b off, a = some ⟨b, off, none⟩ ∧ b < W.heap.size ∧ ∀ j x, l[j]? = some x → W.rangeAt b (off + j * size) (enc' x)) ∧ (∀ x ∈ l, G x) ∧ len * bytes ≤ 140737488351232 := by
  rcases Go.Deep.open_slice ht h with ⟨hcs, _⟩ | ⟨x, len, cap, mm, n, D, Pl, hcs, hbb, hlc, hm, hmm, hx, hcell⟩
  · exact ⟨none, 0, 0, [], hcs, rfl, fun h => absurd h (by omega), fun x hx => absurd hx (by simp), by omega⟩
  · simp only [if_true] at hmm
    subst hmm
    have hd : y.1 = .slice ((List.range len).map D) ((List.range (mm - len)).map fun j => D (len + j)) := by rw [hx]
    have hlen2 : len * bytes ≤ 140737488351232 := by
      have := hl ((len + (mm - len)) * bytes) (by
        rw [hd]
        simp only [DataW.weights, ht]
        rw [hb]
        simp)
      have e : reachBytes = 140737488351232 := by decide
      exact Nat.le_trans (Nat.mul_le_mul_right _ (by omega)) (e ▸ this)
    have each : ∀ j, j < len → ∃ o : α, W.cells? b0 (x.add (j * size)) size = some (enc' o) ∧ G o := by
      intro j hj
      obtain ⟨cs', h1, h2⟩ := hcell j (by omega)
      rw [hc] at h1
      have lj : Light e (D j) := fun q hq => hl q (by
        rw [hd]
        simp only [DataW.weights, ht]
        exact List.mem_cons_of_mem _ (List.mem_append_left _ (weights_all (d := D j) (List.mem_map.2 ⟨j, List.mem_range.2 hj, rfl⟩) q hq)))
      obtain ⟨o, rfl, ho⟩ := hrd _ _ _ h2 lj
      exact ⟨o, h1, ho⟩
    have ex : ∃ f : Nat → α, ∀ j, j < len → W.cells? b0 (x.add (j * size)) size = some (enc' (f j)) ∧ G (f j) := ⟨fun j => if h : j < len then (each j h).choose else default, fun j hj => by simp only [dif_pos hj]; exact (each j hj).choose_spec⟩
    obtain ⟨f, hf⟩ := ex
    refine ⟨some x, len, _, (List.range len).map f, hcs, by simp, fun h00 => ?_, fun z hz => ?_, hlen2⟩
    · obtain ⟨b, off, spot⟩ := x
      have hspot : spot = none := by
        have hc0 := (World.cells?_some (hf 0 h00).1).2.2 0 h0
        obtain ⟨v, r, ev⟩ := hone (f 0)
        rw [ev] at hc0
        simp [Addr.add] at hc0
        simpa using World.cell?_spot hc0
      subst hspot
      refine ⟨b, off, rfl, ?_, fun j z hj k v hk => ?_⟩
      · exact World.cells?_block (a := ⟨b, off, none⟩) (by simpa [Addr.add] using (hf 0 h00).1) h0
      · have hjl : j < len := by
          have := (List.getElem?_eq_some_iff.1 hj).1
          simpa using this
        have hz : f j = z := by simpa [List.getElem?_map, List.getElem?_range hjl] using hj
        subst hz
        obtain ⟨_, hl5, hc5⟩ := World.cells?_some (hf j hjl).1
        have hk5 : k < size := by
          have := (List.getElem?_eq_some_iff.1 hk).1
          rw [hlen] at this
          exact this
        have h6 := (hc5 k hk5).trans hk
        have e6 : ((⟨b, off, none⟩ : Addr).add (j * size)).add k = ⟨b, off + j * size + k, none⟩ := by rw [Addr.add_mid, Addr.add_mid]
        exact e6 ▸ h6
    · obtain ⟨j, hj, rfl⟩ := List.mem_map.1 hz
      exact (hf j (List.mem_range.1 hj)).2
end
end Go.Proofs.YtanfmpeblhegpaaDoor
