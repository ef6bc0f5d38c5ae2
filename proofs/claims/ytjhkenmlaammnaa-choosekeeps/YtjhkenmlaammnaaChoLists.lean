/- Promises that came in: what is known of them. No condition. -/
import Derived.Test.YtjhkenmlaammnaaChoMem
namespace Go.Proofs.Ytjhkenmlaammnaa
open Go.ChangeShapes Go.WideShapes Go.ChangeAt Go.RowKit B8 Am Cz
set_option linter.unusedVariables false

section
variable {H : Type} {enc : TypeId × Value → H} {W : World} {b0 : Nat} {held : Bool} {m : Nat} {cs : List Value} {y : DataW H × List MemPlace}
set_option maxRecDepth 100000 in
/-- a row of structs of so many cells each that came in -/
theorem rd_row {t e : TypeId} {size bytes : Nat} (ht : Try.prog.underlying t = some (.slice e)) (hc : Try.prog.cellsOf e = size) (hb : Try.prog.bytesOf e = bytes) (h0 : 0 < size) {α : Type} [Inhabited α] (enc' : α → List Value) (hlen : ∀ x, (enc' x).length = size) (hone : ∀ x, ∃ v r, enc' x = v :: r) (G : α → Prop)
    (hrd : ∀ (m : Nat) (cs : List Value) (y : DataW H × List MemPlace), DataW.trod enc Try.prog W b0 (fun _ => true) held m e cs = some y → Light e y.1 → ∃ x : α, cs = enc' x ∧ G x)
    (h : DataW.trod enc Try.prog W b0 (fun _ => true) held m t cs = some y) (hl : Light t y.1) :
    ∃ (a : Option Addr) (len cap : Nat) (l : List α), cs = [.slice a len cap] ∧ l.length = len ∧ (0 < len → ∃ b off, a = some ⟨b, off, none⟩ ∧ b < W.heap.size ∧ ∀ j x, l[j]? = some x → W.rangeAt b (off + j * size) (enc' x)) ∧ (∀ x ∈ l, G x) ∧ len * bytes ≤ 140737488351232 := by
  rcases Go.Deep.open_slice ht h with ⟨hcs, _⟩ | ⟨x, len, cap, mm, n, D, Pl, hcs, hbb, hlc, hm, hmm, hx, hcell⟩
  · exact ⟨none, 0, 0, [], hcs, rfl, fun h => absurd h (by omega), fun x hx => absurd hx (by simp), by omega⟩
  · simp only [if_true] at hmm
    subst hmm
    have hd : y.1 = .slice ((List.range len).map D) ((List.range (mm - len)).map fun j => D (len + j)) := by rw [hx]
    have hlen2 : len * bytes ≤ 140737488351232 := by
      have := hl ((len + (mm - len)) * bytes) (by
        rw [hd]
        simp only [DataW.weights, ht]
        rw [hb]
        simp)
      have e : reachBytes = 140737488351232 := by decide
      exact Nat.le_trans (Nat.mul_le_mul_right _ (by omega)) (e ▸ this)
    have each : ∀ j, j < len → ∃ o : α, W.cells? b0 (x.add (j * size)) size = some (enc' o) ∧ G o := by
      intro j hj
      obtain ⟨cs', h1, h2⟩ := hcell j (by omega)
      rw [hc] at h1
      have lj : Light e (D j) := fun q hq => hl q (by
        rw [hd]
        simp only [DataW.weights, ht]
        exact List.mem_cons_of_mem _ (List.mem_append_left _ (weights_all (d := D j) (List.mem_map.2 ⟨j, List.mem_range.2 hj, rfl⟩) q hq)))
      obtain ⟨o, rfl, ho⟩ := hrd _ _ _ h2 lj
      exact ⟨o, h1, ho⟩
    have ex : ∃ f : Nat → α, ∀ j, j < len → W.cells? b0 (x.add (j * size)) size = some (enc' (f j)) ∧ G (f j) := ⟨fun j => if h : j < len then (each j h).choose else default, fun j hj => by simp only [dif_pos hj]; exact (each j hj).choose_spec⟩
    obtain ⟨f, hf⟩ := ex
    refine ⟨some x, len, _, (List.range len).map f, hcs, by simp, fun h00 => ?_, fun z hz => ?_, hlen2⟩
    · obtain ⟨b, off, spot⟩ := x
      have hspot : spot = none := by
        have hc0 := (World.cells?_some (hf 0 h00).1).2.2 0 h0
        obtain ⟨v, r, ev⟩ := hone (f 0)
        rw [ev] at hc0
        simp [Addr.add] at hc0
        simpa using World.cell?_spot hc0
      subst hspot
      refine ⟨b, off, rfl, ?_, fun j z hj k v hk => ?_⟩
      · exact World.cells?_block (a := ⟨b, off, none⟩) (by simpa [Addr.add] using (hf 0 h00).1) h0
      · have hjl : j < len := by
          have := (List.getElem?_eq_some_iff.1 hj).1
          simpa using this
        have hz : f j = z := by simpa [List.getElem?_map, List.getElem?_range hjl] using hj
        subst hz
        obtain ⟨_, hl5, hc5⟩ := World.cells?_some (hf j hjl).1
        have hk5 : k < size := by
          have := (List.getElem?_eq_some_iff.1 hk).1
          rw [hlen] at this
          exact this
        have h6 := (hc5 k hk5).trans hk
        have e6 : ((⟨b, off, none⟩ : Addr).add (j * size)).add k = ⟨b, off + j * size + k, none⟩ := by rw [Addr.add_mid, Addr.add_mid]
        exact e6 ▸ h6
    · obtain ⟨j, hj, rfl⟩ := List.mem_map.1 hz
      exact (hf j (List.mem_range.1 hj)).2
instance instVv2 : Inhabited Vv := ⟨⟨0, 0, 0, none, 0, 0, []⟩⟩
theorem rd_votes (h : DataW.trod enc Try.prog W b0 (fun _ => true) held m 34 cs = some y) (hl : Light 34 y.1) : ∃ a len cap l, cs = [.slice a len cap] ∧ Vs W a len l := by
  obtain ⟨a, len, cap, l, h1, h2, h3, h4, h5⟩ := rd_row (bytes := 48) Try.underlying34 four_vote (by kernel_rfl) (by omega) Vv.cells (fun _ => rfl) (fun x => ⟨_, _, rfl⟩) (VOk W) (fun m cs y h hl => rd_vote h hl) h hl
  exact ⟨a, len, cap, l, h1, ⟨h2, h3, fun p hp => ⟨(h4 p hp).q, by have h6 := (h4 p hp).room; have h7 := (h4 p hp).q.lecap; omega⟩, h5⟩⟩
theorem prom_fields : ∃ f0 f1 : Field, Try.prog.underlying 36 = some (.struct #[f0, f1]) ∧ (f0.offset = 0 ∧ f0.type = 3) ∧ (f1.offset = 1 ∧ f1.type = 34) :=
  ⟨_, _, Try.underlying36, ⟨rfl, rfl⟩, ⟨rfl, rfl⟩⟩
theorem one_votes : Try.prog.cellsOf 34 = 1 := by kernel_rfl
theorem two_prom : Try.prog.cellsOf 36 = 2 := by kernel_rfl
set_option maxRecDepth 100000 in
theorem rd_prom (h : DataW.trod enc Try.prog W b0 (fun _ => true) held m 36 cs = some y) (hl : Light 36 y.1) : ∃ p : Pp, cs = p.cells ∧ Vs W p.a p.m p.l ∧ (Lit.int .i64 p.nd).wf = true := by
  obtain ⟨f0, f1, hu, ⟨o0, t0⟩, ⟨o1, t1⟩⟩ := prom_fields
  obtain ⟨xs, k, hk, hy, hc, hx, hf⟩ := DataW.trod_struct hu h
  rw [two_prom] at hc
  match xs, hx, cs, hc with
  | [y0, y1], _, [v0, v1], _ =>
    have g0 := hf 0 f0 rfl
    have g1 := hf 1 f1 rfl
    simp [o0, o1, t0, t1, one_int, one_votes] at g0 g1
    obtain ⟨z0, e0, _, w0⟩ := DataW.trod_int Try.underlying3 g0
    have l1 : Light 34 y1.1 := fun n hn => hl n (by
      rw [hy]
      show n ∈ DataW.weights Try.prog 36 (.agg ([y0, y1].map (·.1)))
      simp only [DataW.weights, hu]
      exact DataW.weights_mem_each (j := 1) (t := 34) (d := y1.1) (by simp [t1]) rfl n hn)
    obtain ⟨a, len, cap, l, e1, hv⟩ := rd_votes g1 l1
    simp at e0 e1
    exact ⟨⟨z0, a, len, cap, l⟩, by rw [e0, e1]; rfl, hv, w0⟩
end
instance instPp2 : Inhabited Pp := ⟨⟨0, none, 0, 0, []⟩⟩
set_option maxRecDepth 100000 in
theorem open_proms_held {H : Type} {enc : TypeId × Value → H} {W : World} {r : Reach} {base b0 : Nat} {held : Bool} {v : Value} {d : DataW H} {p : List MemPlace}
    (hv : Value.okWide Try.prog W r base 22 v) (h : DataW.Trod enc Try.prog W b0 (fun _ => true) held 22 v d p)
    (hw : ∀ n ∈ d.weights Try.prog 22, n ≤ reachBytes) :
    ∃ (a : Option Addr) (len cap : Nat) (l : List Pp), v = .slice a len cap ∧ Ps W a len l := by
  obtain ⟨a, len, cap, rfl⟩ := okWide_slice Try.underlying22 hv
  obtain ⟨fuel, hf⟩ := h
  obtain ⟨a', len', cap', l, h1, h2, h3, h4, h5⟩ := rd_row (bytes := 32) Try.underlying22 two_prom (by kernel_rfl) (by omega) Pp.cells (fun _ => rfl) (fun x => ⟨_, _, rfl⟩) (fun p => Vs W p.a p.m p.l ∧ (Lit.int .i64 p.nd).wf = true) (fun m cs y h hl => rd_prom h hl) hf hw
  simp [Value.cells] at h1
  obtain ⟨rfl, rfl, rfl⟩ := h1
  exact ⟨_, _, _, l, rfl, ⟨h2, h3, h4, h5⟩⟩
end Go.Proofs.Ytjhkenmlaammnaa
