/- A list of calls on an acceptor, and a list of votes, that came in: what is known of them, and that they stay where nothing old is written. No condition. -/
import Derived.Test.YtjhkenmlaammnaaBallotOpen
import Derived.Test.YtjhkenmlaammnaaAccMem
import Derived.Deep.Slices
import Derived.SizedLaws
namespace Go.Proofs.Ytjhkenmlaammnaa
open Go.ChangeShapes Go.WideShapes Go.ChangeAt Go.RowKit B8 Am
set_option linter.unusedVariables false

theorem sq8_nil (w : World) : Sq w none 0 0 [] := ⟨rfl, Nat.le_refl _, fun _ => rfl, fun h => absurd h (by omega), wfs_nil⟩
theorem rangeAt_same {w w' : World} {b o : Nat} {cs : List Value} (h : w.rangeAt b o cs) (e : w'.heap[b]? = w.heap[b]?) : w'.rangeAt b o cs := fun j v hv => (World.cell?_of_block (w := w) (w' := w') (a := ⟨b, o + j, none⟩) e).trans (h j v hv)
/-- a call on an acceptor: its kind, and a vote -/
structure Opd where
  kind : Int
  v : Vv
def opc (o : Opd) : List Value := [.int .i64 o.kind, .int .i64 o.v.s, .int .i64 o.v.r, .int .i64 o.v.n, .slice o.v.a o.v.m o.v.cp]
structure VOk (w : World) (v : Vv) : Prop where
  q : Sq w v.a v.m v.cp v.b
  room : v.cp ≤ 140737488351232
  sw : v.s ≤ 9223372036854775807
/-- the slice at a has these calls in the world w -/
structure Ops (w : World) (a : Option Addr) (len : Nat) (os : Nat → Opd) : Prop where
  cells : 0 < len → ∃ b off, a = some ⟨b, off, none⟩ ∧ b < w.heap.size ∧ ∀ j, j < len → w.rangeAt b (off + j * 5) (opc (os j))
  each : ∀ j, j < len → VOk w (os j).v
  room : len * 56 ≤ 140737488351232
theorem VOk.below {w w' : World} {o : Vv} (h : VOk w o) (hb : Below w.heap.size w w') : VOk w' o := ⟨h.q.below hb, h.room, h.sw⟩
theorem VOk.inn {w w' : World} {o : Vv} {N : Nat} (h : VOk w o) (hN : w.heap.size ≤ N) : o.In w (fun k => k < N) :=
  ⟨h.q, fun h0 ad e => by
    obtain ⟨b, off, e2, hc⟩ := h.q.cells h0
    rw [e] at e2
    cases e2
    exact Nat.lt_of_lt_of_le (World.block_lt_of_cell? w _ (hc 0 h0)) hN⟩
theorem Ops.below {w w' : World} {a : Option Addr} {len : Nat} {os : Nat → Opd} (h : Ops w a len os) (hb : Below w.heap.size w w') : Ops w' a len os :=
  ⟨fun h0 => by
    obtain ⟨b, off, e, hl, hc⟩ := h.cells h0
    exact ⟨b, off, e, Nat.lt_of_lt_of_le hl hb.size, fun j hj => rangeAt_same (hc j hj) (hb.block b hl)⟩, fun j hj => (h.each j hj).below hb, h.room⟩
/-- the slice at a has these votes in the world w -/
structure Vts (w : World) (a : Option Addr) (len : Nat) (vs : Nat → Vv) : Prop where
  cells : 0 < len → ∃ b off, a = some ⟨b, off, none⟩ ∧ b < w.heap.size ∧ ∀ j, j < len → w.rangeAt b (off + j * 4) (vs j).cells
  each : ∀ j, j < len → VOk w (vs j)
  room : len * 48 ≤ 140737488351232
theorem Vts.below {w w' : World} {a : Option Addr} {len : Nat} {os : Nat → Vv} (h : Vts w a len os) (hb : Below w.heap.size w w') : Vts w' a len os :=
  ⟨fun h0 => by
    obtain ⟨b, off, e, hl, hc⟩ := h.cells h0
    exact ⟨b, off, e, Nat.lt_of_lt_of_le hl hb.size, fun j hj => rangeAt_same (hc j hj) (hb.block b hl)⟩, fun j hj => (h.each j hj).below hb, h.room⟩

/-- what is read is within the row's own bounds -/
def Light {H : Type} (t : TypeId) (d : DataW H) : Prop := ∀ n ∈ d.weights Try.prog t, n ≤ reachBytes
theorem weights_all {H : Type} {P : Program} {e : TypeId} : ∀ {l : List (DataW H)} {d : DataW H}, d ∈ l → ∀ n ∈ d.weights P e, n ∈ DataW.weightsAll P e l
  | x :: r, d, h, n, hn => by
    simp only [DataW.weightsAll, List.mem_append]
    rcases List.mem_cons.1 h with rfl | h
    · exact .inl hn
    · exact .inr (weights_all h n hn)
section
variable {H : Type} {enc : TypeId × Value → H} {W : World} {b0 : Nat} {held : Bool} {m : Nat} {cs : List Value} {y : DataW H × List MemPlace}
set_option maxRecDepth 100000 in
theorem rd_bytes (h : DataW.trod enc Try.prog W b0 (fun _ => true) held m 37 cs = some y) (hl : Light 37 y.1) : ∃ a n cp zs, cs = [.slice a n cp] ∧ Sq W a n cp zs ∧ cp ≤ 140737488351232 ∧ (0 < n → ∀ b off, a = some ⟨b, off, none⟩ → b < W.heap.size) := by
  rcases open_ints Try.underlying37 Try.underlying5 (by kernel_rfl) h with ⟨rfl, _⟩ | ⟨a, len, cap, zs, rfl, _, hlc, _, hz, hy, hcell, hwz⟩
  · exact ⟨none, 0, 0, [], rfl, sq8_nil W, by omega, fun h => absurd h (by omega)⟩
  · simp only [if_true] at hz
    have hw : (zs.length) * 1 ≤ reachBytes := by
      refine hl _ ?_
      rw [hy]
      show _ ∈ DataW.weights Try.prog 37 (.slice _ _)
      simp only [DataW.weights, Try.underlying37]
      rw [show Try.prog.bytesOf 5 = 1 from by kernel_rfl]
      refine List.mem_cons.2 (.inl ?_)
      simp [lits]
      omega
    have hq : Sq W (some a) len cap (zs.take len) := by
      refine ⟨by simp; omega, hlc, fun h => absurd h (by simp), fun h0 => ?_, ?_⟩
      · obtain ⟨b, off, spot⟩ := a
        have hc0 := hcell 0 (by omega)
        have hspot : spot = none := by simpa [Addr.add] using World.cell?_spot hc0
        subst hspot
        refine ⟨b, off, rfl, fun j hj => ?_⟩
        have := hcell j (by omega)
        rw [Addr.add_lit] at this
        simpa [List.getElem?_take, hj, List.getD] using this
      · intro j
        by_cases hj : j < (zs.take len).length
        · have hm : (zs.take len)[j] ∈ zs := List.mem_of_mem_take (List.getElem_mem hj)
          rw [List.getElem?_eq_getElem hj]; exact hwz _ hm
        · rw [List.getElem?_eq_none (Nat.le_of_not_lt hj)]
          decide
    refine ⟨some a, len, cap, _, rfl, hq, ?_, fun h0 b off e => ?_⟩
    · have : reachBytes = 140737488351232 := by decide
      omega
    · obtain ⟨b', off', e', hc⟩ := hq.cells h0
      rw [e] at e'
      cases e'
      exact World.block_lt_of_cell? W _ (hc 0 h0)
theorem vote_fields : ∃ f0 f1 f2 : Field, Try.prog.underlying 45 = some (.struct #[f0, f1, f2]) ∧ (f0.offset = 0 ∧ f0.type = 3) ∧ (f1.offset = 1 ∧ f1.type = 43) ∧ (f2.offset = 3 ∧ f2.type = 37) :=
  ⟨_, _, _, Try.underlying45, ⟨rfl, rfl⟩, ⟨rfl, rfl⟩, ⟨rfl, rfl⟩⟩
theorem ballot_fields : ∃ f0 f1 : Field, Try.prog.underlying 43 = some (.struct #[f0, f1]) ∧ (f0.offset = 0 ∧ f0.type = 3) ∧ (f1.offset = 1 ∧ f1.type = 3) :=
  ⟨_, _, Try.underlying43, ⟨rfl, rfl⟩, ⟨rfl, rfl⟩⟩
theorem one_int : Try.prog.cellsOf 3 = 1 := by kernel_rfl
theorem one_bytes : Try.prog.cellsOf 37 = 1 := by kernel_rfl
theorem two_ballot : Try.prog.cellsOf 43 = 2 := by kernel_rfl
theorem four_vote : Try.prog.cellsOf 45 = 4 := by kernel_rfl
set_option maxRecDepth 100000 in
theorem rd_ballot (h : DataW.trod enc Try.prog W b0 (fun _ => true) held m 43 cs = some y) : ∃ r n : Int, cs = [.int .i64 r, .int .i64 n] := by
  obtain ⟨f0, f1, hu, ⟨o0, t0⟩, ⟨o1, t1⟩⟩ := ballot_fields
  obtain ⟨xs, k, hk, hy, hc, hx, hf⟩ := DataW.trod_struct hu h
  rw [two_ballot] at hc
  match xs, hx, cs, hc with
  | [y0, y1], _, [v0, v1], _ =>
    have g0 := hf 0 f0 rfl
    have g1 := hf 1 f1 rfl
    simp [o0, o1, t0, t1, one_int] at g0 g1
    obtain ⟨z0, e0, _, w0⟩ := DataW.trod_int Try.underlying3 g0
    obtain ⟨z1, e1, _, w1⟩ := DataW.trod_int Try.underlying3 g1
    simp at e0 e1
    exact ⟨z0, z1, by rw [e0, e1]⟩
set_option maxRecDepth 100000 in
theorem rd_vote (h : DataW.trod enc Try.prog W b0 (fun _ => true) held m 45 cs = some y) (hl : Light 45 y.1) : ∃ v : Vv, cs = v.cells ∧ VOk W v := by
  obtain ⟨f0, f1, f2, hu, ⟨o0, t0⟩, ⟨o1, t1⟩, ⟨o2, t2⟩⟩ := vote_fields
  obtain ⟨xs, k, hk, hy, hc, hx, hf⟩ := DataW.trod_struct hu h
  rw [four_vote] at hc
  match xs, hx, cs, hc with
  | [y0, y1, y2], _, [v0, v1, v2, v3], _ =>
    have g0 := hf 0 f0 rfl
    have g1 := hf 1 f1 rfl
    have g2 := hf 2 f2 rfl
    simp [o0, o1, o2, t0, t1, t2, one_int, one_bytes, two_ballot] at g0 g1 g2
    obtain ⟨z0, e0, _, w0⟩ := DataW.trod_int Try.underlying3 g0
    obtain ⟨zr, zn, e1⟩ := rd_ballot g1
    have l3 : Light 37 y2.1 := fun n hn => hl n (by
      rw [hy]
      show n ∈ DataW.weights Try.prog 45 (.agg ([y0, y1, y2].map (·.1)))
      simp only [DataW.weights, hu]
      exact DataW.weights_mem_each (j := 2) (t := 37) (d := y2.1) (by simp [t2]) rfl n hn)
    obtain ⟨a, n, cp, zs, e3, q, hr, hlt⟩ := rd_bytes g2 l3
    simp at e0 e1 e3
    refine ⟨⟨z0, zr, zn, a, n, cp, zs⟩, by rw [e0, e1.1, e1.2, e3]; rfl, ⟨q, hr, (bounds_i64 w0).2⟩⟩
end
set_option maxRecDepth 100000 in
theorem open_votes_held {H : Type} {enc : TypeId × Value → H} {W : World} {r : Reach} {base b0 : Nat} {held : Bool} {v : Value} {d : DataW H} {p : List MemPlace}
    (hv : Value.okWide Try.prog W r base 34 v) (h : DataW.Trod enc Try.prog W b0 (fun _ => true) held 34 v d p)
    (hw : ∀ n ∈ d.weights Try.prog 34, n ≤ reachBytes) :
    ∃ (a : Option Addr) (len cap : Nat) (os : Nat → Vv), v = .slice a len cap ∧ Vts W a len os := by
  obtain ⟨a, len, cap, rfl⟩ := okWide_slice Try.underlying34 hv
  obtain ⟨fuel, hf⟩ := h
  rcases Go.Deep.open_slice Try.underlying34 hf with ⟨hcs, _⟩ | ⟨x, l, c, m, n, D, Pl, hcs, hb, hl, hm, hmm, hx, hcell⟩
  · simp [Value.cells] at hcs
    obtain ⟨rfl, rfl, rfl⟩ := hcs
    exact ⟨_, _, _, fun _ => ⟨0, 0, 0, none, 0, 0, []⟩, rfl, ⟨fun h => absurd h (by omega), fun j hj => absurd hj (by omega), by omega⟩⟩
  · simp [Value.cells] at hcs
    obtain ⟨rfl, rfl, rfl⟩ := hcs
    simp only [if_true] at hmm
    subst hmm
    simp only [Prod.mk.injEq] at hx
    have hd := hx.1
    have hlen : len * 48 ≤ 140737488351232 := by
      have := hw ((len + (m - len)) * 48) (by
        rw [hd]
        simp only [DataW.weights, Try.underlying34]
        rw [show Try.prog.bytesOf 45 = 48 from by kernel_rfl]
        simp)
      have e : reachBytes = 140737488351232 := by decide
      omega
    have each : ∀ j, j < len → ∃ o : Vv, W.cells? b0 (x.add (j * 4)) 4 = some (Vv.cells o) ∧ VOk W o := by
      intro j hj
      obtain ⟨cs', h1, h2⟩ := hcell j (by omega)
      rw [four_vote] at h1
      have lj : Light 45 (D j) := fun q hq => hw q (by
        rw [hd]
        simp only [DataW.weights, Try.underlying34]
        exact List.mem_cons_of_mem _ (List.mem_append_left _ (weights_all (d := D j) (List.mem_map.2 ⟨j, List.mem_range.2 hj, rfl⟩) q hq)))
      obtain ⟨o, rfl, ho⟩ := rd_vote h2 lj
      exact ⟨o, h1, ho⟩
    refine ⟨_, _, _, fun j => if h : j < len then (each j h).choose else ⟨0, 0, 0, none, 0, 0, []⟩, rfl, ⟨fun h0 => ?_, fun j hj => ?_, hlen⟩⟩
    · obtain ⟨b, off, spot⟩ := x
      have hc0 := (World.cells?_some (each 0 h0).choose_spec.1).2.2 0 (by omega)
      have hspot : spot = none := by
        have h5 : W.cell? (((⟨b, off, spot⟩ : Addr).add (0 * 4)).add 0) = (Vv.cells (each 0 h0).choose)[0]? := hc0
        simp [Addr.add, Vv.cells] at h5
        simpa using World.cell?_spot h5
      subst hspot
      refine ⟨b, off, rfl, ?_, fun j hj k v hk => ?_⟩
      · exact World.cells?_block (a := ⟨b, off, none⟩) (by simpa [Addr.add] using (each 0 h0).choose_spec.1) (by omega)
      · simp only [dif_pos hj] at hk
        obtain ⟨_, hl5, hc5⟩ := World.cells?_some (each j hj).choose_spec.1
        have hk5 : k < 4 := by
          have := (List.getElem?_eq_some_iff.1 hk).1
          simpa [Vv.cells] using this
        have h6 := (hc5 k hk5).trans hk
        have e6 : ((⟨b, off, none⟩ : Addr).add (j * 4)).add k = ⟨b, off + j * 4 + k, none⟩ := by rw [Addr.add_mid, Addr.add_mid]
        exact e6 ▸ h6
    · simp only [dif_pos hj]
      exact (each j hj).choose_spec.2
end Go.Proofs.Ytjhkenmlaammnaa
