/- Lists of ballots, and of things with ballots, that came in: what is known of them, and that they stay where nothing old is written. No condition. -/
import Derived.Test.YtlcccaiahmbkpaaBallotOpen
import Derived.Test.YtlcccaiahmbkpaaBase
import Derived.Deep.MidRow
import Derived.Deep.Slices
import Derived.SizedLaws
namespace Go.Proofs.Ytlcccaiahmbkpaa
open Go.ChangeShapes Go.WideShapes Go.ChangeAt Go.RowKit
set_option linter.unusedVariables false

theorem rangeAt_same {w w' : World} {b o : Nat} {cs : List Value} (h : w.rangeAt b o cs) (e : w'.heap[b]? = w.heap[b]?) : w'.rangeAt b o cs := fun j v hv => (World.cell?_of_block (w := w) (w' := w') (a := ⟨b, o + j, none⟩) e).trans (h j v hv)
/-- the slice at a has these rows, each of so many cells and bytes, in the world w -/
structure Rws (w : World) (sz by_ : Nat) (a : Option Addr) (len : Nat) (f : Nat → List Value) : Prop where
  cells : 0 < len → ∃ b off, a = some ⟨b, off, none⟩ ∧ b < w.heap.size ∧ ∀ j, j < len → w.rangeAt b (off + j * sz) (f j)
  room : len * by_ ≤ 140737488351232
theorem Rws.below {w w' : World} {sz by_ : Nat} {a : Option Addr} {len : Nat} {f : Nat → List Value} (h : Rws w sz by_ a len f) (hb : Below w.heap.size w w') : Rws w' sz by_ a len f :=
  ⟨fun h0 => by
    obtain ⟨b, off, e, hl, hc⟩ := h.cells h0
    exact ⟨b, off, e, Nat.lt_of_lt_of_le hl hb.size, fun j hj => rangeAt_same (hc j hj) (hb.block b hl)⟩, h.room⟩

/-- a ballot's cells; a thing's -/
def bc (x : Int × Int) : List Value := [.int .i64 x.1, .int .i64 x.2]
def tc (x : (Int × Int) × Int) : List Value := [.int .i64 x.1.1, .int .i64 x.1.2, .int .i64 x.2]
theorem bc_cells {w : World} {b off : Nat} {x : Int × Int} (h : w.rangeAt b off (bc x)) : w.cell? ⟨b, off, none⟩ = some (.int .i64 x.1) ∧ w.cell? ⟨b, off + 1, none⟩ = some (.int .i64 x.2) := ⟨h 0 _ rfl, h 1 _ rfl⟩
theorem tc_cells {w : World} {b off : Nat} {x : (Int × Int) × Int} (h : w.rangeAt b off (tc x)) : w.cell? ⟨b, off, none⟩ = some (.int .i64 x.1.1) ∧ w.cell? ⟨b, off + 1, none⟩ = some (.int .i64 x.1.2) ∧ w.cell? ⟨b, off + 2, none⟩ = some (.int .i64 x.2) := ⟨h 0 _ rfl, h 1 _ rfl, h 2 _ rfl⟩
section
variable {H : Type} {enc : TypeId × Value → H} {W : World} {b0 : Nat} {held : Bool} {m : Nat} {cs : List Value} {y : DataW H × List MemPlace}
theorem bal_fields : ∃ f0 f1 : Field, Try.prog.underlying 23 = some (.struct #[f0, f1]) ∧ (f0.offset = 0 ∧ f0.type = 3) ∧ (f1.offset = 1 ∧ f1.type = 3) :=
  ⟨_, _, Try.underlying23, ⟨rfl, rfl⟩, ⟨rfl, rfl⟩⟩
theorem one_int : Try.prog.cellsOf 3 = 1 := by kernel_rfl
theorem rd_bal (h : DataW.trod enc Try.prog W b0 (fun _ => true) held m 23 cs = some y) : ∃ x : Int × Int, cs = bc x := by
  obtain ⟨f0, f1, hu, ⟨o0, t0⟩, ⟨o1, t1⟩⟩ := bal_fields
  obtain ⟨xs, k, hk, hy, hc, hx, hf⟩ := DataW.trod_struct hu h
  rw [cellsBallot] at hc
  match xs, hx, cs, hc with
  | [y0, y1], _, [v0, v1], _ =>
    have g0 := hf 0 f0 rfl
    have g1 := hf 1 f1 rfl
    simp [o0, o1, t0, t1, one_int] at g0 g1
    obtain ⟨z0, e0, _, w0⟩ := DataW.trod_int Try.underlying3 g0
    obtain ⟨z1, e1, _, w1⟩ := DataW.trod_int Try.underlying3 g1
    simp at e0 e1
    exact ⟨⟨z0, z1⟩, by rw [e0, e1]; rfl⟩
theorem thing_fields : ∃ f0 f1 : Field, Try.prog.underlying 42 = some (.struct #[f0, f1]) ∧ (f0.offset = 0 ∧ f0.type = 23) ∧ (f1.offset = 2 ∧ f1.type = 3) :=
  ⟨_, _, Try.underlying42, ⟨rfl, rfl⟩, ⟨rfl, rfl⟩⟩
theorem cellsThing : Try.prog.cellsOf 42 = 3 := by kernel_rfl
theorem rd_thing (h : DataW.trod enc Try.prog W b0 (fun _ => true) held m 42 cs = some y) : ∃ x : (Int × Int) × Int, cs = tc x := by
  obtain ⟨f0, f1, hu, ⟨o0, t0⟩, ⟨o1, t1⟩⟩ := thing_fields
  obtain ⟨xs, k, hk, hy, hc, hx, hf⟩ := DataW.trod_struct hu h
  rw [cellsThing] at hc
  match xs, hx, cs, hc with
  | [y0, y1], _, [v0, v1, v2], _ =>
    have g0 := hf 0 f0 rfl
    have g1 := hf 1 f1 rfl
    simp [o0, o1, t0, t1, one_int, cellsBallot] at g0 g1
    obtain ⟨x, ex⟩ := rd_bal g0
    obtain ⟨z1, e1, _, w1⟩ := DataW.trod_int Try.underlying3 g1
    simp [bc] at ex e1
    exact ⟨⟨x, z1⟩, by rw [ex.1, ex.2, e1]; rfl⟩
end
theorem rows_of {W : World} {b0 sz : Nat} {x : Addr} {len : Nat} {α : Type} (g : α → List Value) (hg : ∀ y, (g y).length = sz) (h1 : 1 ≤ sz) (d : α)
    (each : ∀ j, j < len → ∃ o : α, W.cells? b0 (x.add (j * sz)) sz = some (g o)) : ∃ f : Nat → α, 0 < len → ∃ b off, (some x) = some ⟨b, off, none⟩ ∧ b < W.heap.size ∧ ∀ j, j < len → W.rangeAt b (off + j * sz) (g (f j)) := by
  refine ⟨fun j => if h : j < len then (each j h).choose else d, fun h0 => ?_⟩
  obtain ⟨b, off, spot⟩ := x
  have hc0 := (World.cells?_some (each 0 h0).choose_spec).2.2 0 (by omega)
  have hspot : spot = none := by
    have h5 : W.cell? (((⟨b, off, spot⟩ : Addr).add (0 * sz)).add 0) = (g (each 0 h0).choose)[0]? := hc0
    have hl : 0 < (g (each 0 h0).choose).length := by rw [hg]; omega
    rw [List.getElem?_eq_getElem hl] at h5
    simp [Addr.add] at h5
    simpa using World.cell?_spot h5
  subst hspot
  refine ⟨b, off, rfl, ?_, fun j hj k v hk => ?_⟩
  · exact World.cells?_block (a := ⟨b, off, none⟩) (by simpa [Addr.add] using (each 0 h0).choose_spec) (by omega)
  · simp only [dif_pos hj] at hk
    obtain ⟨_, hl5, hc5⟩ := World.cells?_some (each j hj).choose_spec
    have hk5 : k < sz := by
      have := (List.getElem?_eq_some_iff.1 hk).1
      rw [hg] at this
      exact this
    have h6 := (hc5 k hk5).trans hk
    have e6 : ((⟨b, off, none⟩ : Addr).add (j * sz)).add k = ⟨b, off + j * sz + k, none⟩ := by rw [Addr.add_mid, Addr.add_mid]
    exact e6 ▸ h6
set_option maxRecDepth 100000 in
theorem open_bals_held {H : Type} {enc : TypeId × Value → H} {W : World} {r : Reach} {base b0 : Nat} {held : Bool} {v : Value} {d : DataW H} {p : List MemPlace}
    (hv : Value.okWide Try.prog W r base 24 v) (h : DataW.Trod enc Try.prog W b0 (fun _ => true) held 24 v d p)
    (hw : ∀ n ∈ d.weights Try.prog 24, n ≤ reachBytes) :
    ∃ (a : Option Addr) (len cap : Nat) (f : Nat → Int × Int), v = .slice a len cap ∧ Rws W 2 16 a len (fun j => bc (f j)) := by
  obtain ⟨a, len, cap, rfl⟩ := okWide_slice Try.underlying24 hv
  obtain ⟨fuel, hf⟩ := h
  rcases Go.Deep.open_slice Try.underlying24 hf with ⟨hcs, _⟩ | ⟨x, l, c, m, n, D, Pl, hcs, hb, hl, hm, hmm, hx, hcell⟩
  · simp [Value.cells] at hcs
    obtain ⟨rfl, rfl, rfl⟩ := hcs
    exact ⟨_, _, _, fun _ => ⟨0, 0⟩, rfl, ⟨fun h => absurd h (by omega), by omega⟩⟩
  · simp [Value.cells] at hcs
    obtain ⟨rfl, rfl, rfl⟩ := hcs
    simp only [if_true] at hmm
    subst hmm
    simp only [Prod.mk.injEq] at hx
    have hd := hx.1
    have hlen : len * 16 ≤ 140737488351232 := by
      have := hw ((len + (m - len)) * 16) (by
        rw [hd]
        simp only [DataW.weights, Try.underlying24]
        rw [show Try.prog.bytesOf 23 = 16 from by kernel_rfl]
        simp)
      have e : reachBytes = 140737488351232 := by decide
      omega
    obtain ⟨f, hf⟩ := rows_of (W := W) (b0 := b0) (sz := 2) (x := x) (len := len) bc (fun _ => rfl) (by omega) ⟨0, 0⟩ (fun j hj => by
      obtain ⟨cs', h1, h2⟩ := hcell j (by omega)
      rw [cellsBallot] at h1
      obtain ⟨o, rfl⟩ := rd_bal h2
      exact ⟨o, h1⟩)
    exact ⟨_, _, _, f, rfl, ⟨hf, hlen⟩⟩
set_option maxRecDepth 100000 in
theorem open_things_held {H : Type} {enc : TypeId × Value → H} {W : World} {r : Reach} {base b0 : Nat} {held : Bool} {v : Value} {d : DataW H} {p : List MemPlace}
    (hv : Value.okWide Try.prog W r base 40 v) (h : DataW.Trod enc Try.prog W b0 (fun _ => true) held 40 v d p)
    (hw : ∀ n ∈ d.weights Try.prog 40, n ≤ reachBytes) :
    ∃ (a : Option Addr) (len cap : Nat) (f : Nat → (Int × Int) × Int), v = .slice a len cap ∧ Rws W 3 24 a len (fun j => tc (f j)) := by
  obtain ⟨a, len, cap, rfl⟩ := okWide_slice Try.underlying40 hv
  obtain ⟨fuel, hf⟩ := h
  rcases Go.Deep.open_slice Try.underlying40 hf with ⟨hcs, _⟩ | ⟨x, l, c, m, n, D, Pl, hcs, hb, hl, hm, hmm, hx, hcell⟩
  · simp [Value.cells] at hcs
    obtain ⟨rfl, rfl, rfl⟩ := hcs
    exact ⟨_, _, _, fun _ => ⟨⟨0, 0⟩, 0⟩, rfl, ⟨fun h => absurd h (by omega), by omega⟩⟩
  · simp [Value.cells] at hcs
    obtain ⟨rfl, rfl, rfl⟩ := hcs
    simp only [if_true] at hmm
    subst hmm
    simp only [Prod.mk.injEq] at hx
    have hd := hx.1
    have hlen : len * 24 ≤ 140737488351232 := by
      have := hw ((len + (m - len)) * 24) (by
        rw [hd]
        simp only [DataW.weights, Try.underlying40]
        rw [show Try.prog.bytesOf 42 = 24 from by kernel_rfl]
        simp)
      have e : reachBytes = 140737488351232 := by decide
      omega
    obtain ⟨f, hf⟩ := rows_of (W := W) (b0 := b0) (sz := 3) (x := x) (len := len) tc (fun _ => rfl) (by omega) ⟨⟨0, 0⟩, 0⟩ (fun j hj => by
      obtain ⟨cs', h1, h2⟩ := hcell j (by omega)
      rw [cellsThing] at h1
      obtain ⟨o, rfl⟩ := rd_thing h2
      exact ⟨o, h1⟩)
    exact ⟨_, _, _, f, rfl, ⟨hf, hlen⟩⟩
end Go.Proofs.Ytlcccaiahmbkpaa
