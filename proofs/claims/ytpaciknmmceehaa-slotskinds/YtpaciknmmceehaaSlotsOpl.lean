/- A list of calls on a log that came in: what is known of it, and that it stays where nothing old is written. No condition. -/
import Derived.Test.YtpaciknmmceehaaSlotsOpen
import Derived.Test.YtpaciknmmceehaaSlotsMath
import Derived.Deep.MidRow
import Derived.Deep.Slices
import Derived.SizedLaws
namespace Go.Proofs.Ytpaciknmmceehaa
open Go.ChangeShapes Go.WideShapes Go.ChangeAt Go.RowKit
set_option linter.unusedVariables false

theorem rangeAt_same {w w' : World} {b o : Nat} {cs : List Value} (h : w.rangeAt b o cs) (e : w'.heap[b]? = w.heap[b]?) : w'.rangeAt b o cs := fun j v hv => (World.cell?_of_block (w := w) (w' := w') (a := ⟨b, o + j, none⟩) e).trans (h j v hv)
/-- a call on a log: its kind, a place, a text -/
structure Opd where
  kind : Int
  i : Int
  v : ByteArray
def opc (o : Opd) : List Value := [.int .i64 o.kind, .int .i64 o.i, .string o.v]
theorem opc_cells {w : World} {b off : Nat} {kind i : Int} {v : ByteArray} (h : ∀ j u, (opc ⟨kind, i, v⟩)[j]? = some u → w.cell? ⟨b, off + j, none⟩ = some u) :
    w.cell? ⟨b, off, none⟩ = some (.int .i64 kind) ∧ w.cell? ⟨b, off + 1, none⟩ = some (.int .i64 i) ∧ w.cell? ⟨b, off + 2, none⟩ = some (.string v) :=
  ⟨h 0 _ rfl, h 1 _ rfl, h 2 _ rfl⟩
/-- the slice at a has these calls in the world w -/
structure Ops (w : World) (a : Option Addr) (len : Nat) (os : Nat → Opd) : Prop where
  cells : 0 < len → ∃ b off, a = some ⟨b, off, none⟩ ∧ b < w.heap.size ∧ ∀ j, j < len → w.rangeAt b (off + j * 3) (opc (os j))
  each : ∀ j, j < len → (os j).v.size ≤ maxLen ∧ -9223372036854775808 ≤ (os j).i ∧ (os j).i ≤ 9223372036854775807
  room : len * 32 ≤ 140737488351232
theorem Ops.below {w w' : World} {a : Option Addr} {len : Nat} {os : Nat → Opd} (h : Ops w a len os) (hb : Below w.heap.size w w') : Ops w' a len os :=
  ⟨fun h0 => by
    obtain ⟨b, off, e, hl, hc⟩ := h.cells h0
    exact ⟨b, off, e, Nat.lt_of_lt_of_le hl hb.size, fun j hj => rangeAt_same (hc j hj) (hb.block b hl)⟩, h.each, h.room⟩
section
variable {H : Type} {enc : TypeId × Value → H} {W : World} {b0 : Nat} {held : Bool} {m : Nat} {cs : List Value} {y : DataW H × List MemPlace}
set_option maxRecDepth 100000 in
theorem op_fields : ∃ f0 f1 f2 : Field, Try.prog.underlying 32 = some (.struct #[f0, f1, f2]) ∧ (f0.offset = 0 ∧ f0.type = 3) ∧ (f1.offset = 1 ∧ f1.type = 3) ∧ (f2.offset = 2 ∧ f2.type = 9) :=
  ⟨_, _, _, Try.underlying32, ⟨rfl, rfl⟩, ⟨rfl, rfl⟩, ⟨rfl, rfl⟩⟩
theorem one_int : Try.prog.cellsOf 3 = 1 := by kernel_rfl
theorem one_str : Try.prog.cellsOf 9 = 1 := by kernel_rfl
theorem three_op : Try.prog.cellsOf 32 = 3 := by kernel_rfl
set_option maxRecDepth 100000 in
theorem rd_op (h : DataW.trod enc Try.prog W b0 (fun _ => true) held m 32 cs = some y) : ∃ o : Opd, cs = opc o ∧ (o.v.size ≤ maxLen ∧ -9223372036854775808 ≤ o.i ∧ o.i ≤ 9223372036854775807) := by
  obtain ⟨f0, f1, f2, hu, ⟨o0, t0⟩, ⟨o1, t1⟩, ⟨o2, t2⟩⟩ := op_fields
  obtain ⟨xs, k, hk, hy, hc, hx, hf⟩ := DataW.trod_struct hu h
  rw [three_op] at hc
  match xs, hx, cs, hc with
  | [y0, y1, y2], _, [v0, v1, v2], _ =>
    have g0 := hf 0 f0 rfl
    have g1 := hf 1 f1 rfl
    have g2 := hf 2 f2 rfl
    simp [o0, o1, o2, t0, t1, t2, one_int, one_str] at g0 g1 g2
    obtain ⟨z0, e0, _, w0⟩ := DataW.trod_int Try.underlying3 g0
    obtain ⟨z1, e1, _, w1⟩ := DataW.trod_int Try.underlying3 g1
    obtain ⟨z2, e2, _, w2⟩ := DataW.trod_string Try.underlying9 g2
    simp at e0 e1 e2
    exact ⟨⟨z0, z1, z2⟩, by rw [e0, e1, e2]; rfl, w2, bounds_i64 w1⟩
end
set_option maxRecDepth 100000 in
theorem open_ops_held {H : Type} {enc : TypeId × Value → H} {W : World} {r : Reach} {base b0 : Nat} {held : Bool} {v : Value} {d : DataW H} {p : List MemPlace}
    (hv : Value.okWide Try.prog W r base 22 v) (h : DataW.Trod enc Try.prog W b0 (fun _ => true) held 22 v d p)
    (hw : ∀ n ∈ d.weights Try.prog 22, n ≤ reachBytes) :
    ∃ (a : Option Addr) (len cap : Nat) (os : Nat → Opd), v = .slice a len cap ∧ Ops W a len os := by
  obtain ⟨a, len, cap, rfl⟩ := okWide_slice Try.underlying22 hv
  obtain ⟨fuel, hf⟩ := h
  rcases Go.Deep.open_slice Try.underlying22 hf with ⟨hcs, _⟩ | ⟨x, l, c, m, n, D, Pl, hcs, hb, hl, hm, hmm, hx, hcell⟩
  · simp [Value.cells] at hcs
    obtain ⟨rfl, rfl, rfl⟩ := hcs
    exact ⟨_, _, _, fun _ => ⟨0, 0, ⟨#[]⟩⟩, rfl, ⟨fun h => absurd h (by omega), fun j hj => absurd hj (by omega), by omega⟩⟩
  · simp [Value.cells] at hcs
    obtain ⟨rfl, rfl, rfl⟩ := hcs
    simp only [if_true] at hmm
    subst hmm
    simp only [Prod.mk.injEq] at hx
    have hd := hx.1
    have hlen : len * 32 ≤ 140737488351232 := by
      have := hw ((len + (m - len)) * 32) (by
        rw [hd]
        simp only [DataW.weights, Try.underlying22]
        rw [show Try.prog.bytesOf 32 = 32 from by kernel_rfl]
        simp)
      have e : reachBytes = 140737488351232 := by decide
      omega
    have each : ∀ j, j < len → ∃ o : Opd, W.cells? b0 (x.add (j * 3)) 3 = some (opc o) ∧ (o.v.size ≤ maxLen ∧ -9223372036854775808 ≤ o.i ∧ o.i ≤ 9223372036854775807) := by
      intro j hj
      obtain ⟨cs', h1, h2⟩ := hcell j (by omega)
      rw [three_op] at h1
      obtain ⟨o, rfl, ho⟩ := rd_op h2
      exact ⟨o, h1, ho⟩
    refine ⟨_, _, _, fun j => if h : j < len then (each j h).choose else ⟨0, 0, ⟨#[]⟩⟩, rfl, ⟨fun h0 => ?_, fun j hj => ?_, hlen⟩⟩
    · obtain ⟨b, off, spot⟩ := x
      have hc0 := (World.cells?_some (each 0 h0).choose_spec.1).2.2 0 (by omega)
      have hspot : spot = none := by
        have h5 : W.cell? (((⟨b, off, spot⟩ : Addr).add (0 * 3)).add 0) = (opc (each 0 h0).choose)[0]? := hc0
        simp [Addr.add, opc] at h5
        simpa using World.cell?_spot h5
      subst hspot
      refine ⟨b, off, rfl, ?_, fun j hj k v hk => ?_⟩
      · exact World.cells?_block (a := ⟨b, off, none⟩) (by simpa [Addr.add] using (each 0 h0).choose_spec.1) (by omega)
      · simp only [dif_pos hj] at hk
        obtain ⟨_, hl5, hc5⟩ := World.cells?_some (each j hj).choose_spec.1
        have hk5 : k < 3 := by
          have := (List.getElem?_eq_some_iff.1 hk).1
          simpa [opc] using this
        have h6 := (hc5 k hk5).trans hk
        have e6 : ((⟨b, off, none⟩ : Addr).add (j * 3)).add k = ⟨b, off + j * 3 + k, none⟩ := by rw [Addr.add_mid, Addr.add_mid]
        exact e6 ▸ h6
    · simp only [dif_pos hj]
      exact (each j hj).choose_spec.2
end Go.Proofs.Ytpaciknmmceehaa
