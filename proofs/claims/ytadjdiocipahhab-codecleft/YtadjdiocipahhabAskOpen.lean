/- A list of asks that came in: what is known of it, and that it stays where nothing old is written. No condition. -/
import Derived.Test.YtadjdiocipahhabBase
import Derived.Test.YtadjdiocipahhabRows
import Derived.Deep.SlicePairs
import Derived.ChangeOld
import Derived.SizedLaws
namespace Go.Proofs.Ytadjdiocipahhab
open Go.ChangeShapes Go.WideShapes Go.ChangeAt Go.RowKit
set_option linter.unusedVariables false

/-- the slice at a has the asks ks in the world w: a kind and a most each -/
structure Asks (w : World) (a : Option Addr) (len : Nat) (ks : Nat → Int × Int) : Prop where
  cells : 0 < len → ∃ b off, a = some ⟨b, off, none⟩ ∧ ∀ j, j < len → w.cell? ⟨b, off + j * 2, none⟩ = some (.int .i64 (ks j).1) ∧ w.cell? ⟨b, off + (j * 2 + 1), none⟩ = some (.int .i64 (ks j).2)
  bound : ∀ j, j < len → (ks j).2 < 9223372036854775808
theorem Asks.below {w w' : World} {a : Option Addr} {len : Nat} {ks : Nat → Int × Int} (h : Asks w a len ks) (hb : Below w.heap.size w w') : Asks w' a len ks :=
  ⟨fun h0 => by
    obtain ⟨b, off, e, hc⟩ := h.cells h0
    exact ⟨b, off, e, fun j hj => ⟨(hb.cell (World.block_lt_of_cell? w _ (hc j hj).1)).trans (hc j hj).1, (hb.cell (World.block_lt_of_cell? w _ (hc j hj).2)).trans (hc j hj).2⟩⟩, h.bound⟩

theorem open_asks_sized {H : Type} {enc : TypeId × Value → H} {W : World} {r : Reach} {base b0 : Nat} {held : Bool} {v : Value} {d : DataW H} {p : List MemPlace}
    (hv : Value.okWide Try.prog W r base 23 v) (h : DataW.Trod enc Try.prog W b0 (fun _ => true) held 23 v d p)
    (hw : ∀ elems spare, d = .slice elems spare → (elems.length + spare.length) * Try.prog.bytesOf 37 ≤ reachBytes) :
    ∃ (a : Option Addr) (len cap : Nat) (ks : Nat → Int × Int), v = .slice a len cap ∧ Asks W a len ks ∧ len ≤ 140737488351232 := by
  obtain ⟨a, len, cap, rfl⟩ := okWide_slice Try.underlying23 hv
  obtain ⟨fuel, hf⟩ := h
  rcases Go.Deep.open_slice_pairs Try.underlying23 Try.underlying37 (by kernel_rfl) rfl rfl (by kernel_rfl) (by kernel_rfl) hf with ⟨hcs, _⟩ | ⟨x, l, c, m, n, V0, V1, D0, D1, P0, P1, hcs, hb, hl, hm, hmm, hx, hcell⟩
  · simp [Value.cells] at hcs
    obtain ⟨rfl, rfl, rfl⟩ := hcs
    exact ⟨_, _, _, fun _ => (0, 0), rfl, ⟨fun h => absurd h (by omega), fun j hj => absurd hj (by omega)⟩, by omega⟩
  · simp [Value.cells] at hcs
    obtain ⟨rfl, rfl, rfl⟩ := hcs
    simp only [if_true] at hmm
    subst hmm
    simp only [Prod.mk.injEq] at hx
    have hw' := hw _ _ hx.1
    rw [show Try.prog.bytesOf 37 = 16 from by kernel_rfl] at hw'
    simp only [List.length_map, List.length_range, reachBytes] at hw'
    have each : ∀ j, j < len → ∃ q : Int × Int, V0 j = .int .i64 q.1 ∧ V1 j = .int .i64 q.2 ∧ q.2 < 9223372036854775808 := by
      intro j hj
      obtain ⟨_, _, t0, t1⟩ := hcell j (by omega)
      obtain ⟨x0, e0, _, w0⟩ := DataW.trod_int Try.underlying3 t0
      obtain ⟨x1, e1, _, w1⟩ := DataW.trod_int Try.underlying3 t1
      simp at e0 e1
      have := bounds_i64 w1
      exact ⟨(x0, x1), e0, e1, by show x1 < _; omega⟩
    refine ⟨_, _, _, fun j => if h : j < len then (each j h).choose else (0, 0), rfl, ⟨fun h0 => ?_, fun j hj => ?_⟩, by omega⟩
    · obtain ⟨b, off, spot⟩ := x
      have hc0 := (hcell 0 (by omega)).1
      have hspot : spot = none := by simpa [Addr.add] using World.cell?_spot hc0
      subst hspot
      refine ⟨b, off, rfl, fun j hj => ?_⟩
      obtain ⟨g0, g1, _, _⟩ := hcell j (by omega)
      have hq := (each j hj).choose_spec
      rw [Addr.add_lit] at g0 g1
      simp only [dif_pos hj]
      exact ⟨g0.trans (congrArg some hq.1), g1.trans (congrArg some hq.2.1)⟩
    · simp only [dif_pos hj]
      exact (each j hj).choose_spec.2.2
end Go.Proofs.Ytadjdiocipahhab
