/- A list of ints that came in, as an argument: what is known of it, and that it stays where nothing old is written. No condition. -/
import Derived.Test.YtgmnhpelncbknaaNumOpen
import Derived.Test.YtgmnhpelncbknaaNumOf
import Derived.SizedLaws
namespace Go.Proofs.Ytgmnhpelncbknaa
open Go.ChangeShapes Go.WideShapes Go.ChangeAt Go.RowKit
set_option linter.unusedVariables false

/-- the slice at a, of so many elements, has the numbers zs in the world w -/
structure Sl (w : World) (a : Option Addr) (len cap : Nat) (zs : List Int) : Prop where
  length : zs.length = len
  lecap : len ≤ cap
  nil : a = none → cap = 0
  cells : 0 < len → ∃ b off, a = some ⟨b, off, none⟩ ∧ ∀ j, j < len → w.cell? ⟨b, off + j, none⟩ = some (.int .i64 (zs[j]?.getD 0))
  isInts : ints zs
  room : len * 8 ≤ 140737488351232

theorem Sl.below {w w' : World} {a : Option Addr} {len cap : Nat} {zs : List Int} (h : Sl w a len cap zs) (hb : Below w.heap.size w w') : Sl w' a len cap zs :=
  ⟨h.length, h.lecap, h.nil, fun h0 => by
    obtain ⟨b, off, e, hc⟩ := h.cells h0
    exact ⟨b, off, e, fun j hj => (hb.cell (World.block_lt_of_cell? w _ (hc j hj))).trans (hc j hj)⟩, h.isInts, h.room⟩

theorem open_sl_sized {H : Type} {enc : TypeId × Value → H} {W : World} {r : Reach} {base b0 : Nat} {held : Bool} {v : Value} {d : DataW H} {p : List MemPlace}
    (hv : Value.okWide Try.prog W r base 27 v) (h : DataW.Trod enc Try.prog W b0 (fun _ => true) held 27 v d p)
    (hw : ∀ elems spare, d = .slice elems spare → (elems.length + spare.length) * Try.prog.bytesOf 3 ≤ reachBytes) :
    ∃ (a : Option Addr) (len cap : Nat) (zs : List Int), v = .slice a len cap ∧ Sl W a len cap zs := by
  obtain ⟨a, len, cap, rfl⟩ := okWide_slice Try.underlying27 hv
  obtain ⟨fuel, hf⟩ := h
  rcases open_ints Try.underlying27 Try.underlying3 (by kernel_rfl) hf with ⟨hcs, _⟩ | ⟨x, l, c, zs, hcs, _, hl, hm, hz, hx, hcell, hwz⟩
  · simp [Value.cells] at hcs
    obtain ⟨rfl, rfl, rfl⟩ := hcs
    exact ⟨_, _, _, [], rfl, rfl, Nat.le_refl _, fun _ => rfl, fun h => absurd h (by omega), fun j => by simp, by omega⟩
  · simp [Value.cells] at hcs
    obtain ⟨rfl, rfl, rfl⟩ := hcs
    simp only [if_true] at hz
    simp only [Prod.mk.injEq] at hx
    have hw' := hw _ _ hx.1
    rw [show Try.prog.bytesOf 3 = 8 from by kernel_rfl] at hw'
    simp only [lits, List.length_map, List.length_take, List.length_drop, reachBytes] at hw'
    refine ⟨_, _, _, zs.take len, rfl, by simp; omega, hl, fun h => absurd h (by simp), fun h0 => ?_, ?_, by omega⟩
    · obtain ⟨b, off, spot⟩ := x
      have hc0 := hcell 0 (by omega)
      have hspot : spot = none := by simpa [Addr.add] using World.cell?_spot hc0
      subst hspot
      refine ⟨b, off, rfl, fun j hj => ?_⟩
      have := hcell j (by omega)
      rw [Addr.add_lit] at this
      simpa [List.getElem?_take, hj, List.getD] using this
    · intro j
      by_cases hj : j < (zs.take len).length
      · have hm : (zs.take len)[j] ∈ zs := List.mem_of_mem_take (List.getElem_mem hj)
        have := bounds_i64 (hwz _ hm)
        rw [List.getElem?_eq_getElem hj]; exact this
      · simp [List.getElem?_eq_none (Nat.le_of_not_lt hj)]
end Go.Proofs.Ytgmnhpelncbknaa
