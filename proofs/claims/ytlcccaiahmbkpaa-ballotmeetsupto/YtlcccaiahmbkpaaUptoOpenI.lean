/- A list of ints that came in where the whole reading is of bounded bulk: its capacity is bounded. Condition: the bound itself. -/
import Derived.Test.YtlcccaiahmbkpaaRows
import Derived.Test.YtlcccaiahmbkpaaSqI
import Derived.Deep.CondSized
namespace Go.Proofs.Ytlcccaiahmbkpaa
namespace I8
open Go.ChangeShapes Go.WideShapes Go.ChangeAt Go.RowKit
set_option linter.unusedVariables false

theorem bulk_one {H : Type} (d : DataW H) : 1 ≤ Rows.uptoBulk d := by
  cases d with
  | lit l => cases l <;> simp [Rows.uptoBulk]
  | nil => simp [Rows.uptoBulk]
  | ptr d => simp [Rows.uptoBulk]
  | slice a b => simp [Rows.uptoBulk]
  | agg a => simp [Rows.uptoBulk]
  | iface a d => simp [Rows.uptoBulk]
  | map a => simp [Rows.uptoBulk]
  | held a => simp [Rows.uptoBulk]
theorem bulk_len {H : Type} : ∀ l : List (DataW H), l.length ≤ Rows.uptoBulkAll l
  | [] => Nat.zero_le _
  | d :: r => by
    have := bulk_len r
    have := bulk_one d
    simp [Rows.uptoBulkAll]
    omega
theorem bulk_mem {H : Type} {d : DataW H} : ∀ {l : List (DataW H)}, d ∈ l → Rows.uptoBulk d ≤ Rows.uptoBulkAll l
  | x :: r, h => by
    rcases List.mem_cons.1 h with rfl | h
    · simp [Rows.uptoBulkAll]
    · have := bulk_mem h
      simp [Rows.uptoBulkAll]
      omega
theorem bulk_slice {H : Type} {ds : List (DataW H)} (hc : Rows.uptoSmall H ds = true) {elems spare : List (DataW H)} (hm : DataW.slice elems spare ∈ ds) : elems.length + spare.length ≤ 1048576 := by
  have h1 : Rows.uptoBulkAll ds ≤ 1048576 := by simpa [Rows.uptoSmall] using hc
  have h2 := bulk_mem hm
  have h3 := bulk_len elems
  have h4 := bulk_len spare
  have h5 : Rows.uptoBulk (DataW.slice elems spare) = Rows.uptoBulkAll elems + Rows.uptoBulkAll spare + 1 := by simp [Rows.uptoBulk]
  omega
theorem open_sq_bulk {H : Type} {enc : TypeId × Value → H} {W : World} {r : Reach} {base b0 : Nat} {held : Bool} {v : Value} {d : DataW H} {p : List MemPlace}
    (hv : Value.okWide Try.prog W r base 34 v) (h : DataW.Trod enc Try.prog W b0 (fun _ => true) held 34 v d p)
    (hw : ∀ elems spare, d = .slice elems spare → elems.length + spare.length ≤ 1048576) :
    ∃ (a : Option Addr) (len cap : Nat) (zs : List Int), v = .slice a len cap ∧ Sq W a len cap zs ∧ cap ≤ 1048576 := by
  have hb := hw
  obtain ⟨a, len, cap, rfl⟩ := okWide_slice Try.underlying34 hv
  obtain ⟨fuel, hf⟩ := h
  rcases open_ints Try.underlying34 Try.underlying3 (by kernel_rfl) hf with ⟨hcs, _⟩ | ⟨x, l, c, zs, hcs, _, hl, hm, hz, hx, hcell, hwz⟩
  · simp [Value.cells] at hcs
    obtain ⟨rfl, rfl, rfl⟩ := hcs
    exact ⟨_, _, _, [], rfl, ⟨rfl, Nat.le_refl _, fun _ => rfl, fun h => absurd h (by omega), fun j => by simp; decide⟩, by omega⟩
  · simp [Value.cells] at hcs
    obtain ⟨rfl, rfl, rfl⟩ := hcs
    simp only [if_true] at hz
    simp only [Prod.mk.injEq] at hx
    have hw' := hw _ _ hx.1
    simp only [lits, List.length_map, List.length_take, List.length_drop] at hw'
    refine ⟨_, _, _, zs.take len, rfl, ⟨by simp; omega, hl, fun h => absurd h (by simp), fun h0 => ?_, ?_⟩, by omega⟩
    · obtain ⟨b, off, spot⟩ := x
      have hc0 := hcell 0 (by omega)
      have hspot : spot = none := by simpa [Addr.add] using World.cell?_spot hc0
      subst hspot
      refine ⟨b, off, rfl, fun j hj => ?_⟩
      have := hcell j (by omega)
      rw [Addr.add_lit] at this
      simpa [List.getElem?_take, hj, List.getD] using this
    · intro j
      by_cases hj : j < (zs.take len).length
      · have hm : (zs.take len)[j] ∈ zs := List.mem_of_mem_take (List.getElem_mem hj)
        rw [List.getElem?_eq_getElem hj]; exact hwz _ hm
      · rw [List.getElem?_eq_none (Nat.le_of_not_lt hj)]
        decide
end I8
end Go.Proofs.Ytlcccaiahmbkpaa
