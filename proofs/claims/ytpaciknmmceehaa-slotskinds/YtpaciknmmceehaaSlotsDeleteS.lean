/- slices.Delete of the first places of a row of pointers. No condition. -/
import Derived.Test.YtpaciknmmceehaaSlotsGetS
import Derived.Deep.RegionLaw
import Derived.Deep.DeepCutAuto
namespace Go.Proofs.Ytpaciknmmceehaa.Ls
open Go.ChangeShapes Go.WideShapes Go.ChangeAt Go.RowKit Sx
set_option linter.unusedVariables false

theorem zero_ptr (w : World) : (zeroValue 65).run Try.prog w = .ok (.pointer none) w := by
  obtain ⟨i, hi, hz, hs, hb⟩ := info_parts ptrinfo
  simp [zeroValue, typeInfo, hi, hz]
theorem clear_ptr (w : World) (ty : TypeId) (g o n c : Nat) (hc : ∀ j, j < n + 1 → (w.cell? ⟨g, o + j, none⟩).isSome = true) (hf : ∀ j, j < n + 1 → w.frozen? ⟨g, o + j, none⟩ = false) :
    (Builtin.clear_ #[62] ty #[.slice (some ⟨g, o, none⟩) (n + 1) c]).run Try.prog w = .ok (.tuple #[]) (w.setCells g o (List.replicate (n + 1) (.pointer none))) := by
  have hst := run_storeCells_cells (P := Try.prog) g o (List.replicate (n + 1) (.pointer none)) 0 w (by simpa using hc) (by simpa using hf) (fun v hv => by rw [(List.mem_replicate.1 hv).2]; rfl)
  simp only [Nat.add_zero] at hst
  simp [Builtin.clear_, run_underlying Try.underlying62, cells_pointer, zeroCells_one, hst]
/-- what lies in the row when the first d are gone -/
theorem gone_row {w : World} {g d r cv : Nat} {xs : List Value} (hrow : w.ownsRow 0 65 1 (.slice (some ⟨g, 0, none⟩) (d + r) cv) (d + r) xs) :
    ((w.setCells g 0 (xs.drop d)).setCells g r (List.replicate d (.pointer none))).ownsRow 0 65 1 (.slice (some ⟨g, 0, none⟩) r cv) r (xs.drop d) := by
  obtain ⟨hx, ⟨e1, _⟩ | ⟨g', cp, cur, e1, e2, e3, e4, e5, e6, e7⟩⟩ := hrow
  · cases e1
  · obtain ⟨rfl, rfl⟩ : g = g' ∧ cv = cp := by simpa using e1
    have dl : (xs.drop d).length = r := by rw [List.length_drop]; omega
    obtain ⟨c1, a1, a2, a3⟩ := setCells_at g 65 (xs.drop d) 0 w cur e3 (by rw [e6, dl]; omega)
    obtain ⟨c2, b1, b2, b3⟩ := setCells_at g 65 (List.replicate d (.pointer none)) r _ c1 a1 (by rw [a2, e6, List.length_replicate]; omega)
    refine ⟨by rw [dl]; omega, .inr ⟨g, cv, c2, rfl, e2, b1, by omega, e5, by rw [b2, a2, e6], ?_⟩⟩
    apply List.ext_getElem?
    intro j
    rw [List.getElem?_take]
    by_cases hj : j < r
    · rw [if_pos (by omega), Array.getElem?_toList, b3, if_neg (by omega), a3, dl, if_pos (by omega), Nat.sub_zero]
    · rw [if_neg (by omega), List.getElem?_eq_none (by rw [dl]; omega)]
theorem row_there {w : World} {g n cv : Nat} {xs : List Value} (h : w.ownsRow 0 65 1 (.slice (some ⟨g, 0, none⟩) n cv) n xs) : ∀ o, o < cv → (w.cell? ⟨g, o, none⟩).isSome = true ∧ w.frozen? ⟨g, o, none⟩ = false := by
  obtain ⟨hx, ⟨e1, _⟩ | ⟨g', cp, cur, e1, e2, e3, e4, e5, e6, e7⟩⟩ := h
  · cases e1
  · obtain ⟨rfl, rfl⟩ : g = g' ∧ cv = cp := by simpa using e1
    intro o ho
    rw [cell_of_row w g o _ _ _ e3]
    exact ⟨by simp; omega, by simp [World.frozen?, e3]⟩
end Go.Proofs.Ytpaciknmmceehaa.Ls
