/- slices.Delete of the first places of a row of pointers. No condition. -/
import Derived.Test.YtpaciknmmceehaaSlotsGetP
import Derived.Deep.RegionLaw
import Derived.Deep.DeepCutAuto
namespace Go.Proofs.Ytpaciknmmceehaa.Lp
open Go.ChangeShapes Go.WideShapes Go.ChangeAt Go.RowKit Sx
set_option linter.unusedVariables false

theorem zero_ptr (w : World) : (zeroValue 56).run Try.prog w = .ok (.pointer none) w := by
  obtain ⟨i, hi, hz, hs, hb⟩ := info_parts ptrinfo
  simp [zeroValue, typeInfo, hi, hz]
theorem clear_ptr (w : World) (ty : TypeId) (g o n c : Nat) (hc : ∀ j, j < n + 1 → (w.cell? ⟨g, o + j, none⟩).isSome = true) (hf : ∀ j, j < n + 1 → w.frozen? ⟨g, o + j, none⟩ = false) :
    (Builtin.clear_ #[43] ty #[.slice (some ⟨g, o, none⟩) (n + 1) c]).run Try.prog w = .ok (.tuple #[]) (w.setCells g o (List.replicate (n + 1) (.pointer none))) := by
  have hst := run_storeCells_cells (P := Try.prog) g o (List.replicate (n + 1) (.pointer none)) 0 w (by simpa using hc) (by simpa using hf) (fun v hv => by rw [(List.mem_replicate.1 hv).2]; rfl)
  simp only [Nat.add_zero] at hst
  simp [Builtin.clear_, run_underlying Try.underlying43, cells_pointer, zeroCells_one, hst]
/-- what lies in the row when the first d are gone -/
theorem gone_row {w : World} {g d r cv : Nat} {xs : List Value} (hrow : w.ownsRow 0 56 1 (.slice (some ⟨g, 0, none⟩) (d + r) cv) (d + r) xs) :
    ((w.setCells g 0 (xs.drop d)).setCells g r (List.replicate d (.pointer none))).ownsRow 0 56 1 (.slice (some ⟨g, 0, none⟩) r cv) r (xs.drop d) := by
  obtain ⟨hx, ⟨e1, _⟩ | ⟨g', cp, cur, e1, e2, e3, e4, e5, e6, e7⟩⟩ := hrow
  · cases e1
  · obtain ⟨rfl, rfl⟩ : g = g' ∧ cv = cp := by simpa using e1
    have dl : (xs.drop d).length = r := by rw [List.length_drop]; omega
    obtain ⟨c1, a1, a2, a3⟩ := setCells_at g 56 (xs.drop d) 0 w cur e3 (by rw [e6, dl]; omega)
    obtain ⟨c2, b1, b2, b3⟩ := setCells_at g 56 (List.replicate d (.pointer none)) r _ c1 a1 (by rw [a2, e6, List.length_replicate]; omega)
    refine ⟨by rw [dl]; omega, .inr ⟨g, cv, c2, rfl, e2, b1, by omega, e5, by rw [b2, a2, e6], ?_⟩⟩
    apply List.ext_getElem?
    intro j
    rw [List.getElem?_take]
    by_cases hj : j < r
    · rw [if_pos (by omega), Array.getElem?_toList, b3, if_neg (by omega), a3, dl, if_pos (by omega), Nat.sub_zero]
    · rw [if_neg (by omega), List.getElem?_eq_none (by rw [dl]; omega)]
theorem row_there {w : World} {g n cv : Nat} {xs : List Value} (h : w.ownsRow 0 56 1 (.slice (some ⟨g, 0, none⟩) n cv) n xs) : ∀ o, o < cv → (w.cell? ⟨g, o, none⟩).isSome = true ∧ w.frozen? ⟨g, o, none⟩ = false := by
  obtain ⟨hx, ⟨e1, _⟩ | ⟨g', cp, cur, e1, e2, e3, e4, e5, e6, e7⟩⟩ := h
  · cases e1
  · obtain ⟨rfl, rfl⟩ : g = g' ∧ cv = cp := by simpa using e1
    intro o ho
    rw [cell_of_row w g o _ _ _ e3]
    exact ⟨by simp; omega, by simp [World.frozen?, e3]⟩
set_option maxRecDepth 100000 in
set_option maxHeartbeats 1000000 in
theorem delete_any {w : World} {g d r cv : Nat} {xs : List Value} (hrow : w.ownsRow 0 56 1 (.slice (some ⟨g, 0, none⟩) (d + 1 + r) cv) (d + 1 + r) xs) (h1 : ∀ u ∈ xs, u.oneCell' = true) (hm : d + 1 + r ≤ 1024) (m : Nat) (em : m = d + 1 + r) :
    Calls Try.prog 28 #[.slice (some ⟨g, 0, none⟩) m cv, .int .i64 0, .int .i64 ((d : Int) + 1)] w fun e w' => e = .returned (.slice (some ⟨g, 0, none⟩) r cv) ∧ w'.ownsRow 0 56 1 (.slice (some ⟨g, 0, none⟩) r cv) r (xs.drop (d + 1)) ∧ w.grownBy w' (some g) := by
  obtain ⟨i0, hi, hz0, hz1, hz2⟩ := info_parts ptrinfo
  have hcv : d + 1 + r ≤ cv := by
    obtain ⟨hx, ⟨e1, _⟩ | ⟨g', cp, cur, e1, e2, e3, e4, e5, e6, e7⟩⟩ := id hrow
    · cases e1
    · obtain ⟨rfl, rfl⟩ : g = g' ∧ cv = cp := by simpa using e1
      exact e4
  have ER := hide (gone_row hrow)
  have TH := hide (row_there hrow)
  have RW : Hid (∀ j u, xs[j]? = some u → w.cell? ⟨g, j, none⟩ = some u) := fun j u hu => by rw [hrow.cellAt j (by have := (List.getElem?_eq_some_iff.1 hu).1; have := hrow.1; omega)]; exact hu
  have LL0 : Hid (xs.length = d + 1 + r) := by have := hrow.1; show _ = _; omega
  have hx : ((0 : Int) == (d : Int) + 1) = false := by simp; omega
  have hx2 : ((0 : Int) = (d : Int) + 1) = False := by simp; omega
  have EM := hide em
  have t2 : (0 : Int) ≤ (d : Int) + 1 := by omega
  have t3 : (d : Int) + 1 ≤ (m : Int) := by omega
  have t4 : (m : Int) ≤ (cv : Int) := by omega
  have t6 : (0 : Int) ≤ (m : Int) := by omega
  clear em hrow
  go_enter Try.func28, Try.ntmps28
  go_wp2_with fail
  have hn1 : cv ≠ r := by omega
  have hn0 : cv ≠ 0 := by omega
  have OC : Hid (∀ u ∈ xs.drop (d + 1), u.oneCell' = true) := fun u hu => h1 u (List.mem_of_mem_drop hu)
  have LL : Hid ((xs.drop (d + 1)).length = r * 1) := by show _ = _; rw [List.length_drop, LL0.out]; omega
  have hmr : m - (d + 1) = r := by have := EM.out; omega
  have TH2 : Hid (∀ j, j < (xs.drop (d + 1)).length → (w.cell? ⟨g, 0 + 0 * 1 + j, none⟩).isSome = true ∧ w.frozen? ⟨g, 0 + 0 * 1 + j, none⟩ = false) := fun j hj => TH.out _ (by rw [LL.out] at hj; omega)
  have RD : Hid (0 < r → ∀ j u, (xs.drop (d + 1))[j]? = some u → w.cell? ⟨g, d + 1 + j, none⟩ = some u) := fun h0 j u hu => by rw [List.getElem?_drop] at hu; exact (RW.out _ _ hu)
  obtain ⟨w2, e2⟩ : ∃ w2, w2 = w.drew.setCells g 0 (xs.drop (d + 1)) := ⟨_, rfl⟩
  have ER2 : Hid ((w2.setCells g r (List.replicate (d + 1) (.pointer none))).ownsRow 0 56 1 (.slice (some ⟨g, 0, none⟩) r cv) r (xs.drop (d + 1))) := by rw [e2]; exact row_same ER.out (fun q hq => by rw [setCells_drew, setCells_drew]; rfl)
  have GR2 : Hid (w.grownBy (w2.setCells g r (List.replicate (d + 1) (.pointer none))) (some g)) := by
    have h1 := setCells_grown g (xs.drop (d + 1)) 0 w.drew
    have h2 := setCells_grown g (List.replicate (d + 1) (.pointer none)) r w2
    rw [← e2] at h1
    exact ⟨h2.os.trans h1.os, h2.tape.trans h1.tape, h2.output.trans h1.output, Nat.le_trans h1.size h2.size, fun q hq hn => (h2.block q (Nat.lt_of_lt_of_le hq h1.size) hn).trans (h1.block q hq hn)⟩
  have T2 : Hid (∀ j, j < d + 1 → (w2.cell? ⟨g, r + j, none⟩).isSome = true ∧ w2.frozen? ⟨g, r + j, none⟩ = false) := fun j hj => by
    have h1 := TH.out (r + j) (by omega)
    rw [e2]
    exact ⟨setCells_isSome w g _ _ _ _ h1.1, by rw [setCells_frozen]; exact h1.2⟩
  have cl := clear_ptr w2 0 g r d (cv - r) (fun j hj => (T2.out j hj).1) (fun j hj => (T2.out j hj).2)
  have u1 : (r : Int) ≤ (m : Int) := by have := EM.out; omega
  have u2 : (0 : Int) ≤ (r : Int) := by omega
  have hmk : m - r = d + 1 := by have := EM.out; omega
  have E2 := hide e2
  clear e2 h1
  by_cases hc1 : cv = d + 1
  · have hc2 : (cv = d + 1) = True := by simp [hc1]
    have R0 : Hid (r = 0) := by show _ = _; omega
    clear hc1
    go_region_law (refine step_append_room (by rfl) (.tmp 22) (.tmp 25) 43 (by rfl) 56 i0 1 Try.underlying43 hi hz1 g 0 0 cv (by rfl) ⟨g, 0, none⟩ r (cv - (d + 1)) (xs.drop (d + 1)) (by rfl) LL.out (fun j u hu => by have := (List.getElem?_eq_some_iff.1 hu).1; rw [LL.out, R0.out] at this; omega) OC.out (by omega) TH2.out ?_; rw [Nat.zero_add, Nat.zero_mul, ← E2.out])
    all_goals (go_wp2_with fail; go_ret; exact ⟨rfl, ER2.out, GR2.out⟩)
  · go_region_law (refine step_append_room (by rfl) (.tmp 22) (.tmp 25) 43 (by rfl) 56 i0 1 Try.underlying43 hi hz1 g 0 0 cv (by rfl) ⟨g, d + 1, none⟩ r (cv - (d + 1)) (xs.drop (d + 1)) (by rfl) LL.out (fun j u hu => by rw [Addr.add_lit]; exact RD.out (by have := (List.getElem?_eq_some_iff.1 hu).1; rw [LL.out] at this; omega) j u hu) OC.out (by omega) TH2.out ?_; rw [Nat.zero_add, Nat.zero_mul, ← E2.out])
    all_goals (go_wp2_with fail; go_ret; exact ⟨rfl, ER2.out, GR2.out⟩)
end Go.Proofs.Ytpaciknmmceehaa.Lp
