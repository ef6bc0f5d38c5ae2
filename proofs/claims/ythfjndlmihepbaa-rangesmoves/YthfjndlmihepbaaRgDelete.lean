/- slices.Delete at places: one is taken out of a list of the call's own. No condition but a small length. -/
import Derived.Test.YthfjndlmihepbaaRgTouch
import Derived.Deep.RegionLaw
import Derived.Deep.DeepCutAuto
namespace Go.Proofs.Ythfjndlmihepbaa
open Go.ChangeShapes Go.WideShapes Go.ChangeAt Go.RowKit Rg
set_option linter.unusedVariables false

def zpk : Array Value := #[.int .i64 0, .string ⟨#[]⟩, .int .i64 0]
theorem pcells_length (l : List Pc) : (fcells penc l).length = l.length * 3 := fcells_length pflat l
theorem erase_cells (l : List Pc) (k : Nat) (hk : k < l.length) : fcells penc (l.eraseIdx k) = (fcells penc l).take (k * 3) ++ (fcells penc l).drop ((k + 1) * 3) := by
  rw [List.eraseIdx_eq_take_drop_succ, fcells_append, fcells_take pflat, fcells_drop pflat]
/-- what lies in the row when one is gone -/
theorem erased {w : World} {B g k r cv : Nat} {l : List Pc} (hrow : w.ownsRow B 39 3 (.slice (some ⟨g, 0, none⟩) (k + 1 + r) cv) (k + 1 + r) (fcells penc l)) (hl : l.length = k + 1 + r) :
    ((w.setCells g (k * 3) ((fcells penc l).drop ((k + 1) * 3))).setCells g ((k + r) * 3) zpk.toList).ownsRow B 39 3 (.slice (some ⟨g, 0, none⟩) (k + r) cv) (k + r) (fcells penc (l.eraseIdx k)) := by
  have hlen := pcells_length l
  obtain ⟨hx, ⟨e1, _⟩ | ⟨g', cp, cur, e1, e2, e3, e4, e5, e6, e7⟩⟩ := hrow
  · cases e1
  · obtain ⟨rfl, rfl⟩ : g = g' ∧ cv = cp := by simpa using e1
    have hat : ∀ j, j < (k + 1 + r) * 3 → cur[j]? = (fcells penc l)[j]? := fun j hj => by
      rw [← e7, List.getElem?_take, if_pos hj]; simp
    obtain ⟨c1, a1, a2, a3⟩ := setCells_at g 39 ((fcells penc l).drop ((k + 1) * 3)) (k * 3) w cur e3 (by rw [e6]; simp [hlen, hl]; have := Nat.mul_le_mul_right 3 e4; omega)
    obtain ⟨c2, b1, b2, b3⟩ := setCells_at g 39 zpk.toList ((k + r) * 3) _ c1 a1 (by rw [a2, e6]; have := Nat.mul_le_mul_right 3 e4; simp [zpk]; omega)
    have dl : ((fcells penc l).drop ((k + 1) * 3)).length = r * 3 := by simp [hlen, hl]; omega
    refine ⟨by rw [pcells_length, List.length_eraseIdx_of_lt (by omega), hl]; omega, .inr ⟨g, cv, c2, rfl, e2, b1, by omega, e5, by rw [b2, a2, e6], ?_⟩⟩
    rw [erase_cells l k (by omega)]
    apply List.ext_getElem?
    intro j
    rw [List.getElem?_take]
    have tl : ((fcells penc l).take (k * 3)).length = k * 3 := by simp [hlen, hl]; omega
    by_cases hj : j < (k + r) * 3
    · rw [if_pos hj, Array.getElem?_toList, b3, if_neg (by omega), a3, dl]
      by_cases hj2 : j < k * 3
      · rw [if_neg (by omega), List.getElem?_append_left (by omega), List.getElem?_take, if_pos hj2, hat j (by omega)]
      · rw [if_pos (by omega), List.getElem?_append_right (by omega), tl]
    · rw [if_neg hj, List.getElem?_eq_none (by rw [List.length_append, tl, dl]; omega)]

theorem clear_pk (w : World) (ty : TypeId) (g o c : Nat) (hc : ∀ j, j < 3 → (w.cell? ⟨g, o + j, none⟩).isSome = true) (hf : ∀ j, j < 3 → w.frozen? ⟨g, o + j, none⟩ = false) :
    (Builtin.clear_ #[22] ty #[.slice (some ⟨g, o, none⟩) 1 c]).run Try.prog w = .ok (.tuple #[]) (w.setCells g o zpk.toList) := by
  have hzc : (Builtin.zeroCells (Value.agg #[.int .i64 0, .string ⟨#[]⟩, .int .i64 0]).cells 1).toList = zpk.toList := by
    apply List.ext_getElem
    · simp [Builtin.zeroCells, Value.cells, zpk]
    · intro i h1 h2
      simp [zpk] at h2
      match i, h2 with
      | 0, _ => simp [Builtin.zeroCells, Value.cells, zpk]
      | 1, _ => simp [Builtin.zeroCells, Value.cells, zpk]
      | 2, _ => simp [Builtin.zeroCells, Value.cells, zpk]
  have hst := run_storeCells_cells (P := Try.prog) g o zpk.toList 0 w (by simpa [zpk] using hc) (by simpa [zpk] using hf) (by intro v hv; simp [zpk] at hv; rcases hv with rfl | rfl | rfl <;> rfl)
  simp only [Nat.add_zero] at hst
  simp [Builtin.clear_, run_underlying Try.underlying22]
  rw [hzc, hst]
  rfl
theorem row_there {w : World} {B g n cv : Nat} {xs : List Value} (h : w.ownsRow B 39 3 (.slice (some ⟨g, 0, none⟩) n cv) n xs) : ∀ o, o < cv * 3 → (w.cell? ⟨g, o, none⟩).isSome = true ∧ w.frozen? ⟨g, o, none⟩ = false := by
  obtain ⟨hx, ⟨e1, _⟩ | ⟨g', cp, cur, e1, e2, e3, e4, e5, e6, e7⟩⟩ := h
  · cases e1
  · obtain ⟨rfl, rfl⟩ : g = g' ∧ cv = cp := by simpa using e1
    intro o ho
    rw [cell_of_row w g o _ _ _ e3]
    exact ⟨by simp; omega, by simp [World.frozen?, e3]⟩
set_option maxRecDepth 100000 in
set_option maxHeartbeats 1000000 in
theorem delete_any {w : World} {B g k r cv : Nat} {l : List Pc} (hrow : w.ownsRow B 39 3 (.slice (some ⟨g, 0, none⟩) (k + 1 + r) cv) (k + 1 + r) (fcells penc l)) (hl : l.length = k + 1 + r) (hm : k + 1 + r ≤ 256) (m : Nat) (em : m = k + 1 + r) :
    Calls Try.prog 39 #[.slice (some ⟨g, 0, none⟩) m cv, .int .i64 k, .int .i64 ((k : Int) + 1)] w fun e w' => e = .returned (.slice (some ⟨g, 0, none⟩) (k + r) cv) ∧ w'.ownsRow B 39 3 (.slice (some ⟨g, 0, none⟩) (k + r) cv) (k + r) (fcells penc (l.eraseIdx k)) ∧ w.grownBy w' (some g) := by
  obtain ⟨i0, hi, hz0, hz1, hz2⟩ := info_parts FnP.info
  have hcv : k + 1 + r ≤ cv := by
    obtain ⟨hx, ⟨e1, _⟩ | ⟨g', cp, cur, e1, e2, e3, e4, e5, e6, e7⟩⟩ := id hrow
    · cases e1
    · obtain ⟨rfl, rfl⟩ : g = g' ∧ cv = cp := by simpa using e1
      exact e4
  have ER := hide (erased hrow hl)
  have TH := hide (row_there hrow)
  have RW : Hid (∀ j u, (fcells penc l)[j]? = some u → w.cell? ⟨g, j, none⟩ = some u) := fun j u hu => by rw [hrow.cellAt j (by have := (List.getElem?_eq_some_iff.1 hu).1; rw [pcells_length, hl] at this; omega)]; exact hu
  have LL0 : Hid ((fcells penc l).length = (k + 1 + r) * 3) := by show _ = _; rw [pcells_length, hl]
  have hx : ((k : Int) == (k : Int) + 1) = false := by simp; omega
  have hx2 : ((k : Int) = (k : Int) + 1) = False := by simp; omega
  have EM := hide em
  have t1 : (0 : Int) ≤ (k : Int) := by omega
  have t2 : (k : Int) ≤ (k : Int) + 1 := by omega
  have t3 : (k : Int) + 1 ≤ (m : Int) := by omega
  have t4 : (m : Int) ≤ (cv : Int) := by omega
  have t5 : (0 : Int) ≤ (k : Int) + 1 := by omega
  clear em hrow hl
  go_enter Try.func39, Try.ntmps39
  go_wp2_with fail
  have hn1 : cv ≠ k + r := by omega
  have OC : Hid (∀ u ∈ (fcells penc l).drop ((k + 1) * 3), u.oneCell' = true) := fun u hu => fcells_one pflat l u (List.mem_of_mem_drop hu)
  have LL : Hid (((fcells penc l).drop ((k + 1) * 3)).length = r * 3) := by show _ = _; rw [List.length_drop, LL0.out]; omega
  have hmr : m - (k + 1) = r := by have := EM.out; omega
  have hkc : k ≤ cv := by omega
  have TH2 : Hid (∀ j, j < ((fcells penc l).drop ((k + 1) * 3)).length → (w.cell? ⟨g, 0 + k * 3 + j, none⟩).isSome = true ∧ w.frozen? ⟨g, 0 + k * 3 + j, none⟩ = false) := fun j hj => TH.out _ (by rw [LL.out] at hj; omega)
  have RD : Hid (0 < r → ∀ j u, ((fcells penc l).drop ((k + 1) * 3))[j]? = some u → w.cell? ⟨g, (k + 1) * 3 + j, none⟩ = some u) := fun h0 j u hu => by rw [List.getElem?_drop] at hu; exact (RW.out _ _ hu)
  obtain ⟨w2, e2⟩ : ∃ w2, w2 = w.drew.setCells g (k * 3) ((fcells penc l).drop ((k + 1) * 3)) := ⟨_, rfl⟩
  have ER2 : Hid ((w2.setCells g ((k + r) * 3) zpk.toList).ownsRow B 39 3 (.slice (some ⟨g, 0, none⟩) (k + r) cv) (k + r) (fcells penc (l.eraseIdx k))) := by rw [e2]; exact row_same ER.out (fun q hq => by rw [setCells_drew, setCells_drew]; rfl)
  have GR2 : Hid (w.grownBy (w2.setCells g ((k + r) * 3) zpk.toList) (some g)) := by
    have h1 := setCells_grown g ((fcells penc l).drop ((k + 1) * 3)) (k * 3) w.drew
    have h2 := setCells_grown g zpk.toList ((k + r) * 3) w2
    rw [← e2] at h1
    exact ⟨h2.os.trans h1.os, h2.tape.trans h1.tape, h2.output.trans h1.output, Nat.le_trans h1.size h2.size, fun q hq hn => (h2.block q (Nat.lt_of_lt_of_le hq h1.size) hn).trans (h1.block q hq hn)⟩
  have T2 : Hid (∀ j, j < 3 → (w2.cell? ⟨g, (k + r) * 3 + j, none⟩).isSome = true ∧ w2.frozen? ⟨g, (k + r) * 3 + j, none⟩ = false) := fun j hj => by
    have h1 := TH.out ((k + r) * 3 + j) (by omega)
    rw [e2]
    exact ⟨setCells_isSome w g _ _ _ _ h1.1, by rw [setCells_frozen]; exact h1.2⟩
  have cl := clear_pk w2 0 g ((k + r) * 3) (cv - (k + r)) (fun j hj => (T2.out j hj).1) (fun j hj => (T2.out j hj).2)
  have u1 : (k : Int) + (r : Int) ≤ (m : Int) := by have := EM.out; omega
  have u2 : (0 : Int) ≤ (k : Int) + (r : Int) := by omega
  have hmk : m - (k + r) = 1 := by have := EM.out; omega
  have E2 := hide e2
  clear e2
  by_cases hc1 : cv = k + 1
  · have hc2 : (cv = k + 1) = True := by simp [hc1]
    have R0 : Hid (r = 0) := by show _ = _; omega
    clear hc1
    go_region_law (refine step_append_room (by rfl) (.tmp 22) (.tmp 25) 22 (by rfl) 39 i0 3 Try.underlying22 hi hz1 g 0 k cv (by rfl) ⟨g, 0, none⟩ r (cv - (k + 1)) ((fcells penc l).drop ((k + 1) * 3)) (by rfl) LL.out (fun j u hu => by have := (List.getElem?_eq_some_iff.1 hu).1; rw [LL.out, R0.out] at this; omega) OC.out (by omega) TH2.out ?_; rw [Nat.zero_add, ← E2.out])
    all_goals (go_wp2_with fail; go_ret; exact ⟨rfl, ER2.out, GR2.out⟩)
  · go_region_law (refine step_append_room (by rfl) (.tmp 22) (.tmp 25) 22 (by rfl) 39 i0 3 Try.underlying22 hi hz1 g 0 k cv (by rfl) ⟨g, (k + 1) * 3, none⟩ r (cv - (k + 1)) ((fcells penc l).drop ((k + 1) * 3)) (by rfl) LL.out (fun j u hu => by rw [Addr.add_lit]; exact RD.out (by have := (List.getElem?_eq_some_iff.1 hu).1; rw [LL.out] at this; omega) j u hu) OC.out (by omega) TH2.out ?_; rw [Nat.zero_add, ← E2.out])
    all_goals (go_wp2_with fail; go_ret; exact ⟨rfl, ER2.out, GR2.out⟩)
end Go.Proofs.Ythfjndlmihepbaa
