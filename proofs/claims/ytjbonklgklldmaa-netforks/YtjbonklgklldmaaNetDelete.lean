/- One packet taken out of a list: slices.Delete at packets. No condition. -/
import Derived.Test.YtjbonklgklldmaaNetPush
import Derived.Deep.RegionLaw
import Derived.Deep.DeepCutAuto
namespace Go.Proofs.Ytjbonklgklldmaa
open Go.ChangeShapes Go.WideShapes Go.ChangeAt Go.RowKit B8 Nm
set_option linter.unusedVariables false

theorem setCells_at (g : Nat) (t : TypeId) : ∀ (vs : List Value) (o : Nat) (w : World) (cur : Array Value), w.heap[g]? = some (.cells cur t (0, 0)) → o + vs.length ≤ cur.size →
    ∃ cur', (w.setCells g o vs).heap[g]? = some (.cells cur' t (0, 0)) ∧ cur'.size = cur.size ∧ ∀ j, cur'[j]? = if o ≤ j ∧ j < o + vs.length then vs[j - o]? else cur[j]?
  | [], o, w, cur, h, _ => ⟨cur, h, rfl, fun j => by rw [if_neg (by simp)]⟩
  | v :: r, o, w, cur, h, hs => by
    have hw : (w.setCell ⟨g, o, none⟩ v).heap[g]? = some (.cells (cur.setIfInBounds o v) t (0, 0)) := by simp [World.setCell, Array.getElem?_modify, h]
    obtain ⟨cur', h1, h2, h3⟩ := setCells_at g t r (o + 1) (w.setCell ⟨g, o, none⟩ v) _ hw (by simp at hs ⊢; omega)
    refine ⟨cur', h1, by rw [h2]; simp, fun j => ?_⟩
    rw [h3 j]
    simp only [List.length_cons] at hs ⊢
    by_cases e : j = o
    · subst e
      rw [if_neg (by omega), if_pos (by omega)]
      have : j < cur.size := by omega
      simp [this]
    · by_cases e2 : o + 1 ≤ j ∧ j < o + 1 + r.length
      · rw [if_pos e2, if_pos (by omega), show j - o = (j - (o + 1)) + 1 by omega]
        simp
      · rw [if_neg e2, if_neg (by omega), Array.getElem?_setIfInBounds, if_neg (by omega)]
theorem erase_cells (l : List Pv) (k : Nat) (hk : k < l.length) : pcells (l.eraseIdx k) = (pcells l).take (k * 3) ++ (pcells l).drop ((k + 1) * 3) := by
  have e : pcells l = pcells (l.take k) ++ (l[k].cells ++ pcells (l.drop (k + 1))) := by
    conv => lhs; rw [← List.take_append_drop k l, pcells_append, List.drop_eq_getElem_cons hk]
    rfl
  have l1 : (pcells (l.take k)).length = k * 3 := by rw [pcells_length]; simp; omega
  have l2 : (pcells (l.take k) ++ l[k].cells).length = (k + 1) * 3 := by rw [List.length_append, l1]; simp [Pv.cells]; omega
  rw [List.eraseIdx_eq_take_drop_succ, pcells_append, e]
  rw [List.take_left' l1, ← List.append_assoc, List.drop_left' l2]
/-- what lies in the row when one is gone -/
theorem erased {w : World} {g k r cv : Nat} {l : List Pv} (hrow : w.ownsRow 0 33 3 (.slice (some ⟨g, 0, none⟩) (k + 1 + r) cv) (k + 1 + r) (pcells l)) (hl : l.length = k + 1 + r) :
    ((w.setCells g (k * 3) ((pcells l).drop ((k + 1) * 3))).setCells g ((k + r) * 3) zpk.toList).ownsRow 0 33 3 (.slice (some ⟨g, 0, none⟩) (k + r) cv) (k + r) (pcells (l.eraseIdx k)) := by
  have hlen := pcells_length l
  obtain ⟨hx, ⟨e1, _⟩ | ⟨g', cp, cur, e1, e2, e3, e4, e5, e6, e7⟩⟩ := hrow
  · cases e1
  · obtain ⟨rfl, rfl⟩ : g = g' ∧ cv = cp := by simpa using e1
    have hat : ∀ j, j < (k + 1 + r) * 3 → cur[j]? = (pcells l)[j]? := fun j hj => by
      rw [← e7, List.getElem?_take, if_pos hj]; simp
    obtain ⟨c1, a1, a2, a3⟩ := setCells_at g 33 ((pcells l).drop ((k + 1) * 3)) (k * 3) w cur e3 (by rw [e6]; simp [hlen, hl]; have := Nat.mul_le_mul_right 3 e4; omega)
    obtain ⟨c2, b1, b2, b3⟩ := setCells_at g 33 zpk.toList ((k + r) * 3) _ c1 a1 (by rw [a2, e6]; have := Nat.mul_le_mul_right 3 e4; simp [zpk]; omega)
    have dl : ((pcells l).drop ((k + 1) * 3)).length = r * 3 := by simp [hlen, hl]; omega
    refine ⟨by rw [pcells_length, List.length_eraseIdx_of_lt (by omega), hl]; omega, .inr ⟨g, cv, c2, rfl, e2, b1, by omega, e5, by rw [b2, a2, e6], ?_⟩⟩
    rw [erase_cells l k (by omega)]
    apply List.ext_getElem?
    intro j
    rw [List.getElem?_take]
    have tl : ((pcells l).take (k * 3)).length = k * 3 := by simp [hlen, hl]; omega
    by_cases hj : j < (k + r) * 3
    · rw [if_pos hj, Array.getElem?_toList, b3, if_neg (by omega), a3, dl]
      by_cases hj2 : j < k * 3
      · rw [if_neg (by omega), List.getElem?_append_left (by omega), List.getElem?_take, if_pos hj2, hat j (by omega)]
      · rw [if_pos (by omega), List.getElem?_append_right (by omega), tl]
    · rw [if_neg hj, List.getElem?_eq_none (by rw [List.length_append, tl, dl]; omega)]

theorem zero_pk (w : World) : (zeroValue 33).run Try.prog w = .ok (.agg zpk) w := by
  obtain ⟨i, hi, hz, hs, hb⟩ := info_parts pkinfo
  simp [zeroValue, typeInfo, hi, hz]
theorem clear_pk (w : World) (ty : TypeId) (g o c : Nat) (hc : ∀ j, j < 3 → (w.cell? ⟨g, o + j, none⟩).isSome = true) (hf : ∀ j, j < 3 → w.frozen? ⟨g, o + j, none⟩ = false) :
    (Builtin.clear_ #[27] ty #[.slice (some ⟨g, o, none⟩) 1 c]).run Try.prog w = .ok (.tuple #[]) (w.setCells g o zpk.toList) := by
  have hzc : (Builtin.zeroCells (Value.agg #[.int .i64 0, .int .i64 0, .slice none 0 0]).cells 1).toList = zpk.toList := by
    apply List.ext_getElem
    · simp [Builtin.zeroCells, Value.cells, zpk]
    · intro i h1 h2
      simp [zpk] at h2
      match i, h2 with
      | 0, _ => simp [Builtin.zeroCells, Value.cells, zpk]
      | 1, _ => simp [Builtin.zeroCells, Value.cells, zpk]
      | 2, _ => simp [Builtin.zeroCells, Value.cells, zpk]
  have hst := run_storeCells_cells (P := Try.prog) g o zpk.toList 0 w (by simpa [zpk] using hc) (by simpa [zpk] using hf) (by intro v hv; simp [zpk] at hv; rcases hv with rfl | rfl <;> rfl)
  simp only [Nat.add_zero] at hst
  simp [Builtin.clear_, run_underlying Try.underlying27]
  rw [hzc, hst]
  rfl
theorem row_there {w : World} {g n cv : Nat} {xs : List Value} (h : w.ownsRow 0 33 3 (.slice (some ⟨g, 0, none⟩) n cv) n xs) : ∀ o, o < cv * 3 → (w.cell? ⟨g, o, none⟩).isSome = true ∧ w.frozen? ⟨g, o, none⟩ = false := by
  obtain ⟨hx, ⟨e1, _⟩ | ⟨g', cp, cur, e1, e2, e3, e4, e5, e6, e7⟩⟩ := h
  · cases e1
  · obtain ⟨rfl, rfl⟩ : g = g' ∧ cv = cp := by simpa using e1
    intro o ho
    rw [cell_of_row w g o _ _ _ e3]
    exact ⟨by simp; omega, by simp [World.frozen?, e3]⟩
theorem setCells_isSome (w : World) (g : Nat) : ∀ (vs : List Value) (o : Nat) (w : World) (j : Nat), (w.cell? ⟨g, j, none⟩).isSome = true → ((w.setCells g o vs).cell? ⟨g, j, none⟩).isSome = true
  | [], _, _, _, h => h
  | v :: r, o, w, j, h => by
    rw [World.setCells]
    refine setCells_isSome w g r (o + 1) _ j ?_
    by_cases e : j = o
    · subst e
      rw [World.cell?_setCell_same' _ _ _ h]
      rfl
    · rw [World.cell?_setCell_other _ _ _ _ (by simp)]
      exact h
theorem setCells_frozen (g : Nat) (a : Addr) : ∀ (vs : List Value) (o : Nat) (w : World), (w.setCells g o vs).frozen? a = w.frozen? a
  | [], _, _ => rfl
  | v :: r, o, w => by rw [World.setCells, setCells_frozen g a r (o + 1), World.frozen?_setCell]
theorem setCells_grown (g : Nat) : ∀ (vs : List Value) (o : Nat) (w : World), w.grownBy (w.setCells g o vs) (some g)
  | [], _, w => World.grownBy.refl w _
  | v :: r, o, w => by
    rw [World.setCells]
    have h := setCells_grown g r (o + 1) (w.setCell ⟨g, o, none⟩ v)
    exact ⟨h.os, h.tape, h.output, Nat.le_trans (by simp [World.setCell]) h.size, fun k hk hn => (h.block k (by simpa [World.setCell] using hk) hn).trans (Below.heap_setCell _ _ _ _ (fun e => hn (by rw [e])))⟩
theorem setCells_drew (b : Nat) : ∀ (vs : List Value) (o : Nat) (w : World), w.drew.setCells b o vs = (w.setCells b o vs).drew
  | [], _, _ => rfl
  | v :: r, o, w => by rw [World.setCells, World.setCells]; exact setCells_drew b r (o + 1) (w.setCell ⟨b, o, none⟩ v)
set_option maxRecDepth 100000 in
set_option maxHeartbeats 1000000 in
theorem delete_any {w : World} {g k r cv : Nat} {l : List Pv} (hrow : w.ownsRow 0 33 3 (.slice (some ⟨g, 0, none⟩) (k + 1 + r) cv) (k + 1 + r) (pcells l)) (hl : l.length = k + 1 + r) (hm : k + 1 + r ≤ 256) (m : Nat) (em : m = k + 1 + r) :
    Calls Try.prog 32 #[.slice (some ⟨g, 0, none⟩) m cv, .int .i64 k, .int .i64 ((k : Int) + 1)] w fun e w' => e = .returned (.slice (some ⟨g, 0, none⟩) (k + r) cv) ∧ w'.ownsRow 0 33 3 (.slice (some ⟨g, 0, none⟩) (k + r) cv) (k + r) (pcells (l.eraseIdx k)) ∧ w.grownBy w' (some g) := by
  obtain ⟨i0, hi, hz0, hz1, hz2⟩ := info_parts pkinfo
  have hcv : k + 1 + r ≤ cv := by
    obtain ⟨hx, ⟨e1, _⟩ | ⟨g', cp, cur, e1, e2, e3, e4, e5, e6, e7⟩⟩ := id hrow
    · cases e1
    · obtain ⟨rfl, rfl⟩ : g = g' ∧ cv = cp := by simpa using e1
      exact e4
  have ER := hide (erased hrow hl)
  have TH := hide (row_there hrow)
  have RW : Hid (∀ j u, (pcells l)[j]? = some u → w.cell? ⟨g, j, none⟩ = some u) := fun j u hu => by rw [hrow.cellAt j (by have := (List.getElem?_eq_some_iff.1 hu).1; rw [pcells_length, hl] at this; omega)]; exact hu
  have LL0 : Hid ((pcells l).length = (k + 1 + r) * 3) := by show _ = _; rw [pcells_length, hl]
  have hx : ((k : Int) == (k : Int) + 1) = false := by simp; omega
  have hx2 : ((k : Int) = (k : Int) + 1) = False := by simp; omega
  have EM := hide em
  have t1 : (0 : Int) ≤ (k : Int) := by omega
  have t2 : (k : Int) ≤ (k : Int) + 1 := by omega
  have t3 : (k : Int) + 1 ≤ (m : Int) := by omega
  have t4 : (m : Int) ≤ (cv : Int) := by omega
  have t5 : (0 : Int) ≤ (k : Int) + 1 := by omega
  clear em hrow hl
  go_enter Try.func32, Try.ntmps32
  go_wp2_with fail
  have hn1 : cv ≠ k + r := by omega
  have OC : Hid (∀ u ∈ (pcells l).drop ((k + 1) * 3), u.oneCell' = true) := fun u hu => pcells_one l u (List.mem_of_mem_drop hu)
  have LL : Hid (((pcells l).drop ((k + 1) * 3)).length = r * 3) := by show _ = _; rw [List.length_drop, LL0.out]; omega
  have hmr : m - (k + 1) = r := by have := EM.out; omega
  have hkc : k ≤ cv := by omega
  have TH2 : Hid (∀ j, j < ((pcells l).drop ((k + 1) * 3)).length → (w.cell? ⟨g, 0 + k * 3 + j, none⟩).isSome = true ∧ w.frozen? ⟨g, 0 + k * 3 + j, none⟩ = false) := fun j hj => TH.out _ (by rw [LL.out] at hj; omega)
  have RD : Hid (0 < r → ∀ j u, ((pcells l).drop ((k + 1) * 3))[j]? = some u → w.cell? ⟨g, (k + 1) * 3 + j, none⟩ = some u) := fun h0 j u hu => by rw [List.getElem?_drop] at hu; exact (RW.out _ _ hu)
  obtain ⟨w2, e2⟩ : ∃ w2, w2 = w.drew.setCells g (k * 3) ((pcells l).drop ((k + 1) * 3)) := ⟨_, rfl⟩
  have ER2 : Hid ((w2.setCells g ((k + r) * 3) zpk.toList).ownsRow 0 33 3 (.slice (some ⟨g, 0, none⟩) (k + r) cv) (k + r) (pcells (l.eraseIdx k))) := by rw [e2]; exact row_same ER.out (fun q hq => by rw [setCells_drew, setCells_drew]; rfl)
  have GR2 : Hid (w.grownBy (w2.setCells g ((k + r) * 3) zpk.toList) (some g)) := by
    have h1 := setCells_grown g ((pcells l).drop ((k + 1) * 3)) (k * 3) w.drew
    have h2 := setCells_grown g zpk.toList ((k + r) * 3) w2
    rw [← e2] at h1
    exact ⟨h2.os.trans h1.os, h2.tape.trans h1.tape, h2.output.trans h1.output, Nat.le_trans h1.size h2.size, fun q hq hn => (h2.block q (Nat.lt_of_lt_of_le hq h1.size) hn).trans (h1.block q hq hn)⟩
  have T2 : Hid (∀ j, j < 3 → (w2.cell? ⟨g, (k + r) * 3 + j, none⟩).isSome = true ∧ w2.frozen? ⟨g, (k + r) * 3 + j, none⟩ = false) := fun j hj => by
    have h1 := TH.out ((k + r) * 3 + j) (by omega)
    rw [e2]
    exact ⟨setCells_isSome w g _ _ _ _ h1.1, by rw [setCells_frozen]; exact h1.2⟩
  have cl := clear_pk w2 0 g ((k + r) * 3) (cv - (k + r)) (fun j hj => (T2.out j hj).1) (fun j hj => (T2.out j hj).2)
  have u1 : (k : Int) + (r : Int) ≤ (m : Int) := by have := EM.out; omega
  have u2 : (0 : Int) ≤ (k : Int) + (r : Int) := by omega
  have hmk : m - (k + r) = 1 := by have := EM.out; omega
  have E2 := hide e2
  clear e2
  by_cases hc1 : cv = k + 1
  · have hc2 : (cv = k + 1) = True := by simp [hc1]
    have R0 : Hid (r = 0) := by show _ = _; omega
    clear hc1
    go_region_law (refine step_append_room (by rfl) (.tmp 22) (.tmp 25) 27 (by rfl) 33 i0 3 Try.underlying27 hi hz1 g 0 k cv (by rfl) ⟨g, 0, none⟩ r (cv - (k + 1)) ((pcells l).drop ((k + 1) * 3)) (by rfl) LL.out (fun j u hu => by have := (List.getElem?_eq_some_iff.1 hu).1; rw [LL.out, R0.out] at this; omega) OC.out (by omega) TH2.out ?_; rw [Nat.zero_add, ← E2.out])
    all_goals (go_wp2_with fail; go_ret; exact ⟨rfl, ER2.out, GR2.out⟩)
  · go_region_law (refine step_append_room (by rfl) (.tmp 22) (.tmp 25) 27 (by rfl) 33 i0 3 Try.underlying27 hi hz1 g 0 k cv (by rfl) ⟨g, (k + 1) * 3, none⟩ r (cv - (k + 1)) ((pcells l).drop ((k + 1) * 3)) (by rfl) LL.out (fun j u hu => by rw [Addr.add_lit]; exact RD.out (by have := (List.getElem?_eq_some_iff.1 hu).1; rw [LL.out] at this; omega) j u hu) OC.out (by omega) TH2.out ?_; rw [Nat.zero_add, ← E2.out])
    all_goals (go_wp2_with fail; go_ret; exact ⟨rfl, ER2.out, GR2.out⟩)
end Go.Proofs.Ytjbonklgklldmaa
