/- The landed Merge. Condition: the list can be read, and is no longer than its capacity. -/
import Derived.Test.YthfjndlmihepbaaRgSplit
import Derived.Test.YthfjndlmihepbaaRgDelete
namespace Go.Proofs.Ythfjndlmihepbaa
open Go.ChangeShapes Go.WideShapes Go.ChangeAt Go.RowKit Rg
set_option linter.unusedVariables false

theorem merge_list {α : Type} (l : List α) (k : Nat) (h : k < l.length) (p : α) : (l.set k p).eraseIdx (k + 1) = l.take k ++ [p] ++ l.drop (k + 2) := by
  have hs : l.set k p = (l.take k ++ [p]) ++ l.drop (k + 1) := by rw [List.set_eq_take_append_cons_drop, if_pos h]; simp
  have hk1 : (l.take k ++ [p]).length = k + 1 := by simp; omega
  rw [hs, List.eraseIdx_append_of_length_le (by omega), hk1, Nat.sub_self, List.eraseIdx_zero, List.tail_drop]
theorem row_mono' {w : World} {B T n sz : Nat} {v : Value} {xs : List Value} (h : w.ownsRow B T sz v n xs) : w.ownsRow 0 T sz v n xs := row_mono h (Nat.zero_le _)
set_option maxRecDepth 100000 in
set_option maxHeartbeats 2000000 in
theorem merge_any {w : World} {a : Option Addr} {n c : Nat} {l : List Pc} (h : Ps w a n l) (hcp : Cp a n c) (i : Int) (hi : I64 i) :
    Calls Try.prog 28 #[.slice a n c, .int .i64 i] w (Out w (mergeL l i) (mergeE l i)) := by
  have H := hide h
  have CC := fun W hb => hide (check_any (H.out.below (w' := W) hb) hcp)
  have CE := fun W hb => hide (epoch_any (c := c) (H.out.below (w' := W) hb))
  have B0 : Below w.heap.size w w := Below.refl _ _
  have hlen := h.len
  have hr := h.room
  unfold I64 at hi
  clear h
  rcases check_is l with ⟨hR, e0⟩ | ⟨hR, e0⟩
  rotate_left
  · have e1 : mergeE l i = 21 := if_pos hR
    have e2 : mergeL l i = [] := if_neg (by rw [e1]; decide)
    rw [e0] at CC
    rw [e1, e2]
    clear CE
    go_enter Try.func28, Try.ntmps28
    go_wp2_with fail
    refine (CC _ B0).out.mono ?_
    rintro e w1 ⟨rfl, hb1⟩
    have HB1 := hide hb1
    clear hb1 CC
    go_wp2_with fail
    go_returns
    exact out_none 21 HB1.out
  rw [e0] at CC
  have HE : Hid (mergeE l i = if i < 0 ∨ (l.length : Int) - 1 ≤ i ∨ 4611686018427387904 ≤ epochV l then 170 else 0) := by
    show _ = _
    unfold mergeE
    rw [if_neg (by rw [hR]; decide)]
  have HL : Hid (mergeE l i = 0 → mergeL l i = l.take i.toNat ++ [touch l (l.getD i.toNat pc0)] ++ l.drop (i.toNat + 2)) := fun e => if_pos e
  have HD : Hid (¬ mergeE l i = 0 → mergeL l i = []) := fun e => if_neg e
  obtain ⟨hl1, hl8, _, _⟩ := right_parts hR
  clear hR e0
  have j0 : IntKind.i64.wrap ((n : Int) - 1) = (n : Int) - 1 := by rw [IntKind.wrap_i64]; omega
  by_cases h1 : i < 0
  · have e1 : mergeE l i = 170 := by rw [HE.out, if_pos (.inl h1)]
    rw [e1, HD.out (by rw [e1]; decide)]
    clear CE HE HL HD e1
    go_enter Try.func28, Try.ntmps28
    go_wp2_with fail
    refine (CC _ B0).out.mono ?_
    rintro e w1 ⟨rfl, hb1⟩
    have HB1 := hide hb1
    clear hb1 CC
    go_wp2_with fail
    go_returns
    exact out_none 170 HB1.out
  by_cases h2 : (n : Int) - 1 ≤ i
  · have e1 : mergeE l i = 170 := by rw [HE.out, if_pos (.inr (.inl (by rw [hlen]; exact h2)))]
    rw [e1, HD.out (by rw [e1]; decide)]
    clear CE HE HL HD e1
    go_enter Try.func28, Try.ntmps28
    go_wp2_with fail
    refine (CC _ B0).out.mono ?_
    rintro e w1 ⟨rfl, hb1⟩
    have HB1 := hide hb1
    clear hb1 CC
    go_wp2_with fail
    go_returns
    exact out_none 170 HB1.out
  have h2' : ((n : Int) - 1 ≤ i) = False := eq_false h2
  by_cases h3 : 4611686018427387904 ≤ epochV l
  · have e1 : mergeE l i = 170 := by rw [HE.out, if_pos (.inr (.inr h3))]
    rw [e1, HD.out (by rw [e1]; decide)]
    clear HE HL HD e1
    generalize epochV l = ep at h3 CE
    go_enter Try.func28, Try.ntmps28
    go_wp2_with fail
    refine (CC _ B0).out.mono ?_
    rintro e w1 ⟨rfl, hb1⟩
    have HB1 := hide hb1
    clear hb1 CC
    go_wp2_with fail
    refine (CE _ HB1.out).out.mono ?_
    rintro e w2 ⟨rfl, hb2⟩
    have HB2 : Hid (Below w.heap.size w w2) := HB1.out.trans (hb2.mono HB1.out.size)
    clear hb2 CE HB1
    go_wp2_with fail
    go_returns
    exact out_none 170 HB2.out
  have e1 : mergeE l i = 0 := by rw [HE.out, if_neg (by rw [hlen]; omega)]
  have e2 := HL.out e1
  obtain ⟨k, rfl⟩ : ∃ k : Nat, i = (k : Int) := ⟨i.toNat, by omega⟩
  have hkn : k + 1 < n := by omega
  obtain ⟨x, hx⟩ : ∃ x, l[k]? = some x := ⟨_, List.getElem?_eq_getElem (by omega)⟩
  rw [Int.toNat_natCast, show l.getD k pc0 = x by rw [List.getD_eq_getElem?_getD, hx]; rfl] at e2
  have CT : ∀ W, Below w.heap.size w W → _ := fun W hb => touched_any (c := c) (H.out.below (w' := W) hb) hx (by omega)
  rw [e1, e2]
  clear e1 e2 HE HL HD hx
  generalize touch l x = t at CT ⊢
  have hep : epochV l < 4611686018427387904 := by omega
  generalize epochV l = ep at CE h3 hep
  obtain ⟨r, hr2⟩ : ∃ r, n = k + 1 + 1 + r := ⟨n - (k + 2), by omega⟩
  have HR := hide hr2
  have hn7 : n ≤ 256 := by omega
  have i2 : IntKind.i64.wrap ((k : Int) + 1) = (k : Int) + 1 := by rw [IntKind.wrap_i64]; omega
  have i3 : IntKind.i64.wrap ((k : Int) + 2) = (k : Int) + 2 := by rw [IntKind.wrap_i64]; omega
  clear hr2
  go_enter Try.func28, Try.ntmps28
  go_wp2_with fail
  refine (CC _ B0).out.mono ?_
  rintro e w1 ⟨rfl, hb1⟩
  have HB1 := hide hb1
  clear hb1 CC
  go_wp2_with fail
  refine (CE _ HB1.out).out.mono ?_
  rintro e w2 ⟨rfl, hb2⟩
  have HB2 : Hid (Below w.heap.size w w2) := HB1.out.trans (hb2.mono HB1.out.size)
  clear hb2 CE HB1
  have CT' := CT _ HB2.out
  clear CT
  go_wp2_with fail
  refine CT'.mono ?_
  rintro e w3 ⟨g, c3, rfl, hb3, ho3⟩
  have HB3 : Hid (Below w.heap.size w w3) := HB2.out.trans (hb3.mono HB2.out.size)
  have HO3 := hide ho3
  have HS3 : Hid (w.heap.size ≤ w2.heap.size) := HB2.out.size
  clear hb3 ho3 CT' HB2
  go_wp2_with fail
  have hc1 : (k : Int) + 1 = ((k + 1 : Nat) : Int) := by omega
  have hc2 : (k : Int) + 2 = ((k + 1 : Nat) : Int) + 1 := by omega
  rw [hc2, hc1]
  clear hc1 hc2
  have ho := HO3.out
  have hset : (l.set k t).length = k + 1 + 1 + r := by rw [List.length_set, hlen, HR.out]
  have ho' : w3.ownsRow w2.heap.size 39 3 (.slice (some ⟨g, 0, none⟩) (k + 1 + 1 + r) c3) (k + 1 + 1 + r) (fcells penc (l.set k t)) := by rw [← HR.out]; exact ho
  refine (delete_any ho' hset (by have := HR.out; omega) n HR.out).mono ?_
  rintro e w4 ⟨rfl, ho4, hg4⟩
  have HO4 := hide ho4
  have HG4 := hide hg4
  clear ho4 hg4 ho ho' hset
  go_wp2_with fail
  go_returns
  refine ⟨_, _, _, rfl, ?_, ?_, cp_row HO4.out⟩
  · rw [← merge_list l k (by omega) t]
    exact Rl.of_row pflat HO4.out (by have := HR.out; omega)
  · exact HB3.out.grown HG4.out HB3.out.size (fun q hq => by cases hq; have := (HO3.out.lt g rfl).1; have := HS3.out; omega)
end Go.Proofs.Ythfjndlmihepbaa
