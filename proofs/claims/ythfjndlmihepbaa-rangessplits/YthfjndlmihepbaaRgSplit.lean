/- The landed Split. Condition: the list can be read, and is no longer than its capacity. -/
import Derived.Test.YthfjndlmihepbaaRgTouch
import Derived.Test.YthfjndlmihepbaaFlatInsP
namespace Go.Proofs.Ythfjndlmihepbaa
open Go.ChangeShapes Go.WideShapes Go.ChangeAt Go.RowKit Rg
set_option linter.unusedVariables false

theorem split_list {α : Type} (l : List α) (k : Nat) (h : k < l.length) (p q : α) : l.take k ++ [p, q] ++ l.drop (k + 1) = (l.set k p).take (k + 1) ++ [q] ++ (l.set k p).drop (k + 1) := by
  have hk : (l.take k).length = k := by rw [List.length_take]; omega
  have hs : l.set k p = (l.take k ++ [p]) ++ l.drop (k + 1) := by rw [List.set_eq_take_append_cons_drop, if_pos h]; simp
  have hk1 : (l.take k ++ [p]).length = k + 1 := by simp; omega
  rw [hs, List.take_left' hk1, List.drop_left' hk1]
  simp
theorem find_lt {l : List Pc} (key : ByteArray) (h : 1 ≤ l.length) : findV l key < l.length := by
  unfold findV
  cases e : firstO (hasB l key) l.length with
  | none => exact h
  | some k => exact (first_some e).1
/-- what a call hands out: places, and an error -/
def Out (w : World) (L : List Pc) (E : Int) (e : Ending) (w' : World) : Prop := ∃ a' n' c', e = .returned (.tuple #[.slice a' n' c', .int .i64 E]) ∧ Ps w' a' n' L ∧ Below w.heap.size w w' ∧ Cp a' n' c'
theorem out_none {w w' : World} (E : Int) (hb : Below w.heap.size w w') : Out w [] E (.returned (.tuple #[.slice none 0 0, .int .i64 E])) w' := ⟨none, 0, 0, rfl, Rl.nil _, hb, cp_none⟩
theorem key_eq (x key : ByteArray) : (x.toList == key.toList) = decide (x = key) := by
  by_cases h : x = key
  · rw [h]; simp
  · rw [decide_eq_false h, beq_eq_false_iff_ne]; exact fun e => h (tl_inj e)
theorem check_is (l : List Pc) : (rightB l = true ∧ checkE l = 0) ∨ (rightB l = false ∧ checkE l = 21) := by
  unfold checkE
  cases rightB l
  · exact .inr ⟨rfl, rfl⟩
  · exact .inl ⟨rfl, rfl⟩
theorem cp_row {w : World} {B T d : Nat} {a : Option Addr} {n c : Nat} {xs : List Value} (h : w.ownsRow B T d (.slice a n c) n xs) : Cp a n c := by
  obtain ⟨_, ⟨e, e2⟩ | ⟨g, cp, cur, e, hB, hg, h5, _⟩⟩ := id h
  · obtain ⟨rfl, rfl, rfl⟩ : a = none ∧ n = 0 ∧ c = 0 := by simpa using e
    exact cp_none
  · obtain ⟨rfl, rfl⟩ : a = some ⟨g, 0, none⟩ ∧ c = cp := by simpa using e
    exact ⟨fun e => (by cases e), h5⟩
set_option maxRecDepth 100000 in
set_option maxHeartbeats 2000000 in
theorem split_any {w : World} {a : Option Addr} {n c : Nat} {l : List Pc} (h : Ps w a n l) (hcp : Cp a n c) (key : ByteArray) (g : Int) :
    Calls Try.prog 26 #[.slice a n c, .string key, .int .i64 g] w (Out w (splitL l key g) (splitE l key g)) := by
  have H := hide h
  have CC := fun W hb => hide (check_any (H.out.below (w' := W) hb) hcp)
  have CK := fun W => hide (key_any key W)
  have CG := fun W => hide (group_any g W)
  have CF := fun W hb => hide (find_any (c := c) (H.out.below (w' := W) hb) key)
  have CO := fun W hb => hide (of_any (c := c) (H.out.below (w' := W) hb) g)
  have CE := fun W hb => hide (epoch_any (c := c) (H.out.below (w' := W) hb))
  have B0 : Below w.heap.size w w := Below.refl _ _
  have hlen := h.len
  have hr := h.room
  clear h
  rcases check_is l with ⟨hR, e0⟩ | ⟨hR, e0⟩
  rotate_left
  · have e1 : splitE l key g = 21 := if_pos hR
    have e2 : splitL l key g = [] := if_neg (by rw [e1]; decide)
    rw [e0] at CC
    rw [e1, e2]
    clear CK CG CF CO CE
    go_enter Try.func26, Try.ntmps26
    go_wp2_with fail
    refine (CC _ B0).out.mono ?_
    rintro e w1 ⟨rfl, hb1⟩
    have HB1 := hide hb1
    clear hb1 CC
    go_wp2_with fail
    go_returns
    exact out_none 21 HB1.out
  rw [e0] at CC
  by_cases hA : keyB key = false ∨ grpB g = false
  · have e1 : splitE l key g = 1 := by unfold splitE; rw [if_neg (by rw [hR]; decide), if_pos hA]
    have e2 : splitL l key g = [] := if_neg (by rw [e1]; decide)
    rw [e1, e2]
    clear CF CO CE
    cases hk : keyB key
    · rw [hk] at CK
      clear hk hA
      go_enter Try.func26, Try.ntmps26
      go_wp2_with fail
      refine (CC _ B0).out.mono ?_
      rintro e w1 ⟨rfl, hb1⟩
      have HB1 := hide hb1
      clear hb1 CC
      go_wp2_with (go_at_call 35; refine (CK _).out.mono ?_; rintro e w' ⟨rfl, hw⟩; rw [hw]; clear hw)
      go_returns
      exact out_none 1 HB1.out
    · rw [hk] at CK hA
      have hg : grpB g = false := by rcases hA with h | h; cases h; exact h
      rw [hg] at CG
      clear hk hA hg
      go_enter Try.func26, Try.ntmps26
      go_wp2_with fail
      refine (CC _ B0).out.mono ?_
      rintro e w1 ⟨rfl, hb1⟩
      have HB1 := hide hb1
      clear hb1 CC
      go_wp2_with (first | (go_at_call 35; refine (CK _).out.mono ?_; rintro e w' ⟨rfl, hw⟩; rw [hw]; clear hw) | (go_at_call 36; refine (CG _).out.mono ?_; rintro e w' ⟨rfl, hw⟩; rw [hw]; clear hw))
      go_returns
      exact out_none 1 HB1.out
  have hk : keyB key = true := by cases e : keyB key; exact absurd (.inl e) hA; rfl
  have hg : grpB g = true := by cases e : grpB g; exact absurd (.inr e) hA; rfl
  rw [hk] at CK
  rw [hg] at CG
  clear hk hg
  obtain ⟨hl1, hl8, _, _⟩ := right_parts hR
  have hlt := find_lt key hl1
  obtain ⟨x, hx⟩ : ∃ x, l[findV l key]? = some x := ⟨_, List.getElem?_eq_getElem hlt⟩
  have hgd : l.getD (findV l key) pc0 = x := by rw [List.getD_eq_getElem?_getD, hx]; rfl
  have HE : Hid (splitE l key g = if ofB l g = true ∨ x.k = key then 171 else if 4611686018427387904 ≤ epochV l then 170 else 0) := by
    show _ = _
    unfold splitE
    rw [if_neg (by rw [hR]; decide), if_neg hA, hgd]
  have HL : Hid (splitE l key g = 0 → splitL l key g = l.take (findV l key) ++ [touch l x, ⟨g, key, epochV l + 1⟩] ++ l.drop (findV l key + 1)) := fun e => by
    unfold splitL
    rw [if_pos e, hgd]
  have HD : Hid (¬ splitE l key g = 0 → splitL l key g = []) := fun e => if_neg e
  have HX := hide hx
  have HXT : Hid (touch l x = ⟨x.g, x.k, epochV l + 1⟩) := rfl
  have CT : ∀ W, Below w.heap.size w W → epochV l < 4611686018427387904 → _ := fun W hb he => touched_any (c := c) (H.out.below (w' := W) hb) hx he
  have hnn := epoch_nn l
  generalize hat : findV l key = at_ at CF HL HX hlt CT
  clear hx hgd hat hA e0 hR
  go_enter Try.func26, Try.ntmps26
  go_wp2_with fail
  refine (CC _ B0).out.mono ?_
  rintro e w1 ⟨rfl, hb1⟩
  have HB1 := hide hb1
  clear hb1 CC B0
  go_wp2_with (first | (go_at_call 35; refine (CK _).out.mono ?_; rintro e w' ⟨rfl, hw⟩; rw [hw]; clear hw) | (go_at_call 36; refine (CG _).out.mono ?_; rintro e w' ⟨rfl, hw⟩; rw [hw]; clear hw))
  clear CK CG
  refine (CF _ HB1.out).out.mono ?_
  rintro e w2 ⟨rfl, hb2⟩
  have HB2 : Hid (Below w.heap.size w w2) := HB1.out.trans (hb2.mono HB1.out.size)
  clear hb2 CF HB1
  go_wp2_with fail
  refine (CO _ HB2.out).out.mono ?_
  rintro e w3 ⟨rfl, hb3⟩
  have HB3 : Hid (Below w.heap.size w w3) := HB2.out.trans (hb3.mono HB2.out.size)
  clear hb3 CO HB2
  obtain ⟨b, off, x', rfl, hx', hb', M⟩ := ps_at (H.out.below HB3.out) (show at_ < n by omega)
  obtain rfl : x' = x := by have := HX.out; rw [hx'] at this; exact Option.some.inj this
  obtain ⟨c0, c1, c2⟩ := M
  have i1 : (at_ : Int) < (n : Int) := by omega
  have qk := key_eq x'.k key
  clear hx' hb' c0 c2
  generalize hob : ofB l g = ob at HE ⊢
  clear hob
  cases ob
  rotate_left
  · have e1 : splitE l key g = 171 := by rw [HE.out, if_pos (.inl rfl)]
    have H1 := hide e1
    have H2 := hide (HD.out (by rw [e1]; decide))
    clear e1
    clear qk CE CT
    go_wp2_with fail
    go_returns
    rw [H1.out, H2.out]
    exact out_none 171 HB3.out
  by_cases hxk : x'.k = key
  · have e1 : splitE l key g = 171 := by rw [HE.out, if_pos (.inr hxk)]
    have H1 := hide e1
    have H2 := hide (HD.out (by rw [e1]; decide))
    clear e1
    rw [decide_eq_true hxk] at qk
    clear CE CT hxk
    go_wp2_with fail
    go_returns
    rw [H1.out, H2.out]
    exact out_none 171 HB3.out
  rw [decide_eq_false hxk] at qk
  rw [if_neg (by rintro (h | h); cases h; exact hxk h)] at HE
  clear hxk
  go_wp2_with fail
  refine (CE _ HB3.out).out.mono ?_
  rintro e w4 ⟨rfl, hb4⟩
  have HB4 : Hid (Below w.heap.size w w4) := HB3.out.trans (hb4.mono HB3.out.size)
  clear hb4 CE HB3 qk c1
  by_cases hep : 4611686018427387904 ≤ epochV l
  · have e1 : splitE l key g = 170 := by rw [HE.out, if_pos hep]
    have H1 := hide e1
    have H2 := hide (HD.out (by rw [e1]; decide))
    clear e1
    clear CT
    generalize epochV l = ep at hep
    go_wp2_with fail
    go_returns
    rw [H1.out, H2.out]
    exact out_none 170 HB4.out
  have e1 : splitE l key g = 0 := by rw [HE.out, if_neg hep]
  have e2 := HL.out e1
  rw [HXT.out] at e2
  have H1 := hide e1
  have H2 := hide e2
  have hep' : epochV l < 4611686018427387904 := by omega
  have CT' := CT _ HB4.out hep'
  clear e1 e2 HL HD HE CT
  rw [HXT.out] at CT'
  generalize epochV l = ep at hep hep' CT' hnn H2 ⊢
  clear HXT
  go_wp2_with fail
  refine CT'.mono ?_
  rintro e w5 ⟨gb, c5, rfl, hb5, ho5⟩
  have HB5 : Hid (Below w.heap.size w w5) := HB4.out.trans (hb5.mono HB4.out.size)
  have HO5 := hide ho5
  have HS5 : Hid (w.heap.size ≤ w4.heap.size) := HB4.out.size
  have hlen5 : (l.set at_ ⟨x'.g, x'.k, ep + 1⟩).length = n := by rw [List.length_set, hlen]
  obtain ⟨b5, off5, z5, eb, hz, _, M5⟩ := ps_at (Rl.of_row (by_ := 32) pflat ho5 (by omega)) (show at_ < n by omega)
  obtain ⟨rfl, rfl⟩ : gb = b5 ∧ 0 = off5 := by simpa using eb
  obtain rfl : (⟨x'.g, x'.k, ep + 1⟩ : Pc) = z5 := by rw [List.getElem?_set_self (by omega)] at hz; exact Option.some.inj hz
  rw [Nat.zero_add] at M5
  obtain ⟨y0, y1, y2⟩ := M5
  have i2 : IntKind.i64.wrap ((at_ : Int) + 1) = (at_ : Int) + 1 := by rw [IntKind.wrap_i64]; omega
  clear hb5 ho5 eb hz CT' y0 y1 HB4
  go_wp2_with fail
  have hcast : (at_ : Int) + 1 = ((at_ + 1 : Nat) : Int) := by omega
  rw [hcast]
  clear hcast
  refine (FnP.insert_any (x := ⟨g, key, ep + 1⟩) (HO5.out.alloc _) (Nat.le_trans (HO5.out.lt gb rfl).1 (Nat.le_of_lt (by have := (HO5.out.lt gb rfl).2; simp; omega))) (heap_alloc_new w5 _) (fun hk => by have := (HO5.out.lt _ hk).2; omega) (show at_ + 1 ≤ n by omega) (by omega)).mono ?_
  rintro e w6 ⟨a6, c6, rfl, ho6, hc6⟩
  have HO6 := hide ho6
  have HC6 := hide hc6
  clear ho6 hc6
  go_wp2_with fail
  go_returns
  rw [H1.out, H2.out]
  refine ⟨_, _, _, rfl, ?_, ?_, cp_row HO6.out⟩
  · have hl : l.take at_ ++ [⟨x'.g, x'.k, ep + 1⟩, ⟨g, key, ep + 1⟩] ++ l.drop (at_ + 1) = (l.set at_ ⟨x'.g, x'.k, ep + 1⟩).take (at_ + 1) ++ [⟨g, key, ep + 1⟩] ++ (l.set at_ ⟨x'.g, x'.k, ep + 1⟩).drop (at_ + 1) := by
      exact split_list l at_ hlt _ _
    rw [hl]
    exact Rl.of_row pflat HO6.out (by omega)
  · exact (HB5.out.alloc HB5.out.size _).trans (HC6.out.below (Nat.le_trans HB5.out.size (by simp)) (fun k hk => by have := (HO5.out.lt k hk).1; have := HS5.out; omega))
end Go.Proofs.Ythfjndlmihepbaa
