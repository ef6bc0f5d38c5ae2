/- The document's Split. Condition: the list can be read. -/
import Derived.Test.YthfjndlmihepbaaRgRefMerge
namespace Go.Proofs.Ythfjndlmihepbaa
open Go.ChangeShapes Go.WideShapes Go.ChangeAt Go.RowKit Rg
set_option linter.unusedVariables false

theorem pb_set {w : World} {b : Nat} {x : Pc} (h : Pb w b x) (e : Int) : Pb (w.setCell ⟨b, 2, none⟩ (.int .i64 e)) b ⟨x.g, x.k, e⟩ := ⟨by
  have h1 := h.row
  simp [World.setCell, Array.getElem?_modify, h1]⟩
def spart (l : List Pc) (q : Nat) (t u : Pc) (k : Nat) : List Pc := if k ≤ q then l.take k else l.take q ++ [t, u] ++ (l.take k).drop (q + 1)
theorem spart_low {l : List Pc} {q k : Nat} {t u x : Pc} (hx : l[k]? = some x) (h : k < q) : spart l q t u (k + 1) = spart l q t u k ++ [x] := by
  unfold spart
  rw [if_pos (by omega), if_pos (by omega), take_next hx]
theorem spart_at {l : List Pc} {q : Nat} {t u : Pc} : spart l q t u (q + 1) = spart l q t u q ++ [t] ++ [u] := by
  unfold spart
  rw [if_neg (by omega), if_pos (by omega), drop_take_none (by omega), List.append_nil, List.append_assoc _ [t] [u]]
  rfl
theorem spart_high {l : List Pc} {q k : Nat} {t u x : Pc} (hx : l[k]? = some x) (h : q < k) : spart l q t u (k + 1) = spart l q t u k ++ [x] := by
  unfold spart
  rw [if_neg (by omega), if_neg (by omega), drop_take_next hx (by omega), List.append_assoc _ _ [x]]
theorem spart_end {l : List Pc} {q n : Nat} {t u : Pc} (hn : l.length = n) (h : q < n) : spart l q t u n = l.take q ++ [t, u] ++ l.drop (q + 1) := by
  unfold spart
  rw [if_neg (by omega), List.take_of_length_le (l := l) (i := n) (by omega)]
set_option maxRecDepth 100000 in
set_option maxHeartbeats 4000000 in
theorem rsplit_any {w : World} {a : Option Addr} {n c : Nat} {l : List Pc} (h : Ps w a n l) (key : ByteArray) (g : Int) :
    Calls Try.prog 27 #[.slice a n c, .string key, .int .i64 g] w (Out w (splitL l key g) (splitE l key g)) := by
  have H := hide h
  have CC := fun W hb => hide (rright_any (c := c) (H.out.below (w' := W) hb))
  have CF := fun W hb => hide (rfind_any (c := c) (H.out.below (w' := W) hb) key)
  have CO := fun W hb => hide (rof_any (c := c) (H.out.below (w' := W) hb) g)
  have CE := fun W hb => hide (repoch_any (c := c) (H.out.below (w' := W) hb))
  have B0 : Below w.heap.size w w := Below.refl _ _
  have hlen := h.len
  have hr := h.room
  clear h
  cases hR : rightB l
  · have e1 : splitE l key g = 21 := if_pos hR
    have e2 : splitL l key g = [] := if_neg (by rw [e1]; decide)
    rw [hR] at CC
    rw [e1, e2]
    clear CF CO CE hR e1 e2
    go_enter Try.func27, Try.ntmps27
    go_wp2_with fail
    refine (CC _ B0).out.mono ?_
    rintro e w1 ⟨rfl, hb1⟩
    have HB1 := hide hb1
    clear hb1 CC
    go_wp2_with fail
    go_returns
    exact out_none 21 HB1.out
  rw [hR] at CC
  by_cases hA : keyB key = false ∨ grpB g = false
  · have e1 : splitE l key g = 1 := by unfold splitE; rw [if_neg (by rw [hR]; decide), if_pos hA]
    have e2 : splitL l key g = [] := if_neg (by rw [e1]; decide)
    rw [e1, e2]
    clear CF CO CE hR e1 e2
    unfold keyB grpB at hA
    simp only [Bool.and_eq_false_iff, decide_eq_false_iff_not] at hA
    by_cases k1 : key.size < 1
    · have k1' : ((key.size : Int) < 1) = True := eq_true (by omega)
      clear hA
      go_enter Try.func27, Try.ntmps27
      go_wp2_with fail
      refine (CC _ B0).out.mono ?_
      rintro e w1 ⟨rfl, hb1⟩
      have HB1 := hide hb1
      clear hb1 CC
      go_wp2_with fail
      go_returns
      exact out_none 1 HB1.out
    have k1' : ((key.size : Int) < 1) = False := eq_false (by omega)
    by_cases k2 : 16 < key.size
    · have k2' : ((16 : Int) < (key.size : Int)) = True := eq_true (by omega)
      clear hA k1 k2
      go_enter Try.func27, Try.ntmps27
      go_wp2_with fail
      refine (CC _ B0).out.mono ?_
      rintro e w1 ⟨rfl, hb1⟩
      have HB1 := hide hb1
      clear hb1 CC
      go_wp2_with fail
      go_returns
      exact out_none 1 HB1.out
    have k2' : ((16 : Int) < (key.size : Int)) = False := eq_false (by omega)
    by_cases k3 : g < 1
    · clear hA k1 k2
      go_enter Try.func27, Try.ntmps27
      go_wp2_with fail
      refine (CC _ B0).out.mono ?_
      rintro e w1 ⟨rfl, hb1⟩
      have HB1 := hide hb1
      clear hb1 CC
      go_wp2_with fail
      go_returns
      exact out_none 1 HB1.out
    have k4 : 8 ≤ g := by omega
    have k3' : (g < 1) = False := eq_false k3
    clear hA k1 k2 k3
    go_enter Try.func27, Try.ntmps27
    go_wp2_with fail
    refine (CC _ B0).out.mono ?_
    rintro e w1 ⟨rfl, hb1⟩
    have HB1 := hide hb1
    clear hb1 CC
    go_wp2_with fail
    go_returns
    exact out_none 1 HB1.out
  have hk : keyB key = true := by cases e : keyB key; exact absurd (.inl e) hA; rfl
  have hg : grpB g = true := by cases e : grpB g; exact absurd (.inr e) hA; rfl
  unfold keyB at hk
  unfold grpB at hg
  simp only [Bool.and_eq_true, decide_eq_true_eq] at hk hg
  have k1' : ((key.size : Int) < 1) = False := eq_false (by omega)
  have k2' : ((16 : Int) < (key.size : Int)) = False := eq_false (by omega)
  have k3' : (g < 1) = False := eq_false (by omega)
  have k4' : (8 ≤ g) = False := eq_false (by omega)
  clear hk hg
  have hel := epoch_le hR
  obtain ⟨hl1, hl8, _, _⟩ := right_parts hR
  have hlt := find_lt key hl1
  obtain ⟨x, hx⟩ : ∃ x, l[findV l key]? = some x := ⟨_, List.getElem?_eq_getElem hlt⟩
  have hgd : l.getD (findV l key) pc0 = x := by rw [List.getD_eq_getElem?_getD, hx]; rfl
  have HE : Hid (splitE l key g = if ofB l g = true ∨ x.k = key then 171 else if 4611686018427387904 ≤ epochV l then 170 else 0) := by
    show _ = _
    unfold splitE
    rw [if_neg (by rw [hR]; decide), if_neg hA, hgd]
  have HL : Hid (splitE l key g = 0 → splitL l key g = l.take (findV l key) ++ [touch l x, ⟨g, key, epochV l + 1⟩] ++ l.drop (findV l key + 1)) := fun e => by
    unfold splitL
    rw [if_pos e, hgd]
  have HD : Hid (¬ splitE l key g = 0 → splitL l key g = []) := fun e => if_neg e
  have HX := hide hx
  have HXT : Hid (touch l x = ⟨x.g, x.k, epochV l + 1⟩) := rfl
  have hnn := epoch_nn l
  generalize hat : findV l key = q at CF HL HX hlt
  clear hx hgd hat hA hR
  go_enter Try.func27, Try.ntmps27
  go_wp2_with fail
  refine (CC _ B0).out.mono ?_
  rintro e w1 ⟨rfl, hb1⟩
  have HB1 := hide hb1
  clear hb1 CC B0
  go_wp2_with fail
  refine (CO _ HB1.out).out.mono ?_
  rintro e w3 ⟨rfl, hb3⟩
  have HB3 : Hid (Below w.heap.size w w3) := HB1.out.trans (hb3.mono HB1.out.size)
  clear hb3 CO HB1 k1' k2' k3' k4'
  generalize hob : ofB l g = ob at HE ⊢
  clear hob
  generalize ofN l g = on
  cases ob
  rotate_left
  · have e1 : splitE l key g = 171 := by rw [HE.out, if_pos (.inl rfl)]
    have H1 := hide e1
    have H2 := hide (HD.out (by rw [e1]; decide))
    clear e1
    clear CE CF
    go_wp2_with fail
    go_returns
    rw [H1.out, H2.out]
    exact out_none 171 HB3.out
  go_wp2_with fail
  refine (CF _ HB3.out).out.mono ?_
  rintro e w2 ⟨rfl, hb2⟩
  have HB2 : Hid (Below w.heap.size w w2) := HB3.out.trans (hb2.mono HB3.out.size)
  clear hb2 HB3
  obtain ⟨b, off, x', rfl, hx', hb', M⟩ := ps_at (H.out.below HB2.out) (show q < n by omega)
  obtain rfl : x' = x := by have := HX.out; rw [hx'] at this; exact Option.some.inj this
  obtain ⟨c0, c1, c2⟩ := M
  have i1 : (q : Int) < (n : Int) := by omega
  have qk := key_eq x'.k key
  clear hx' hb' c0 c2
  by_cases hxk : x'.k = key
  · have e1 : splitE l key g = 171 := by rw [HE.out, if_pos (.inr hxk)]
    have H1 := hide e1
    have H2 := hide (HD.out (by rw [e1]; decide))
    clear e1
    rw [decide_eq_true hxk] at qk
    clear CE CF hxk
    go_wp2_with fail
    go_returns
    rw [H1.out, H2.out]
    exact out_none 171 HB2.out
  rw [decide_eq_false hxk] at qk
  rw [if_neg (by rintro (h | h); cases h; exact hxk h)] at HE
  clear hxk
  go_wp2_with fail
  refine (CE _ HB2.out).out.mono ?_
  rintro e w4 ⟨rfl, hb4⟩
  have HB4 : Hid (Below w.heap.size w w4) := HB2.out.trans (hb4.mono HB2.out.size)
  clear hb4 CE HB2 qk c1
  by_cases hep : 4611686018427387904 ≤ epochV l
  · have e1 : splitE l key g = 170 := by rw [HE.out, if_pos hep]
    have e3 : epochV l = 4611686018427387904 := by omega
    have H1 := hide e1
    have H2 := hide (HD.out (by rw [e1]; decide))
    clear e1 CF
    rw [e3]
    clear e3 hep hnn hel
    go_wp2_with fail
    go_returns
    rw [H1.out, H2.out]
    exact out_none 170 HB4.out
  have e1 : splitE l key g = 0 := by rw [HE.out, if_neg hep]
  have e2 := HL.out e1
  have H1 := hide e1
  clear e1 HL HD HE
  generalize touch l x' = t at e2 HXT
  have hne : ¬ epochV l = 4611686018427387904 := by omega
  generalize epochV l = ep at e2 HXT hne hnn hel hep ⊢
  have H2 := hide e2
  have hep : ep < 4611686018427387904 := by omega
  have hne' : (ep == 4611686018427387904) = false := beq_eq_false_iff_ne.2 hne
  have i3 : IntKind.i64.wrap (ep + 1) = ep + 1 := by rw [IntKind.wrap_i64]; omega
  clear e2 hel
  go_wp2_with fail
  go_loopw [11, 12] (fun ov iv wr => ∃ (k : Nat) (a1 : Option Addr) (m1 c1 : Nat), k ≤ n ∧ iv = .int .i64 k ∧ ov = .slice a1 m1 c1 ∧ Hid (m1 ≤ 2 * k) ∧ Hid (Gw w wr a1 m1 c1 (spart l q t ⟨g, key, ep + 1⟩ k))) (fun _ iv _ => n - (intOf iv).toNat)
  case atStart => exact ⟨0, none, 0, 0, Nat.zero_le _, rfl, rfl, Nat.zero_le _, Gw.nil HB4.out⟩
  case round =>
    obtain ⟨k, a1, m1, c1, hk, rfl, rfl, HM, HG⟩ := hrel
    by_cases hlt : k < n
    · obtain ⟨b', off', x, eb, hx, hb, M⟩ := ps_at (H.out.below HG.out.bl) hlt
      obtain ⟨rfl, rfl⟩ : b = b' ∧ off = off' := by simpa using eb
      obtain ⟨c0, d1, d2⟩ := M
      have HX2 := hide hx
      have i1 : (k : Int) < (n : Int) := by omega
      have hm1 : m1 ≤ 2 * k := HM.out
      clear hx hb eb
      have HG1 := hide (HG.out.alloc (.cells #[.int .i64 x.g, .string x.k, .int .i64 x.ep] 39))
      have PN := hide (pb_new wr x)
      rcases Nat.lt_trichotomy k q with hkq | hkq | hkq
      · have f1 : (k = q) = False := eq_false (by omega)
        have f1b : ((k : Int) == (q : Int)) = false := beq_eq_false_iff_ne.2 (by omega)
        have f1d : (k == q) = false := beq_eq_false_iff_ne.2 (by omega)
        have HK := hide hkq
        clear hkq
        go_wp2_with fail
        refine (CF _ HG1.out.bl).out.mono ?_
        rintro e w7 ⟨rfl, hb7⟩
        have HGa := hide (HG1.out.below hb7)
        have P7 := hide (PN.out.below hb7)
        clear hb7
        have x0' := P7.out.at_.c0
        have x1' := P7.out.at_.c1
        have x2' := P7.out.at_.c2
        obtain ⟨g8, c8, w8, hr8, hG8⟩ := HGa.out.add (by omega) x 22
        rw [← spart_low HX2.out HK.out] at hG8
        have HG8 := hide hG8
        clear hG8
        go_wp2_with (at_builtin; refine wp_append_run _ rfl _ _ 22 rfl _ _ hr8 ?_)
        refine (CF _ HG8.out.bl).out.mono ?_
        rintro e w9 ⟨rfl, hb9⟩
        have HG9 := hide (HG8.out.below hb9)
        clear hb9 x0' x1' x2'
        go_wp2_with fail
        go_roundw
        case rel => exact ⟨k + 1, _, _, _, by omega, by go_num, rfl, by show _ ≤ _; omega, HG9⟩
        case measure => simp [intOf]; omega
      · subst hkq
        obtain rfl : x = x' := by have := HX2.out; rw [HX.out] at this; exact (Option.some.inj this).symm
        go_wp2_with fail
        refine (CF _ HG1.out.bl).out.mono ?_
        rintro e w7 ⟨rfl, hb7⟩
        have P7 := hide (PN.out.below hb7)
        have hb0 : Below wr.heap.size wr (wr.alloc (.cells #[.int .i64 x.g, .string x.k, .int .i64 x.ep] 39)) := below_alloc (Below.refl _ _) _
        have HBW : Hid (Below wr.heap.size wr w7) := hb0.trans (hb7.mono hb0.size)
        clear hb7 hb0
        have fz := P7.out.fz 2
        have P8 := hide (pb_set P7.out (ep + 1))
        have HGb : Hid (Gw w (w7.setCell ⟨wr.heap.size, 2, none⟩ (.int .i64 (ep + 1))) a1 m1 c1 (spart l k t ⟨g, key, ep + 1⟩ k)) := by
          exact Gw.below HG.out (HBW.out.setCell (p := ⟨wr.heap.size, 2, none⟩) (Nat.le_refl _) _)
        have x0' := P8.out.at_.c0
        have x1' := P8.out.at_.c1
        have x2' := P8.out.at_.c2
        have y0' := P7.out.at_.c0
        have y1' := P7.out.at_.c1
        have y2' := P7.out.at_.c2
        obtain ⟨g8, c8, w8, hr8, hG8⟩ := HGb.out.add (by omega) ⟨x.g, x.k, ep + 1⟩ 22
        rw [show (w7.setCell ⟨wr.heap.size, 2, none⟩ (.int .i64 (ep + 1))).heap.size = w7.heap.size by simp] at hr8
        have HG8 := hide hG8
        clear hG8
        go_wp2_with (at_builtin; refine wp_append_run _ rfl _ _ 22 rfl _ _ hr8 ?_)
        refine (CF _ HG8.out.bl).out.mono ?_
        rintro e w9 ⟨rfl, hb9⟩
        obtain ⟨g10, c10, w10, hr10, hG10⟩ := (HG8.out.below hb9).add (by omega) ⟨g, key, ep + 1⟩ 22
        rw [← HXT.out, ← spart_at] at hG10
        have HG10 := hide hG10
        clear hb9 hG10 x0' x1' x2' y0' y1' y2' fz
        go_wp2_with (at_builtin; refine wp_append_run _ rfl _ _ 22 rfl _ _ hr10 ?_)
        go_roundw
        case rel => exact ⟨k + 1, _, _, _, by omega, by go_num, rfl, by show _ ≤ _; omega, HG10⟩
        case measure => simp [intOf]; omega
      · have f1 : (k = q) = False := eq_false (by omega)
        have f1b : ((k : Int) == (q : Int)) = false := beq_eq_false_iff_ne.2 (by omega)
        have f1d : (k == q) = false := beq_eq_false_iff_ne.2 (by omega)
        have HK := hide hkq
        clear hkq
        go_wp2_with fail
        refine (CF _ HG1.out.bl).out.mono ?_
        rintro e w7 ⟨rfl, hb7⟩
        have HGa := hide (HG1.out.below hb7)
        have P7 := hide (PN.out.below hb7)
        clear hb7
        have x0' := P7.out.at_.c0
        have x1' := P7.out.at_.c1
        have x2' := P7.out.at_.c2
        obtain ⟨g8, c8, w8, hr8, hG8⟩ := HGa.out.add (by omega) x 22
        rw [← spart_high HX2.out HK.out] at hG8
        have HG8 := hide hG8
        clear hG8
        go_wp2_with (at_builtin; refine wp_append_run _ rfl _ _ 22 rfl _ _ hr8 ?_)
        refine (CF _ HG8.out.bl).out.mono ?_
        rintro e w9 ⟨rfl, hb9⟩
        have HG9 := hide (HG8.out.below hb9)
        clear hb9 x0' x1' x2'
        go_wp2_with fail
        go_roundw
        case rel => exact ⟨k + 1, _, _, _, by omega, by go_num, rfl, by show _ ≤ _; omega, HG9⟩
        case measure => simp [intOf]; omega
    · obtain rfl : k = n := by omega
      have HSE := hide (spart_end (t := t) (u := ⟨g, key, ep + 1⟩) hlen (show q < k by omega))
      go_wp2_with fail
      go_returns
      rw [H1.out, H2.out, ← HSE.out]
      exact HG.out.out (by have := HM.out; omega)
end Go.Proofs.Ythfjndlmihepbaa
