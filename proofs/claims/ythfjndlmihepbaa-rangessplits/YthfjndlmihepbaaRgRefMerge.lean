/- The document's Merge. Condition: the list can be read. -/
import Derived.Test.YthfjndlmihepbaaRgRef
import Derived.Test.YthfjndlmihepbaaRgLaw
import Derived.Test.YthfjndlmihepbaaFlatAddP
import Derived.Deep.Cut
namespace Go.Proofs.Ythfjndlmihepbaa
open Go.ChangeShapes Go.WideShapes Go.ChangeAt Go.RowKit Rg
set_option linter.unusedVariables false

theorem epoch_le {l : List Pc} (h : rightB l = true) : epochV l ≤ 4611686018427387904 := by
  have aux : ∀ (l : List Pc) (m : Int), m ≤ 4611686018427387904 → (∀ p ∈ l, p.ep ≤ 4611686018427387904) → l.foldl (fun m p => maxI m p.ep) m ≤ 4611686018427387904 := by
    intro l
    induction l with
    | nil => intro m hm _; exact hm
    | cons p r ih =>
      intro m hm hp
      have h1 := hp p (by simp)
      exact ih _ (by show maxI m p.ep ≤ _; unfold maxI; split <;> omega) (fun q hq => hp q (by simp [hq]))
  refine aux l 0 (by omega) (fun p hp => ?_)
  obtain ⟨k, hk⟩ := List.getElem?_of_mem hp
  have := (right_at h hk).1
  unfold mayB at this
  simp only [Bool.and_eq_true, decide_eq_true_eq] at this
  exact this.2
theorem take_next {l : List Pc} {k : Nat} {x : Pc} (hx : l[k]? = some x) : l.take (k + 1) = l.take k ++ [x] := by rw [List.take_add_one, hx]; rfl
theorem drop_take_next {l : List Pc} {k j : Nat} {x : Pc} (hx : l[k]? = some x) (hj : j ≤ k) : (l.take (k + 1)).drop j = (l.take k).drop j ++ [x] := by
  rw [take_next hx, List.drop_append_of_le_length (by rw [List.length_take]; have := (List.getElem?_eq_some_iff.1 hx).1; omega)]
theorem drop_take_none {l : List Pc} {k j : Nat} (hj : k ≤ j) : (l.take k).drop j = [] := List.drop_of_length_le (by rw [List.length_take]; omega)
/-- a list of the call's own under way -/
structure Gw (w wr : World) (a : Option Addr) (m c : Nat) (L : List Pc) : Prop where
  bl : Below w.heap.size w wr
  row : wr.ownsRow w.heap.size 39 3 (.slice a m c) m (fcells penc L)
theorem Gw.nil {w wr : World} (h : Below w.heap.size w wr) : Gw w wr none 0 0 [] := ⟨h, World.ownsRow_nil _ _ _ _⟩
theorem Gw.below {w wr wr' : World} {a : Option Addr} {m c : Nat} {L : List Pc} (h : Gw w wr a m c L) (hb : Below wr.heap.size wr wr') : Gw w wr' a m c L := ⟨h.bl.trans (hb.mono h.bl.size), row_keeps h.row hb⟩
theorem Gw.alloc {w wr : World} {a : Option Addr} {m c : Nat} {L : List Pc} (h : Gw w wr a m c L) (o : Obj) : Gw w (wr.alloc o) a m c L := h.below (below_alloc (Below.refl _ _) _)
theorem Gw.add {w wr : World} {a : Option Addr} {m c : Nat} {L : List Pc} (h : Gw w wr a m c L) (hm : m ≤ 64) (x : Pc) (ty : TypeId) :
    ∃ g cp w', (Builtin.append_ #[22, 22] ty #[.slice a m c, .slice (some ⟨wr.heap.size, 0, none⟩) 1 1]).run Try.prog (wr.alloc (.cells #[.int .i64 x.g, .string x.k, .int .i64 x.ep] 39)) = .ok (.slice (some ⟨g, 0, none⟩) (m + 1) cp) w' ∧ Gw w w' (some ⟨g, 0, none⟩) (m + 1) cp (L ++ [x]) := by
  obtain ⟨g, cp, w', hr, ho, hc, hb⟩ := FnP.add_any h.row (by omega) h.bl.size x ty
  exact ⟨g, cp, w', hr, ⟨h.bl.trans hb, ho⟩⟩
theorem Gw.out {w wr : World} {a : Option Addr} {m c : Nat} {L : List Pc} (h : Gw w wr a m c L) (hm : m ≤ 64) : Out w L 0 (.returned (.tuple #[.slice a m c, .int .i64 0])) wr := ⟨a, m, c, rfl, Rl.of_row pflat h.row (by omega), h.bl, cp_row h.row⟩
theorem Gw.len {w wr : World} {a : Option Addr} {m c : Nat} {L : List Pc} (h : Gw w wr a m c L) : L.length = m := by
  have := h.row.1
  rw [fcells_length pflat] at this
  omega
def mpart (l : List Pc) (i : Nat) (t : Pc) (k : Nat) : List Pc := if k ≤ i then l.take k else l.take i ++ [t] ++ (l.take k).drop (i + 2)
theorem mpart_low {l : List Pc} {i k : Nat} {t x : Pc} (hx : l[k]? = some x) (h : k < i) : mpart l i t (k + 1) = mpart l i t k ++ [x] := by
  unfold mpart
  rw [if_pos (by omega), if_pos (by omega), take_next hx]
theorem mpart_at {l : List Pc} {i : Nat} {t : Pc} : mpart l i t (i + 1) = mpart l i t i ++ [t] := by
  unfold mpart
  rw [if_neg (by omega), if_pos (by omega), drop_take_none (by omega), List.append_nil]
theorem mpart_next {l : List Pc} {i : Nat} {t : Pc} : mpart l i t (i + 1 + 1) = mpart l i t (i + 1) := by
  unfold mpart
  rw [if_neg (by omega), if_neg (by omega), drop_take_none (by omega), drop_take_none (by omega)]
theorem mpart_high {l : List Pc} {i k : Nat} {t x : Pc} (hx : l[k]? = some x) (h : i + 1 < k) : mpart l i t (k + 1) = mpart l i t k ++ [x] := by
  unfold mpart
  rw [if_neg (by omega), if_neg (by omega), drop_take_next hx (by omega), List.append_assoc _ _ [x]]
theorem mpart_end {l : List Pc} {i n : Nat} {t : Pc} (hn : l.length = n) (h : i < n) : mpart l i t n = l.take i ++ [t] ++ l.drop (i + 2) := by
  unfold mpart
  rw [if_neg (by omega), List.take_of_length_le (l := l) (i := n) (by omega)]
set_option maxRecDepth 100000 in
set_option maxHeartbeats 4000000 in
theorem rmerge_any {w : World} {a : Option Addr} {n c : Nat} {l : List Pc} (h : Ps w a n l) (i : Int) (hi : I64 i) :
    Calls Try.prog 29 #[.slice a n c, .int .i64 i] w (Out w (mergeL l i) (mergeE l i)) := by
  have H := hide h
  have CC := fun W hb => hide (rright_any (c := c) (H.out.below (w' := W) hb))
  have CE := fun W hb => hide (repoch_any (c := c) (H.out.below (w' := W) hb))
  have B0 : Below w.heap.size w w := Below.refl _ _
  have hlen := h.len
  have hr := h.room
  unfold I64 at hi
  clear h
  cases hR : rightB l
  · have e1 : mergeE l i = 21 := if_pos hR
    have e2 : mergeL l i = [] := if_neg (by rw [e1]; decide)
    rw [hR] at CC
    rw [e1, e2]
    clear CE hR e1 e2
    go_enter Try.func29, Try.ntmps29
    go_wp2_with fail
    refine (CC _ B0).out.mono ?_
    rintro e w1 ⟨rfl, hb1⟩
    have HB1 := hide hb1
    clear hb1 CC
    go_wp2_with fail
    go_returns
    exact out_none 21 HB1.out
  rw [hR] at CC
  have HE : Hid (mergeE l i = if i < 0 ∨ (l.length : Int) - 1 ≤ i ∨ 4611686018427387904 ≤ epochV l then 170 else 0) := by
    show _ = _
    unfold mergeE
    rw [if_neg (by rw [hR]; decide)]
  have HL : Hid (mergeE l i = 0 → mergeL l i = l.take i.toNat ++ [touch l (l.getD i.toNat pc0)] ++ l.drop (i.toNat + 2)) := fun e => if_pos e
  have HD : Hid (¬ mergeE l i = 0 → mergeL l i = []) := fun e => if_neg e
  have hel := epoch_le hR
  obtain ⟨hl1, hl8, _, _⟩ := right_parts hR
  clear hR
  have j0 : IntKind.i64.wrap ((n : Int) - 1) = (n : Int) - 1 := by rw [IntKind.wrap_i64]; omega
  by_cases h1 : i < 0
  · have e1 : mergeE l i = 170 := by rw [HE.out, if_pos (.inl h1)]
    rw [e1, HD.out (by rw [e1]; decide)]
    clear HE HL HD e1
    generalize epochV l = ep at CE hel
    go_enter Try.func29, Try.ntmps29
    go_wp2_with fail
    refine (CC _ B0).out.mono ?_
    rintro e w1 ⟨rfl, hb1⟩
    have HB1 := hide hb1
    clear hb1 CC
    go_wp2_with fail
    refine (CE _ HB1.out).out.mono ?_
    rintro e w2 ⟨rfl, hb2⟩
    have HB2 : Hid (Below w.heap.size w w2) := HB1.out.trans (hb2.mono HB1.out.size)
    clear hb2 CE HB1
    go_wp2_with fail
    go_returns
    exact out_none 170 HB2.out
  by_cases h2 : (n : Int) - 1 ≤ i
  · have e1 : mergeE l i = 170 := by rw [HE.out, if_pos (.inr (.inl (by rw [hlen]; exact h2)))]
    rw [e1, HD.out (by rw [e1]; decide)]
    clear HE HL HD e1
    generalize epochV l = ep at CE hel
    go_enter Try.func29, Try.ntmps29
    go_wp2_with fail
    refine (CC _ B0).out.mono ?_
    rintro e w1 ⟨rfl, hb1⟩
    have HB1 := hide hb1
    clear hb1 CC
    go_wp2_with fail
    refine (CE _ HB1.out).out.mono ?_
    rintro e w2 ⟨rfl, hb2⟩
    have HB2 : Hid (Below w.heap.size w w2) := HB1.out.trans (hb2.mono HB1.out.size)
    clear hb2 CE HB1
    go_wp2_with fail
    go_returns
    exact out_none 170 HB2.out
  have h2' : ((n : Int) - 1 ≤ i) = False := eq_false h2
  by_cases h3 : 4611686018427387904 ≤ epochV l
  · have e1 : mergeE l i = 170 := by rw [HE.out, if_pos (.inr (.inr h3))]
    have e3 : epochV l = 4611686018427387904 := by omega
    rw [e1, HD.out (by rw [e1]; decide)]
    rw [e3] at CE
    clear HE HL HD e1 e3 h3 hel
    go_enter Try.func29, Try.ntmps29
    go_wp2_with fail
    refine (CC _ B0).out.mono ?_
    rintro e w1 ⟨rfl, hb1⟩
    have HB1 := hide hb1
    clear hb1 CC
    go_wp2_with fail
    refine (CE _ HB1.out).out.mono ?_
    rintro e w2 ⟨rfl, hb2⟩
    have HB2 : Hid (Below w.heap.size w w2) := HB1.out.trans (hb2.mono HB1.out.size)
    clear hb2 CE HB1
    go_wp2_with fail
    go_returns
    exact out_none 170 HB2.out
  have e1 : mergeE l i = 0 := by rw [HE.out, if_neg (by rw [hlen]; omega)]
  have e2 := HL.out e1
  obtain ⟨q, rfl⟩ : ∃ q : Nat, i = (q : Int) := ⟨i.toNat, by omega⟩
  have hqn : q + 1 < n := by omega
  obtain ⟨x0, hx0⟩ : ∃ x, l[q]? = some x := ⟨_, List.getElem?_eq_getElem (by omega)⟩
  rw [Int.toNat_natCast, show l.getD q pc0 = x0 by rw [List.getD_eq_getElem?_getD, hx0]; rfl] at e2
  have HX0 := hide hx0
  rw [e1, e2]
  clear e1 e2 HE HL HD hx0
  have hnn := epoch_nn l
  have hT : touch l x0 = ⟨x0.g, x0.k, epochV l + 1⟩ := rfl
  have HT : Hid (∃ t, t = touch l x0 ∧ t.g = x0.g ∧ t.k = x0.k ∧ t.ep = epochV l + 1) := ⟨_, rfl, rfl, rfl, rfl⟩
  generalize touch l x0 = t at hT HT ⊢
  have hne : ¬ epochV l = 4611686018427387904 := by omega
  generalize epochV l = ep at CE hne hnn hT hel
  have hep : ep < 4611686018427387904 := by omega
  have hne' : (ep == 4611686018427387904) = false := beq_eq_false_iff_ne.2 hne
  have h1' : ((q : Int) < 0) = False := eq_false (by omega)
  have HT2 := hide hT
  clear hT HT hel h3
  obtain ⟨J, hJ⟩ : ∃ J : Int, J = (q : Int) + 1 := ⟨_, rfl⟩
  have i2 : IntKind.i64.wrap ((q : Int) + 1) = J := by rw [IntKind.wrap_i64]; omega
  have i3 : IntKind.i64.wrap (ep + 1) = ep + 1 := by rw [IntKind.wrap_i64]; omega
  have HJ := hide hJ
  clear hJ
  go_enter Try.func29, Try.ntmps29
  go_wp2_with fail
  refine (CC _ B0).out.mono ?_
  rintro e w1 ⟨rfl, hb1⟩
  have HB1 := hide hb1
  clear hb1 CC B0
  go_wp2_with fail
  refine (CE _ HB1.out).out.mono ?_
  rintro e w2 ⟨rfl, hb2⟩
  have HB2 : Hid (Below w.heap.size w w2) := HB1.out.trans (hb2.mono HB1.out.size)
  clear hb2 CE HB1
  go_wp2_with fail
  go_loopw [7, 8] (fun ov iv wr => ∃ (k : Nat) (a1 : Option Addr) (m1 c1 : Nat), k ≤ n ∧ iv = .int .i64 k ∧ ov = .slice a1 m1 c1 ∧ Hid (m1 ≤ k) ∧ Hid (Gw w wr a1 m1 c1 (mpart l q t k))) (fun _ iv _ => n - (intOf iv).toNat)
  case atStart => exact ⟨0, none, 0, 0, Nat.zero_le _, rfl, rfl, Nat.le_refl _, Gw.nil HB2.out⟩
  case round =>
    obtain ⟨k, a1, m1, c1, hk, rfl, rfl, HM, HG⟩ := hrel
    by_cases hlt : k < n
    · obtain ⟨b, off, x, rfl, hx, hb, M⟩ := ps_at (H.out.below HG.out.bl) hlt
      obtain ⟨c0, d1, d2⟩ := M
      have HX := hide hx
      have i1 : (k : Int) < (n : Int) := by omega
      have hm1 : m1 ≤ k := HM.out
      clear hx hb
      have x0' : (wr.alloc (.cells #[.int .i64 x.g, .string x.k, .int .i64 x.ep] 39)).cell? ⟨wr.heap.size, 0, none⟩ = some (.int .i64 x.g) := (pb_new wr x).at_.c0
      have x1' : (wr.alloc (.cells #[.int .i64 x.g, .string x.k, .int .i64 x.ep] 39)).cell? ⟨wr.heap.size, 1, none⟩ = some (.string x.k) := (pb_new wr x).at_.c1
      have x2' : (wr.alloc (.cells #[.int .i64 x.g, .string x.k, .int .i64 x.ep] 39)).cell? ⟨wr.heap.size, 2, none⟩ = some (.int .i64 x.ep) := (pb_new wr x).at_.c2
      have es : (wr.alloc (.cells #[.int .i64 x.g, .string x.k, .int .i64 x.ep] 39)).heap.size = wr.heap.size + 1 := by simp
      have HG1 := hide (HG.out.alloc (.cells #[.int .i64 x.g, .string x.k, .int .i64 x.ep] 39))
      rcases Nat.lt_trichotomy k q with hkq | hkq | hkq
      · have f1 : (k = q) = False := eq_false (by omega)
        have f1b : ((k : Int) == (q : Int)) = false := beq_eq_false_iff_ne.2 (by omega)
        have f1d : (k == q) = false := beq_eq_false_iff_ne.2 (by omega)
        have f2 : ((k : Int) = J) = False := eq_false (by rw [HJ.out]; omega)
        have f2b : ((k : Int) == J) = false := beq_eq_false_iff_ne.2 (by rw [HJ.out]; omega)
        obtain ⟨g, c7, w7, hr7, hG7⟩ := HG1.out.add (by omega) x 22
        rw [← mpart_low HX.out hkq] at hG7
        have HG7 := hide hG7
        rw [es] at hr7
        clear hG7 hkq
        go_wp2_with (at_builtin; refine wp_append_run _ rfl _ _ 22 rfl _ _ hr7 ?_)
        go_roundw
        case rel => exact ⟨k + 1, _, _, _, by omega, by go_num, rfl, by show _ ≤ _; omega, HG7⟩
        case measure => simp [intOf]; omega
      · subst hkq
        have f2 : ((k : Int) = J) = False := eq_false (by rw [HJ.out]; omega)
        have f2b : ((k : Int) == J) = false := beq_eq_false_iff_ne.2 (by rw [HJ.out]; omega)
        obtain rfl : x = x0 := by have := HX.out; rw [HX0.out] at this; exact (Option.some.inj this).symm
        have HG2 := hide (HG.out.alloc (.cells #[.int .i64 x.g, .string x.k, .int .i64 (ep + 1)] 39))
        obtain ⟨g, c7, w7, hr7, hG7⟩ := HG2.out.add (by omega) ⟨x.g, x.k, ep + 1⟩ 22
        rw [← HT2.out, ← mpart_at] at hG7
        have HG7 := hide hG7
        rw [show (wr.alloc (.cells #[.int .i64 x.g, .string x.k, .int .i64 (ep + 1)] 39)).heap.size = wr.heap.size + 1 by simp] at hr7
        have y0' : (wr.alloc (.cells #[.int .i64 x.g, .string x.k, .int .i64 (ep + 1)] 39)).cell? ⟨wr.heap.size, 0, none⟩ = some (.int .i64 x.g) := (pb_new wr ⟨x.g, x.k, ep + 1⟩).at_.c0
        have y1' : (wr.alloc (.cells #[.int .i64 x.g, .string x.k, .int .i64 (ep + 1)] 39)).cell? ⟨wr.heap.size, 1, none⟩ = some (.string x.k) := (pb_new wr ⟨x.g, x.k, ep + 1⟩).at_.c1
        have y2' : (wr.alloc (.cells #[.int .i64 x.g, .string x.k, .int .i64 (ep + 1)] 39)).cell? ⟨wr.heap.size, 2, none⟩ = some (.int .i64 (ep + 1)) := (pb_new wr ⟨x.g, x.k, ep + 1⟩).at_.c2
        clear hG7
        clear x0' x1' x2'
        go_wp2_with (at_builtin; refine wp_append_run _ rfl _ _ 22 rfl _ _ hr7 ?_)
        go_roundw
        case rel => exact ⟨k + 1, _, _, _, by omega, by show Value.int _ _ = Value.int _ _; rw [HJ.out]; first | rfl | simp, rfl, by show _ ≤ _; omega, HG7⟩
        case measure => have hj := HJ.out; simp [intOf]; omega
      · have f1 : (k = q) = False := eq_false (by omega)
        have f1b : ((k : Int) == (q : Int)) = false := beq_eq_false_iff_ne.2 (by omega)
        have f1d : (k == q) = false := beq_eq_false_iff_ne.2 (by omega)
        by_cases hk1 : k = q + 1
        · have f2 : ((k : Int) = J) = True := eq_true (by rw [HJ.out]; omega)
          have f2b : ((k : Int) == J) = true := beq_iff_eq.2 (by rw [HJ.out]; omega)
          have HG7 : Hid (Gw w (wr.alloc (.cells #[.int .i64 x.g, .string x.k, .int .i64 x.ep] 39)) a1 m1 c1 (mpart l q t (k + 1))) := by
            show Gw _ _ _ _ _ _
            rw [hk1, mpart_next, ← hk1]
            exact HG1.out
          clear hk1 hkq
          go_wp2_with fail
          go_roundw
          case rel => exact ⟨k + 1, _, _, _, by omega, by go_num, rfl, by show _ ≤ _; omega, HG7⟩
          case measure => simp [intOf]; omega
        · have f2 : ((k : Int) = J) = False := eq_false (by rw [HJ.out]; omega)
          have f2b : ((k : Int) == J) = false := beq_eq_false_iff_ne.2 (by rw [HJ.out]; omega)
          obtain ⟨g, c7, w7, hr7, hG7⟩ := HG1.out.add (by omega) x 22
          rw [← mpart_high HX.out (by omega)] at hG7
          have HG7 := hide hG7
          rw [es] at hr7
          clear hG7 hk1 hkq
          go_wp2_with (at_builtin; refine wp_append_run _ rfl _ _ 22 rfl _ _ hr7 ?_)
          go_roundw
          case rel => exact ⟨k + 1, _, _, _, by omega, by go_num, rfl, by show _ ≤ _; omega, HG7⟩
          case measure => simp [intOf]; omega
    · obtain rfl : k = n := by omega
      go_wp2_with fail
      go_returns
      rw [← mpart_end hlen (show q < k by omega)]
      exact HG.out.out (by have := HM.out; omega)
end Go.Proofs.Ythfjndlmihepbaa
