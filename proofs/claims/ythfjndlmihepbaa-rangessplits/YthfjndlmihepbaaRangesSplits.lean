/- RangesSplits: behind a split each key has the group that it had, but those from the split on: these have the new one; no condition. -/
import Derived.Test.YthfjndlmihepbaaRgAwake
import Derived.Test.YthfjndlmihepbaaRgPlain
import Derived.Test.YthfjndlmihepbaaRgHelp
namespace Go.Proofs.Ythfjndlmihepbaa
namespace RangesSplits
open Go.ChangeShapes Go.WideShapes Go.ChangeAt Go.RowKit Rg
set_option linter.unusedVariables false

set_option maxRecDepth 100000 in
set_option maxHeartbeats 4000000 in
theorem walk {w : World} {a : Option Addr} {n c : Nat} {l : List Pc} {key : ByteArray} {g : Int} {pr : ByteArray} (h : Ps w a n l) (hcp : Cp a n c) (hq : n * 32 ≤ 140737488351232) :
    Calls Try.prog 6 #[.slice a n c, .string key, .int .i64 g, .string pr] w fun e w' => e = .returned (.bool true) ∧ Below w.heap.size w w' := by
  have AW := hide (awake_any w)
  have H := hide h
  have HL := hide h.len
  have COW := fun W hb => hide (pown_any (h.below (w' := W) hb) hcp)
  have hr := h.room
  clear h hcp
  by_cases hE : splitE l key g = 0
  rotate_left
  · have hl0 : splitL l key g = [] := if_neg hE
    have HE := hide hE
    have hEb : (splitE l key g == 0) = false := beq_eq_false_iff_ne.2 hE
    go_enter Try.func6, Try.ntmps6
    go_wp2_with fail
    refine AW.out.mono ?_
    rintro e w1 ⟨rfl, hb1⟩
    have HB1 := hide hb1
    clear hb1 AW
    go_wp2_with fail
    refine (COW _ HB1.out).out.mono ?_
    rintro e w2 ⟨b, rfl, hb2, ho2⟩
    have HB2 : Hid (Below w.heap.size w w2) := HB1.out.trans (hb2.mono HB1.out.size)
    have D2 := hide (split_any ho2.ps cp_own key g)
    rw [hl0] at D2
    clear COW hb2 ho2 HB1 hl0
    generalize splitE l key g = E at *
    go_wp2_with fail
    refine D2.out.mono ?_
    rintro e w3 ⟨a3, n3, c3, rfl, hp3, hb3, _⟩
    obtain rfl : n3 = 0 := by rw [← hp3.len]; rfl
    have HB3 : Hid (Below w.heap.size w w3) := HB2.out.trans (hb3.mono HB2.out.size)
    clear D2 hp3 hb3 HB2
    go_wp2_with fail
    go_returns
    exact ⟨rfl, HB3.out⟩
  obtain ⟨q, x, S, hL⟩ := split_is hE
  have HS := hide S
  have hlt : q < n := by rw [← HL.out]; exact S.lt
  have HM := hide S.map
  have HF := hide (S.find pr)
  have hck : checkE (spl l q ⟨x.g, x.k, epochV l + 1⟩ ⟨g, key, epochV l + 1⟩) = 0 := if_pos S.map
  have HLL := hide (spl_len (t := ⟨x.g, x.k, epochV l + 1⟩) (u := ⟨g, key, epochV l + 1⟩) S.lt)
  have HQ1 : Hid _ := hide (spl_q (t := ⟨x.g, x.k, epochV l + 1⟩) (u := ⟨g, key, epochV l + 1⟩) S.lt)
  have HQ2 : Hid _ := hide (spl_q1 (t := ⟨x.g, x.k, epochV l + 1⟩) (u := ⟨g, key, epochV l + 1⟩) S.lt)
  generalize hLL : spl l q ⟨x.g, x.k, epochV l + 1⟩ ⟨g, key, epochV l + 1⟩ = L at *
  clear hLL S
  have hn8 : n < 8 := by rw [← HL.out]; exact (right_parts HS.out.mp).2.1
  obtain ⟨m, hm⟩ : ∃ m : Nat, m = n + 1 := ⟨_, rfl⟩
  have hjn : IntKind.i64.wrap ((n : Int) + 1) = (m : Int) := by rw [IntKind.wrap_i64]; omega
  have hi8 : findV l pr < n := by rw [← HL.out]; exact (find_has HS.out.mp pr).1
  have hk8 : findV L pr < m := by rw [hm, ← HL.out, ← HLL.out]; exact (find_has HM.out pr).1
  have CF := fun W hb => hide (find_any (c := c) (H.out.below (w' := W) hb) pr)
  have CA := fun W hb => hide (find_any (c := c) (H.out.below (w' := W) hb) key)
  rw [HS.out.fq] at CA
  have CG : ∀ (W : World) (b : Option Addr) (d : Nat), Ps W b m L → Hid (Calls Try.prog 16 #[.slice b m d, .string pr] W fun e w' => e = .returned (.int .i64 (findV L pr : Nat)) ∧ Below W.heap.size W w') := fun W b d hb => find_any (c := d) hb pr
  generalize findV l pr = i at CF HF hi8
  generalize findV L pr = k at CG HF hk8
  have CN : ∀ (W : World), Below w.heap.size w W → Hid (Calls Try.prog 18 #[.slice a n c, .int .i64 q] W fun e w' => e = .returned (.string (endN l q)) ∧ Below W.heap.size W w') := fun W hb =>
    (end_any (c := c) (H.out.below hb) q (by unfold I64; omega)).mono fun e w' h => ⟨by rw [h.1]; unfold endV; rw [if_neg (by omega)]; rfl, by rw [h.2]; exact Below.refl _ _⟩
  have CWI : ∀ (W : World), Hid (Calls Try.prog 13 #[.string key, .string (endN l q), .string pr] W fun e w' => e = .returned (.bool (withinB key (endN l q) pr)) ∧ Below W.heap.size W w') := fun W =>
    (within_any key (endN l q) pr W).mono fun e w' h => ⟨h.1, by rw [h.2]; exact Below.refl _ _⟩
  generalize withinB key (endN l q) pr = z at CWI HF
  generalize endN l q = ed at CN CWI
  have CE : ∀ (W : World), Below w.heap.size w W → Hid (Calls Try.prog 23 #[.slice a n c] W fun e w' => e = .returned (.int .i64 (epochV l)) ∧ Below W.heap.size W w') := fun W hb =>
    epoch_any (c := c) (H.out.below hb)
  have HX := hide HS.out.hx
  clear HS HM
  obtain ⟨ep1, he1⟩ : ∃ e : Int, e = epochV l + 1 := ⟨_, rfl⟩
  rw [← he1] at HQ1 HQ2
  have hee : epochV l < ep1 := by omega
  generalize epochV l = ep at CE hee
  clear he1
  have HM := hide hm
  clear hm
  go_enter Try.func6, Try.ntmps6
  go_wp2_with fail
  refine AW.out.mono ?_
  rintro e w1 ⟨rfl, hb1⟩
  have HB1 := hide hb1
  clear hb1 AW
  go_wp2_with fail
  refine (COW _ HB1.out).out.mono ?_
  rintro e w2 ⟨b, rfl, hb2, ho2⟩
  have HB2 : Hid (Below w.heap.size w w2) := HB1.out.trans (hb2.mono HB1.out.size)
  have D2 := hide (split_any ho2.ps cp_own key g)
  rw [hL, hE] at D2
  clear COW hb2 ho2 HB1 hL hE
  go_wp2_with fail
  refine D2.out.mono ?_
  rintro e w3 ⟨a3, n3, c3, rfl, hp3, hb3, hc3⟩
  obtain rfl : n3 = m := by rw [← hp3.len, HLL.out, HL.out, HM.out]
  have HB3 : Hid (Below w.heap.size w w3) := HB2.out.trans (hb3.mono HB2.out.size)
  have HP3 := hide hp3
  have D3 := hide (check_any hp3 hc3)
  rw [hck] at D3
  clear D2 hp3 hb3 HB2 hck hc3
  go_wp2_with fail
  refine D3.out.mono ?_
  rintro e w4 ⟨rfl, hb4⟩
  have HB4 : Hid (Below w.heap.size w w4) := HB3.out.trans (hb4.mono HB3.out.size)
  have HP4 := hide (HP3.out.below hb4)
  have D4 := CF _ HB4.out
  clear D3 hb4 HB3 HP3 CF
  go_wp2_with fail
  refine D4.out.mono ?_
  rintro e w5 ⟨rfl, hb5⟩
  have HB5 : Hid (Below w.heap.size w w5) := HB4.out.trans (hb5.mono HB4.out.size)
  have HP5 := hide (HP4.out.below hb5)
  have D5 := CG _ _ c3 HP5.out
  clear D4 hb5 HB4 HP4 CG
  go_wp2_with fail
  refine D5.out.mono ?_
  rintro e w6 ⟨rfl, hb6⟩
  have HB6 : Hid (Below w.heap.size w w6) := HB5.out.trans (hb6.mono HB5.out.size)
  have HP6 := hide (HP5.out.below hb6)
  have D6 := CA _ HB6.out
  clear D5 hb6 HB5 HP5 CA
  go_wp2_with fail
  refine D6.out.mono ?_
  rintro e w7 ⟨rfl, hb7⟩
  have HB7 : Hid (Below w.heap.size w w7) := HB6.out.trans (hb7.mono HB6.out.size)
  have HP7 := hide (HP6.out.below hb7)
  have D7 := CN _ HB7.out
  clear D6 hb7 HB6 HP6 CN
  go_wp2_with fail
  refine D7.out.mono ?_
  rintro e w8 ⟨rfl, hb8⟩
  have HB8 : Hid (Below w.heap.size w w8) := HB7.out.trans (hb8.mono HB7.out.size)
  have HP8 := hide (HP7.out.below hb8)
  have D8 := CWI w8
  clear D7 hb8 HB7 HP7 CWI
  go_wp2_with fail
  refine D8.out.mono ?_
  rintro e w9 ⟨rfl, hb9⟩
  have HB9 : Hid (Below w.heap.size w w9) := HB8.out.trans (hb9.mono HB8.out.size)
  have HP9 := hide (HP8.out.below hb9)
  clear D8 hb9 HB8 HP8
  obtain ⟨b3, off3, y, rfl, hy, _, M⟩ := ps_at HP9.out hk8
  obtain ⟨c0, c1, c2⟩ := M
  have HY := hide hy
  have i3 : (k : Int) < (n3 : Int) := by omega
  clear hy
  cases z
  rotate_left
  · have hk : k = q + 1 := HF.out.1 rfl
    obtain rfl : y = ⟨g, key, ep1⟩ := by have := HY.out; rw [hk, HQ2.out] at this; exact (Option.some.inj this).symm
    clear hk
    simp only at c0 c1 c2
    go_wp2_with fail
    refine wp_region_cells w [(⟨b3, off3 + k * 3, none⟩, .int .i64 g), (⟨b3, off3 + k * 3 + 2, none⟩, .int .i64 ep1)] (by kernel_rfl) (by kernel_rfl) HB9.out (by simp [AllCells, c0, c2]) ?_
    intro hne qq
    simp only [AllCells, and_true] at qq
    clear c0 c1 c2
    repeat (go_big_quiet_step (first | (go_at_call 23; exact Held.call _ (CE _ (Held.below _)).out)))
    refine wpQuiet_nil ?_
    rintro _ ⟨y9, rfl⟩
    have BQ := y9.below
    clear qq hne
    go_wp2_with fail
    go_returns
    exact ⟨rfl, BQ⟩
  obtain ⟨b2, off2, y2, rfl, hy2, _, M2⟩ := ps_at (H.out.below HB9.out) hi8
  obtain ⟨d0, d1, d2⟩ := M2
  have i2 : (i : Int) < (n : Int) := by omega
  by_cases hiq : i = q
  · subst hiq
    have hk : k = i := HF.out.2.1 rfl rfl
    obtain rfl : y = ⟨x.g, x.k, ep1⟩ := by have := HY.out; rw [hk, HQ1.out] at this; exact (Option.some.inj this).symm
    obtain rfl : y2 = x := by rw [HX.out] at hy2; exact (Option.some.inj hy2).symm
    clear hk hy2
    simp only at c0 c1 c2
    go_wp2_with fail
    refine wp_region_cells w [(⟨b3, off3 + k * 3, none⟩, .int .i64 y2.g), (⟨b3, off3 + k * 3 + 1, none⟩, .string y2.k), (⟨b3, off3 + k * 3 + 2, none⟩, .int .i64 ep1), (⟨b2, off2 + i * 3, none⟩, .int .i64 y2.g), (⟨b2, off2 + i * 3 + 1, none⟩, .string y2.k)] (by kernel_rfl) (by kernel_rfl) HB9.out (by simp [AllCells, c0, c1, c2, d0, d1]) ?_
    intro hne qq
    simp only [AllCells, and_true] at qq
    clear c0 c1 c2 d0 d1 d2
    repeat (go_big_quiet_step (first | (go_at_call 23; exact Held.call _ (CE _ (Held.below _)).out)))
    refine wpQuiet_nil ?_
    rintro _ ⟨y9, rfl⟩
    have BQ := y9.below
    clear qq hne
    go_wp2_with fail
    go_returns
    exact ⟨rfl, BQ⟩
  · obtain ⟨j, y', hj, h1, h2⟩ := HF.out.2.2 rfl hiq
    obtain rfl : y = y' := by have := HY.out; rw [hj, h1] at this; exact (Option.some.inj this).symm
    obtain rfl : y2 = y := by rw [h2] at hy2; exact (Option.some.inj hy2).symm
    have hiqb : ((i : Int) == (q : Int)) = false := beq_eq_false_iff_ne.2 (by omega)
    have hiqd : (i == q) = false := beq_eq_false_iff_ne.2 hiq
    have hiqp : (i = q) = False := eq_false hiq
    clear hj h1 h2 hy2 hiq CE
    go_wp2_with fail
    refine wp_region_cells w [(⟨b3, off3 + k * 3, none⟩, .int .i64 y2.g), (⟨b3, off3 + k * 3 + 1, none⟩, .string y2.k), (⟨b3, off3 + k * 3 + 2, none⟩, .int .i64 y2.ep), (⟨b2, off2 + i * 3, none⟩, .int .i64 y2.g), (⟨b2, off2 + i * 3 + 1, none⟩, .string y2.k), (⟨b2, off2 + i * 3 + 2, none⟩, .int .i64 y2.ep)] (by kernel_rfl) (by kernel_rfl) HB9.out (by simp [AllCells, c0, c1, c2, d0, d1, d2]) ?_
    intro hne qq
    simp only [AllCells, and_true] at qq
    clear c0 c1 c2 d0 d1 d2
    repeat (go_big_quiet_step (fail))
    refine wpQuiet_nil ?_
    rintro _ ⟨y9, rfl⟩
    have BQ := y9.below
    clear qq hne
    go_wp2_with fail
    go_returns
    exact ⟨rfl, BQ⟩

set_option maxRecDepth 100000 in
theorem lifted (os : Os) (started : os.Started) (H : Type) (enc : TypeId × Value → H) :
    ReturnsInHanded {} Try.checked os 6 .any (Rows.rangesSplitsSpec.pre6 enc Try.prog Try.f6 Rows.rangesSplitsRow.domain false) (Rows.rangesSplitsSpec.post enc Try.prog Try.f6 false true false false) := by
  refine returnsInHanded_of_change_sized (C := Try.checked) own started (by kernel_rfl) Try.func6
    (ChangeSpec.witness6 (enc := enc) (C := Try.checked) false ⟨#[], #[.slice none 0 0, .string ByteArray.empty, .int .i64 0, .string ByteArray.empty], []⟩ 8 (by kernel_rfl) (by kernel_rfl) (by kernel_rfl) (by kernel_rfl)) ?_
  intro W base args ds gs before hval0 hW hcnd hsz0 _
  have hsz : (DataW.weightsEach Try.prog (Try.f6.params.toList ++ Rows.rangesSplitsSpec.plain.varTypes Try.prog) (ds ++ gs)).all (· ≤ reachBytes) = true := hsz0
  have hval : ∀ (j : Nat) t v, Try.f6.params[j]? = some t → args[j]? = some v → Value.okWide Try.prog W .any base t v := hval0
  have hW' := hW
  obtain ⟨p, q, hA0, hV, rfl, hfz, hnd⟩ := hW
  have hA : DataW.TrodAll enc Try.prog W 0 (fun _ => true) true Try.f6.params.toList args.toList ds p := hA0
  rw [Try.params6] at hA hval hsz
  obtain ⟨v0, vs0, d0, ds0, p0, q0, hargs, rfl, rfl, h0, r0⟩ := trodAll_cons hA
  obtain ⟨v1, vs1, d1, ds1, p1, q1, rfl, rfl, rfl, h1, r1⟩ := trodAll_cons r0
  obtain ⟨v2, vs2, d2, ds2, p2, q2, rfl, rfl, rfl, h2, r2⟩ := trodAll_cons r1
  obtain ⟨v3, vs3, d3, ds3, p3, q3, rfl, rfl, rfl, h3, r3⟩ := trodAll_cons r2
  obtain ⟨rfl, rfl, rfl⟩ := trodAll_nil r3
  obtain rfl : args = #[v0, v1, v2, v3] := by cases args; simp_all
  obtain ⟨rfl, rfl⟩ := trodVars_none hV
  have lt0 : ∀ x ∈ p0, x.block < W.heap.size := by obtain ⟨m, hm⟩ := h0; exact DataW.trod_lt m _ _ _ hm
  obtain ⟨a, n, c, l, rfl, k0, kw0, kc0, kq0⟩ := open_places_held (hval 0 22 v0 rfl rfl) h0 (fun n hn => by have h := List.all_eq_true.1 hsz n (DataW.weights_mem_each (j := 0) rfl rfl n hn); simpa using h)
  have lt1 : ∀ x ∈ p1, x.block < W.heap.size := by obtain ⟨m, hm⟩ := h1; exact DataW.trod_lt m _ _ _ hm
  obtain ⟨key, rfl, kk⟩ := open_str (hval 1 9 v1 rfl rfl) h1
  have lt2 : ∀ x ∈ p2, x.block < W.heap.size := by obtain ⟨m, hm⟩ := h2; exact DataW.trod_lt m _ _ _ hm
  obtain ⟨g, rfl, hg⟩ := open_i64 (hval 2 3 v2 rfl rfl) h2
  have lt3 : ∀ x ∈ p3, x.block < W.heap.size := by obtain ⟨m, hm⟩ := h3; exact DataW.trod_lt m _ _ _ hm
  obtain ⟨pr, rfl, kp⟩ := open_str (hval 3 9 v3 rfl rfl) h3
  clear hA0 hval0
  refine (walk k0 kc0 kq0).mono fun e W' ⟨he, bel⟩ => ?_
  subst he
  exact ⟨_, rfl, _, _, _, [], _, [], hW', trodAll_mk1 (shut_bool Try.underlying4 _), (trodAll_cons_mk (Below.trod laidOut (by kernel_rfl) (of_decide_eq_true (by kernel_rfl)) h0 bel lt0) (trodAll_cons_mk (Below.trod laidOut (by kernel_rfl) (of_decide_eq_true (by kernel_rfl)) h1 bel lt1) (trodAll_cons_mk (Below.trod laidOut (by kernel_rfl) (of_decide_eq_true (by kernel_rfl)) h2 bel lt2) (trodAll_cons_mk (Below.trod laidOut (by kernel_rfl) (of_decide_eq_true (by kernel_rfl)) h3 bel lt3) trodAll_mk0)))), rfl, bel.frame _, fun h => by cases h⟩

theorem over : Rows.rangesSplitsRow.holds Try.pinned (OpenSpec.ofChange Rows.rangesSplitsSpec) :=
  OpenClaim.holds_of_wide 6 Try.f6 rfl rfl rfl rfl rfl rfl rfl ⟨rfl, rfl, rfl, rfl, rfl⟩ rfl rfl rfl rfl rfl (by kernel_rfl) Try.func6 (by kernel_rfl)
    (of_decide_eq_true (by kernel_rfl)) (by unfold Func.isWrapper; first | (rw [if_pos (by decide +kernel)]; kernel_rfl) | (rw [if_neg (by decide +kernel)]; exact ⟨rfl, rfl⟩))
    (fun os started H enc _ => lifted os started H enc)

theorem proved : Rows.RangesSplitsSaid := over
#print axioms proved
end RangesSplits
theorem rangesSplits_holds : Rows.RangesSplitsSaid := RangesSplits.proved
end Go.Proofs.Ythfjndlmihepbaa
