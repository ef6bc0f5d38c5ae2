/- In which order promises stand plays no part, and Open tells each slot from the one it is asked from on, without a gap. No condition. -/
import Derived.Test.YtjhkenmlaammnaaChoChose
import Derived.Test.YtjhkenmlaammnaaChoAwake
import Derived.Test.YtjhkenmlaammnaaChoOwn
import Derived.Test.YtjhkenmlaammnaaChoSame
import Derived.Test.YtjhkenmlaammnaaChoLists
import Derived.Test.YtjhkenmlaammnaaBallotOpen
namespace Go.Proofs.Ytjhkenmlaammnaa
open Go.ChangeShapes Go.WideShapes Go.ChangeAt Go.RowKit Go.Shelf B8 Am Cz
set_option linter.unusedVariables false
namespace ChooseOrder

theorem openR_len {n f : Int} {l : List Pr} : (openR n f l).length ≤ 1024 := by
  unfold openR
  split
  · rename_i h
    have := openE_right h
    unfold openL
    rw [List.length_map, List.length_range]
    omega
  · simp
theorem openR_at {n f : Int} {l : List Pr} {i : Nat} {x : Int × List Int} (h : (openR n f l)[i]? = some x) : x.1 = f + (i : Int) ∧ openE n f l = 0 ∧ f + (i : Int) ≤ topV l := by
  unfold openR at h
  split at h
  · rename_i e
    unfold openL at h
    rw [List.getElem?_map] at h
    have hi : i < (topV l + 1 - f).toNat := by
      by_cases hi : i < (topV l + 1 - f).toNat
      · exact hi
      · rw [List.getElem?_eq_none (by simpa using hi)] at h
        cases h
    rw [List.getElem?_range hi] at h
    simp only [Option.map_some, Option.some.injEq] at h
    refine ⟨by rw [← h], e, by omega⟩
  · simp at h
theorem openE_cases (n f : Int) (l : List Pr) : openE n f l = 0 ∨ openE n f l ≠ 0 := Decidable.em _
theorem chosen_len {n : Int} {l : List Pr} : (chosenL n l).length ≤ 80 := by
  unfold chosenL
  split
  · rename_i hr
    have nd : (keysV l).Nodup := (keys_sorted _).imp (fun {a b} h e => by omega)
    have h1 := nodup_len nd (b := (all l).map (·.s)) (fun x hx => by
      obtain ⟨v, hv, rfl⟩ := mem_keys.1 hx
      exact List.mem_map.2 ⟨v, hv, rfl⟩)
    rw [List.length_map] at h1
    have h2 := List.length_filterMap_le (chosenAt n l) (keysV l)
    have := all_len hr
    omega
  · simp
set_option maxRecDepth 100000 in
set_option maxHeartbeats 4000000 in
theorem walk {w : World} {a : Option Addr} {m c : Nat} {l : List Pp} (n f : Int) (hf : -9223372036854775808 ≤ f ∧ f ≤ 9223372036854775807) (h : Ps w a m l) :
    Calls Try.prog 6 #[.int .i64 n, .int .i64 f, .slice a m c] w fun e w' => e = .returned (.bool true) ∧ Below w.heap.size w w' := by
  have H := hide h
  have rm := h.room
  have f1 := hf.1
  have f2 := hf.2
  clear h hf
  go_enter Try.func6, Try.ntmps6
  go_wp2_with fail
  refine (awake_any w).mono ?_
  rintro e w0 ⟨rfl, hb0⟩
  have B0 := hide hb0
  clear hb0
  go_wp2_with fail
  go_loopw [7, 8] (fun t iv wr => ∃ (j : Nat) (a1 : Option Addr) (c1 : Nat), j ≤ m ∧ iv = .int .i64 ((m : Int) - 1 - (j : Int)) ∧ t = .slice a1 j c1 ∧ Hid (Below w.heap.size w wr) ∧ Hid (wr.ownsRow w.heap.size 36 2 (.slice a1 j c1) j (pcells (l.reverse.take j)))) (fun _ iv _ => (intOf iv + 1).toNat)
  case atStart => exact ⟨0, none, 0, Nat.zero_le _, by go_num, rfl, B0, World.ownsRow_nil _ _ _ _⟩
  case round =>
    obtain ⟨j, a1, c1, hj, rfl, rfl, HB, HR⟩ := hrel
    by_cases hlt : j < m
    · obtain ⟨k, ek⟩ : ∃ k : Nat, k = m - 1 - j := ⟨_, rfl⟩
      have hk : k < m := by omega
      obtain ⟨b, off, p, rfl, hb, hp, hpl, d0, d1⟩ := (H.out.below HB.out).at hk
      have hrv : l.reverse[j]? = some p := by
        rw [List.getElem?_reverse (by rw [H.out.len]; exact hlt), H.out.len, ← ek]
        exact hp
      have TS := hide (take_snoc hrv)
      have EK : (m : Int) - 1 - (j : Int) = (k : Int) := by omega
      rw [EK]
      have EJ := hide ek
      obtain ⟨i0, hi, hz0, hz1, hz2⟩ := info_parts prominfo
      obtain ⟨g, cp, w2, hr2, ho2, hc2, hb2, _⟩ := row_add (ty := 22) Try.underlying22 hi hz0 hz1 hz2 rfl (by omega) HR.out #[.int .i64 p.nd, .slice p.a p.m p.c] rfl (fun u hu => by simp at hu; rcases hu with rfl | rfl <;> rfl) (by omega) (by omega) HB.out.size
      have R2 : Hid (w2.ownsRow w.heap.size 36 2 (.slice (some ⟨g, 0, none⟩) (j + 1) cp) (j + 1) (pcells (l.reverse.take (j + 1)))) := by
        rw [TS.out, pcells_append]
        exact ho2
      have B2 := hide (HB.out.trans hb2)
      have i1 : (k : Int) < (m : Int) := by omega
      have i2 : (0 : Int) ≤ (k : Int) := by omega
      clear hp hpl hb hrv ho2 hc2 hb2 EK hi hz0 hz1 hz2 ek
      go_wp2_with (at_builtin; refine wp_append_run _ rfl _ _ 22 rfl _ _ hr2 ?_)
      go_roundw
      case rel => exact ⟨j + 1, _, _, by omega, by have := EJ.out; go_num, rfl, B2, R2⟩
      case measure => (have := EJ.out; simp [intOf] <;> omega)
    · obtain rfl : j = m := by omega
      have PB : Hid (Ps wr a1 j l.reverse) := by
        have h1 := HR.out
        rw [List.take_of_length_le (by rw [List.length_reverse, H.out.len]; exact Nat.le_refl _)] at h1
        exact ps_of_row h1 (by rw [List.length_reverse, H.out.len]) (fun p hp => by
          have h2 := H.out.each p (by simpa using hp)
          exact ⟨h2.1.below HB.out, h2.2⟩) rm
      have LR : Hid ((l.reverse).map Pp.pr = (l.map Pp.pr).reverse) := List.map_reverse
      have E1 := hide (openE_rev n f (l.map Pp.pr))
      have E2 := hide (openR_rev n f (l.map Pp.pr))
      have E3 := hide (chosenL_rev n (l.map Pp.pr))
      rw [← LR.out] at E1 E2 E3
      clear HR
      go_wp2_with fail
      refine (ownp_any (H.out.below HB.out)).mono ?_
      rintro e w1 ⟨a', c', l', rfl, hb1, _, hp1, he1⟩
      have P1 := hide hp1
      have L1 := hide he1
      have B1 := hide (below_step HB.out hb1)
      have Q1 := hide (PB.out.below hb1)
      clear hb1 hp1 he1
      go_wp2_with fail
      refine (open_any P1.out n f).mono ?_
      rintro e w2 ⟨ax, mx, cx, lx, rfl, hb2, hx, hlx⟩
      rw [L1.out] at hlx ⊢
      have X2 := hide hx
      have LX := hide hlx
      have B2 := hide (below_step B1.out hb2)
      have Q2 := hide (Q1.out.below hb2)
      clear hb2 hx hlx P1
      have MX : Hid (mx = (openR n f (l.map Pp.pr)).length) := by show _ = _; rw [← LX.out, List.length_map]; exact X2.out.len.symm
      have ML : Hid (mx ≤ 1024) := by show _ ≤ _; rw [MX.out]; exact openR_len
      have AT : Hid (∀ (i : Nat) (p : Ev), lx[i]? = some p → p.s = f + (i : Int) ∧ openE n f (l.map Pp.pr) = 0 ∧ 1 ≤ f ∧ f + (i : Int) ≤ 1099511627776) := fun i p hp => by
        have h1 : (openR n f (l.map Pp.pr))[i]? = some p.ev := by rw [← LX.out, List.getElem?_map, hp]; rfl
        obtain ⟨h2, h3, h4⟩ := openR_at h1
        have h5 := openE_right h3
        have h6 := top_le h5.1
        exact ⟨h2, h3, h5.2.1, by omega⟩
      have ZE : Hid (openE n f (l.map Pp.pr) ≠ 0 → mx = 0) := fun h => by rw [MX.out, openR_bad rfl h]; rfl
      have ml := ML.out
      generalize openE n f (l.map Pp.pr) = oe at *
      go_wp2_with fail
      refine (ownp_any Q2.out).mono ?_
      rintro e w3 ⟨a3, c3, l3, rfl, hb3, _, hp3, he3⟩
      have P3 := hide hp3
      have L3 := hide he3
      have B3 := hide (below_step B2.out hb3)
      have Q3 := hide (Q2.out.below hb3)
      have X3 := hide (X2.out.below hb3)
      clear hb3 hp3 he3 Q2 X2
      go_wp2_with fail
      refine (open_any P3.out n f).mono ?_
      rintro e w4 ⟨ay, my, cy, ly, rfl, hb4, hy, hly⟩
      rw [L3.out, E1.out]
      rw [L3.out, E2.out] at hly
      have Y4 := hide hy
      have LY := hide hly
      have B4 := hide (below_step B3.out hb4)
      have Q4 := hide (Q3.out.below hb4)
      have X4 := hide (X3.out.below hb4)
      clear hb4 hy hly P3 Q3 X3
      have oo : (oe != oe) = false := by simp
      go_wp2_with fail
      refine (entries_same X4.out Y4.out (by omega) (by rw [LX.out, LY.out])).mono ?_
      rintro e w5 ⟨rfl, hb5⟩
      have B5 := hide (below_step B4.out hb5)
      have Q5 := hide (Q4.out.below hb5)
      have X5 := hide (X4.out.below hb5)
      clear hb5 Q4 X4 Y4
      go_wp2_with fail
      refine (ownp_any (H.out.below B5.out)).mono ?_
      rintro e w6 ⟨a6, c6, l6, rfl, hb6, _, hp6, he6⟩
      have P6 := hide hp6
      have L6 := hide he6
      have B6 := hide (below_step B5.out hb6)
      have Q6 := hide (Q5.out.below hb6)
      have X6 := hide (X5.out.below hb6)
      clear hb6 hp6 he6 Q5 X5
      go_wp2_with fail
      refine (chosen_any P6.out n).mono ?_
      rintro e w7 ⟨au, mu, cu, lu, rfl, hb7, hu, hlu⟩
      rw [L6.out] at hlu
      have U7 := hide hu
      have LU := hide hlu
      have B7 := hide (below_step B6.out hb7)
      have Q7 := hide (Q6.out.below hb7)
      have X7 := hide (X6.out.below hb7)
      have MU : Hid (mu ≤ 80) := by show _ ≤ _; rw [← hu.len, ← List.length_map (f := Ev.ev), hlu]; exact chosen_len
      clear hb7 hu hlu P6 Q6 X6
      go_wp2_with fail
      refine (ownp_any Q7.out).mono ?_
      rintro e w8 ⟨a8, c8, l8, rfl, hb8, _, hp8, he8⟩
      have P8 := hide hp8
      have L8 := hide he8
      have B8 := hide (below_step B7.out hb8)
      have U8 := hide (U7.out.below hb8)
      have X8 := hide (X7.out.below hb8)
      clear hb8 hp8 he8 Q7 X7 U7
      go_wp2_with fail
      refine (chosen_any P8.out n).mono ?_
      rintro e w9 ⟨av, mv, cv, lv, rfl, hb9, hv, hlv⟩
      rw [L8.out, E3.out] at hlv
      have V9 := hide hv
      have LV := hide hlv
      have B9 := hide (below_step B8.out hb9)
      have U9 := hide (U8.out.below hb9)
      have X9 := hide (X8.out.below hb9)
      clear hb9 hv hlv P8 X8 U8
      go_wp2_with fail
      refine (entries_same U9.out V9.out (by have := MU.out; omega) (by rw [LU.out, LV.out])).mono ?_
      rintro e wa ⟨rfl, hba⟩
      have BA := hide (below_step B9.out hba)
      have XA := hide (X9.out.below hba)
      clear hba X9 U9 V9
      go_wp2_with fail
      go_loopw [13] (fun iv wr => ∃ (k : Nat), k ≤ mx ∧ iv = .int .i64 k ∧ Hid (wr = wa)) (fun iv _ => mx - (intOf iv).toNat)
      case atStart => exact ⟨0, Nat.zero_le _, rfl, rfl⟩
      case round =>
        obtain ⟨k, hk, rfl, HW⟩ := hrel
        obtain rfl := HW.out
        by_cases hlt : k < mx
        · obtain ⟨p, hp⟩ : ∃ p, lx[k]? = some p := ⟨_, List.getElem?_eq_getElem (by rw [XA.out.len]; exact hlt)⟩
          obtain ⟨g, rfl, _, _, c0, _⟩ := XA.out.at hp
          obtain ⟨q1, q2, q3, q4⟩ := AT.out k p hp
          have i1 : (k : Int) < (mx : Int) := by omega
          have i2 : (0 : Int) ≤ (k : Int) := by omega
          rw [q1] at c0
          clear hp q1 q2
          go_wp2_with fail
          go_roundw
          case rel => exact ⟨k + 1, by omega, by go_num, trivial⟩
          case measure => simp [intOf]; omega
        · by_cases hz : oe = 0
          · subst hz
            go_wp2_with fail
            go_ret
            exact ⟨rfl, BA.out⟩
          · obtain rfl := ZE.out hz
            have z1 : (oe == 0) = false := by simpa using hz
            clear hz
            go_wp2_with fail
            go_ret
            exact ⟨rfl, BA.out⟩

set_option maxRecDepth 100000 in
theorem lifted (os : Os) (started : os.Started) (H : Type) (enc : TypeId × Value → H) :
    ReturnsInHanded {} Try.checked os 6 .any (Rows.chooseOrderSpec.pre6 enc Try.prog Try.f6 Rows.chooseOrderRow.domain false) (Rows.chooseOrderSpec.post enc Try.prog Try.f6 false true false false) := by
  refine returnsInHanded_of_change_sized (C := Try.checked) own started (by kernel_rfl) Try.func6
    (ChangeSpec.witness6 (enc := enc) (C := Try.checked) false ⟨#[], #[.int .i64 0, .int .i64 0, .slice none 0 0], []⟩ 8 (by kernel_rfl) (by kernel_rfl) (by kernel_rfl) (by kernel_rfl)) ?_
  intro W base args ds gs before hval0 hW hcnd hsz0 _
  have hsz : (DataW.weightsEach Try.prog (Try.f6.params.toList ++ Rows.chooseOrderSpec.plain.varTypes Try.prog) (ds ++ gs)).all (· ≤ reachBytes) = true := hsz0
  have hval : ∀ (j : Nat) t v, Try.f6.params[j]? = some t → args[j]? = some v → Value.okWide Try.prog W .any base t v := hval0
  have hW' := hW
  obtain ⟨p, q, hA0, hV, rfl, hfz, hnd⟩ := hW
  have hA : DataW.TrodAll enc Try.prog W 0 (fun _ => true) true Try.f6.params.toList args.toList ds p := hA0
  rw [Try.params6] at hA hval hsz
  obtain ⟨v0, vs0, d0, ds0, p0, q0, hargs, rfl, rfl, h0, r0⟩ := trodAll_cons hA
  obtain ⟨v1, vs1, d1, ds1, p1, q1, rfl, rfl, rfl, h1, r1⟩ := trodAll_cons r0
  obtain ⟨v2, vs2, d2, ds2, p2, q2, rfl, rfl, rfl, h2, r2⟩ := trodAll_cons r1
  obtain ⟨rfl, rfl, rfl⟩ := trodAll_nil r2
  obtain rfl : args = #[v0, v1, v2] := by cases args; simp_all
  obtain ⟨rfl, rfl⟩ := trodVars_none hV
  have lt0 : ∀ x ∈ p0, x.block < W.heap.size := by obtain ⟨m, hm⟩ := h0; exact DataW.trod_lt m _ _ _ hm
  obtain ⟨n, rfl, hn⟩ := open_i64 (hval 0 3 v0 rfl rfl) h0
  have lt1 : ∀ x ∈ p1, x.block < W.heap.size := by obtain ⟨m, hm⟩ := h1; exact DataW.trod_lt m _ _ _ hm
  obtain ⟨f, rfl, hf⟩ := open_i64 (hval 1 3 v1 rfl rfl) h1
  have lt2 : ∀ x ∈ p2, x.block < W.heap.size := by obtain ⟨m, hm⟩ := h2; exact DataW.trod_lt m _ _ _ hm
  obtain ⟨a, m, c, l, rfl, hl⟩ := open_proms_held (hval 2 22 v2 rfl rfl) h2 (fun n hn => by have h := List.all_eq_true.1 hsz n (DataW.weights_mem_each (j := 2) rfl rfl n hn); simpa using h)
  clear hA0 hval0
  refine (walk n f hf hl).mono fun e W' ⟨he, bel⟩ => ?_
  subst he
  exact ⟨_, rfl, _, _, _, [], _, [], hW', trodAll_mk1 (shut_bool Try.underlying4 _), (trodAll_cons_mk (Below.trod laidOut (by kernel_rfl) (of_decide_eq_true (by kernel_rfl)) h0 bel lt0) (trodAll_cons_mk (Below.trod laidOut (by kernel_rfl) (of_decide_eq_true (by kernel_rfl)) h1 bel lt1) (trodAll_cons_mk (Below.trod laidOut (by kernel_rfl) (of_decide_eq_true (by kernel_rfl)) h2 bel lt2) trodAll_mk0))), rfl, bel.frame _, fun h => by cases h⟩

theorem over : Rows.chooseOrderRow.holds Try.pinned (OpenSpec.ofChange Rows.chooseOrderSpec) :=
  OpenClaim.holds_of_wide 6 Try.f6 rfl rfl rfl rfl rfl rfl rfl ⟨rfl, rfl, rfl, rfl, rfl⟩ rfl rfl rfl rfl rfl (by kernel_rfl) Try.func6 (by kernel_rfl)
    (of_decide_eq_true (by kernel_rfl)) (by unfold Func.isWrapper; first | (rw [if_pos (by decide +kernel)]; kernel_rfl) | (rw [if_neg (by decide +kernel)]; exact ⟨rfl, rfl⟩))
    (fun os started H enc _ => lifted os started H enc)

theorem proved : Rows.ChooseOrderSaid := over
#print axioms proved
end ChooseOrder
theorem chooseOrder_holds : Rows.ChooseOrderSaid := ChooseOrder.proved
end Go.Proofs.Ytjhkenmlaammnaa
