/- ChoosePlays: which promises are right, what a new leader proposes by them, and what is chosen by votes, are the document's; what is handed in stays: for every number of nodes, slot and list of promises. No condition. -/
import Derived.Test.YtjhkenmlaammnaaChoRefChosen
import Derived.Test.YtjhkenmlaammnaaChoAwake
import Derived.Test.YtjhkenmlaammnaaChoOwn
import Derived.Test.YtjhkenmlaammnaaChoLike
import Derived.Test.YtjhkenmlaammnaaChoLists
import Derived.Test.YtjhkenmlaammnaaBallotOpen
namespace Go.Proofs.Ytjhkenmlaammnaa
open Go.ChangeShapes Go.WideShapes Go.ChangeAt Go.RowKit Go.Shelf B8 Am Cz
set_option linter.unusedVariables false
namespace ChoosePlays

theorem openR_len {n f : Int} {l : List Pr} : (openR n f l).length ≤ 1024 := by
  unfold openR
  split
  · rename_i h
    have := openE_right h
    unfold openL
    rw [List.length_map, List.length_range]
    omega
  · simp
theorem chosen_len {n : Int} {l : List Pr} : (chosenL n l).length ≤ 80 := by
  unfold chosenL
  split
  · rename_i hr
    have nd : (keysV l).Nodup := (keys_sorted _).imp (fun {a b} h e => by omega)
    have h1 := nodup_len nd (b := (all l).map (·.s)) (fun x hx => by
      obtain ⟨v, hv, rfl⟩ := mem_keys.1 hx
      exact List.mem_map.2 ⟨v, hv, rfl⟩)
    rw [List.length_map] at h1
    have h2 := List.length_filterMap_le (chosenAt n l) (keysV l)
    have := all_len hr
    omega
  · simp
set_option maxRecDepth 100000 in
set_option maxHeartbeats 4000000 in
theorem walk {w : World} {a : Option Addr} {m c : Nat} {l : List Pp} (n f : Int) (h : Ps w a m l) :
    Calls Try.prog 3 #[.int .i64 n, .int .i64 f, .slice a m c] w fun e w' => e = .returned (.bool true) ∧ Below w.heap.size w w' := by
  have H := hide h
  clear h
  go_enter Try.func3, Try.ntmps3
  go_wp2_with fail
  refine (ownp_any H.out).mono ?_
  rintro e w1 ⟨a1, c1, l1, rfl, hb1, _, hp1, he1⟩
  have B1 := hide hb1
  have P1 := hide hp1
  have L1 := hide he1
  clear hb1 hp1 he1
  go_wp2_with fail
  refine (open_any P1.out n f).mono ?_
  rintro e w2 ⟨ax, mx, cx, lx, rfl, hb2, hx, hlx⟩
  rw [L1.out] at hlx ⊢
  have B2 := hide (below_step B1.out hb2)
  have P2 := hide (P1.out.below hb2)
  have X2 := hide hx
  have LX := hide hlx
  have MX : Hid (mx ≤ 1024) := by show _ ≤ _; rw [← hx.len, ← List.length_map (f := Ev.ev), hlx]; exact openR_len
  clear hb2 hx hlx P1
  obtain ⟨oe, eoe⟩ : ∃ oe, openE n f (l.map Pp.pr) = oe := ⟨_, rfl⟩
  rw [eoe]
  have EOE := hide eoe
  clear eoe
  go_wp2_with fail
  refine (ropen_any (H.out.below B2.out) n f).mono ?_
  rintro e w3 ⟨ay, my, cy, ly, rfl, hb3, hy, hly⟩
  rw [EOE.out]
  have B3 := hide (below_step B2.out hb3)
  have P3 := hide (P2.out.below hb3)
  have X3 := hide (X2.out.below hb3)
  have Y3 := hide hy
  have LY := hide hly
  clear hb3 hy hly P2 X2
  go_wp2_with fail
  refine (chosen_any P3.out n).mono ?_
  rintro e w4 ⟨au, mu, cu, lu, rfl, hb4, hu, hlu⟩
  rw [L1.out] at hlu
  have B4 := hide (below_step B3.out hb4)
  have P4 := hide (P3.out.below hb4)
  have X4 := hide (X3.out.below hb4)
  have Y4 := hide (Y3.out.below hb4)
  have U4 := hide hu
  have LU := hide hlu
  have MU : Hid (mu ≤ 80) := by show _ ≤ _; rw [← hu.len, ← List.length_map (f := Ev.ev), hlu]; exact chosen_len
  clear hb4 hu hlu P3 X3 Y3
  go_wp2_with fail
  refine (rchosen_any (H.out.below B4.out) n).mono ?_
  rintro e w5 ⟨av, mv, cv, lv, rfl, hb5, hv, hlv⟩
  have B5 := hide (below_step B4.out hb5)
  have P5 := hide (P4.out.below hb5)
  have X5 := hide (X4.out.below hb5)
  have Y5 := hide (Y4.out.below hb5)
  have U5 := hide (U4.out.below hb5)
  have V5 := hide hv
  have LV := hide hlv
  clear hb5 hv hlv P4 X4 Y4 U4
  go_wp2_with fail
  refine (awake_any _).mono ?_
  rintro e w6 ⟨rfl, hb6⟩
  have B6 := hide (below_step B5.out hb6)
  have P6 := hide (P5.out.below hb6)
  have X6 := hide (X5.out.below hb6)
  have Y6 := hide (Y5.out.below hb6)
  have U6 := hide (U5.out.below hb6)
  have V6 := hide (V5.out.below hb6)
  clear hb6 P5 X5 Y5 U5 V5
  obtain ⟨rb, erb⟩ : ∃ rb, rightB n (l.map Pp.pr) = rb := ⟨_, rfl⟩
  have CR := hide (right_lit (c := c1) P6.out (n := n) (b := rb) (by rw [L1.out, erb]))
  have ERB := hide erb
  clear erb
  go_wp2_with fail
  refine CR.out.mono ?_
  rintro e w7 ⟨rfl, hb7⟩
  have B7 := hide (below_step B6.out hb7)
  have P7 := hide (P6.out.below hb7)
  have X7 := hide (X6.out.below hb7)
  have Y7 := hide (Y6.out.below hb7)
  have U7 := hide (U6.out.below hb7)
  have V7 := hide (V6.out.below hb7)
  clear hb7 P6 X6 Y6 U6 V6 CR
  have CR := hide (rright_lit (c := c) (H.out.below B7.out) ERB.out)
  go_wp2_with fail
  refine CR.out.mono ?_
  rintro e w8 ⟨rfl, hb8⟩
  have B8 := hide (below_step B7.out hb8)
  have P8 := hide (P7.out.below hb8)
  have X8 := hide (X7.out.below hb8)
  have Y8 := hide (Y7.out.below hb8)
  have U8 := hide (U7.out.below hb8)
  have V8 := hide (V7.out.below hb8)
  clear hb8 P7 X7 Y7 U7 V7 CR
  have rr : (rb == rb) = true := by simp
  have oo : (oe == oe) = true := by simp
  go_wp2_with fail
  refine (entries_same X8.out Y8.out (by have := MX.out; omega) (by rw [LX.out, LY.out])).mono ?_
  rintro e w9 ⟨rfl, hb9⟩
  have B9 := hide (below_step B8.out hb9)
  have P9 := hide (P8.out.below hb9)
  have U9 := hide (U8.out.below hb9)
  have V9 := hide (V8.out.below hb9)
  clear hb9 P8 X8 Y8 U8 V8
  go_wp2_with fail
  refine (entries_same U9.out V9.out (by have := MU.out; omega) (by rw [LU.out, LV.out])).mono ?_
  rintro e wa ⟨rfl, hba⟩
  have BA := hide (below_step B9.out hba)
  have PA := hide (P9.out.below hba)
  clear hba P9 U9 V9
  go_wp2_with fail
  refine (proms_same PA.out (H.out.below BA.out) L1.out).mono ?_
  rintro e wb ⟨rfl, hbb⟩
  have BB := hide (below_step BA.out hbb)
  clear hbb
  go_wp2_with fail
  go_ret
  exact ⟨rfl, BB.out⟩

set_option maxRecDepth 100000 in
theorem lifted (os : Os) (started : os.Started) (H : Type) (enc : TypeId × Value → H) :
    ReturnsInHanded {} Try.checked os 3 .any (Rows.choosePlaysSpec.pre6 enc Try.prog Try.f3 Rows.choosePlaysRow.domain false) (Rows.choosePlaysSpec.post enc Try.prog Try.f3 false true false false) := by
  refine returnsInHanded_of_change_sized (C := Try.checked) own started (by kernel_rfl) Try.func3
    (ChangeSpec.witness6 (enc := enc) (C := Try.checked) false ⟨#[], #[.int .i64 0, .int .i64 0, .slice none 0 0], []⟩ 8 (by kernel_rfl) (by kernel_rfl) (by kernel_rfl) (by kernel_rfl)) ?_
  intro W base args ds gs before hval0 hW hcnd hsz0 _
  have hsz : (DataW.weightsEach Try.prog (Try.f3.params.toList ++ Rows.choosePlaysSpec.plain.varTypes Try.prog) (ds ++ gs)).all (· ≤ reachBytes) = true := hsz0
  have hval : ∀ (j : Nat) t v, Try.f3.params[j]? = some t → args[j]? = some v → Value.okWide Try.prog W .any base t v := hval0
  have hW' := hW
  obtain ⟨p, q, hA0, hV, rfl, hfz, hnd⟩ := hW
  have hA : DataW.TrodAll enc Try.prog W 0 (fun _ => true) true Try.f3.params.toList args.toList ds p := hA0
  rw [Try.params3] at hA hval hsz
  obtain ⟨v0, vs0, d0, ds0, p0, q0, hargs, rfl, rfl, h0, r0⟩ := trodAll_cons hA
  obtain ⟨v1, vs1, d1, ds1, p1, q1, rfl, rfl, rfl, h1, r1⟩ := trodAll_cons r0
  obtain ⟨v2, vs2, d2, ds2, p2, q2, rfl, rfl, rfl, h2, r2⟩ := trodAll_cons r1
  obtain ⟨rfl, rfl, rfl⟩ := trodAll_nil r2
  obtain rfl : args = #[v0, v1, v2] := by cases args; simp_all
  obtain ⟨rfl, rfl⟩ := trodVars_none hV
  have lt0 : ∀ x ∈ p0, x.block < W.heap.size := by obtain ⟨m, hm⟩ := h0; exact DataW.trod_lt m _ _ _ hm
  obtain ⟨n, rfl, hn⟩ := open_i64 (hval 0 3 v0 rfl rfl) h0
  have lt1 : ∀ x ∈ p1, x.block < W.heap.size := by obtain ⟨m, hm⟩ := h1; exact DataW.trod_lt m _ _ _ hm
  obtain ⟨f, rfl, hf⟩ := open_i64 (hval 1 3 v1 rfl rfl) h1
  have lt2 : ∀ x ∈ p2, x.block < W.heap.size := by obtain ⟨m, hm⟩ := h2; exact DataW.trod_lt m _ _ _ hm
  obtain ⟨a, m, c, l, rfl, hl⟩ := open_proms_held (hval 2 22 v2 rfl rfl) h2 (fun n hn => by have h := List.all_eq_true.1 hsz n (DataW.weights_mem_each (j := 2) rfl rfl n hn); simpa using h)
  clear hA0 hval0
  refine (walk n f hl).mono fun e W' ⟨he, bel⟩ => ?_
  subst he
  exact ⟨_, rfl, _, _, _, [], _, [], hW', trodAll_mk1 (shut_bool Try.underlying4 _), (trodAll_cons_mk (Below.trod laidOut (by kernel_rfl) (of_decide_eq_true (by kernel_rfl)) h0 bel lt0) (trodAll_cons_mk (Below.trod laidOut (by kernel_rfl) (of_decide_eq_true (by kernel_rfl)) h1 bel lt1) (trodAll_cons_mk (Below.trod laidOut (by kernel_rfl) (of_decide_eq_true (by kernel_rfl)) h2 bel lt2) trodAll_mk0))), rfl, bel.frame _, fun h => by cases h⟩

theorem over : Rows.choosePlaysRow.holds Try.pinned (OpenSpec.ofChange Rows.choosePlaysSpec) :=
  OpenClaim.holds_of_wide 3 Try.f3 rfl rfl rfl rfl rfl rfl rfl ⟨rfl, rfl, rfl, rfl, rfl⟩ rfl rfl rfl rfl rfl (by kernel_rfl) Try.func3 (by kernel_rfl)
    (of_decide_eq_true (by kernel_rfl)) (by unfold Func.isWrapper; first | (rw [if_pos (by decide +kernel)]; kernel_rfl) | (rw [if_neg (by decide +kernel)]; exact ⟨rfl, rfl⟩))
    (fun os started H enc _ => lifted os started H enc)

theorem proved : Rows.ChoosePlaysSaid := over
#print axioms proved
end ChoosePlays
theorem choosePlays_holds : Rows.ChoosePlaysSaid := ChoosePlays.proved
end Go.Proofs.Ytjhkenmlaammnaa
