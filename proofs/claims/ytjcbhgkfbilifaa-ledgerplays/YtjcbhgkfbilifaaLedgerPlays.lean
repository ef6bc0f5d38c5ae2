/- LedgerPlays: which lists are ledgers, what is put into one, and what was spent: as the document says; no condition. -/
import Derived.Test.YtjcbhgkfbilifaaLgHelp
import Derived.Test.YtjcbhgkfbilifaaLgRefC
namespace Go.Proofs.Ytjcbhgkfbilifaa
namespace LedgerPlays
open Go.ChangeShapes Go.WideShapes Go.ChangeAt Go.RowKit Ao Lg
set_option linter.unusedVariables false

theorem rnet_x {w : World} {a : Option Addr} {n c : Nat} {l : List Rt} {g ls v : Int} {k : ByteArray} (h : Rs w a n l) (e : netV l g k ls = v) :
    Calls Try.prog 23 #[.slice a n c, .int .i64 g, .string k, .int .i64 ls] w fun e w' => e = .returned (.int .i64 v) ∧ Below w.heap.size w w' := by
  subst e
  exact rnet_any h
set_option maxRecDepth 100000 in
set_option maxHeartbeats 40000000 in
theorem walk_yes {w : World} {a : Option Addr} {n c : Nat} {l : List Rt} {r : Rt} {g ls : Int} {k : ByteArray} (h : Rs w a n l) (hc : Cp a n c) (hq : n * 40 ≤ 140737488351232) (hl : ledB l = true) :
    Calls Try.prog 4 #[.slice a n c, rval r, .int .i64 g, .string k, .int .i64 ls] w fun e w' => e = .returned (.bool true) ∧ Below w.heap.size w w' := by
  have H := hide h
  have HC := hide hc
  have eC : lcheckE l = 0 := by unfold lcheckE; rw [hl]; rfl
  have RL := fun W => hide (fun hW : Below w.heap.size w W => rledger_any (c := c) (h.below hW))
  rw [hl] at RL
  obtain ⟨E, eE⟩ : ∃ E, E = putE l r := ⟨_, rfl⟩
  obtain ⟨L, eL⟩ : ∃ L, L = putL l r := ⟨_, rfl⟩
  have HEE := hide eE
  have HEL := hide eL
  have HEC := hide eC
  have RP := fun W => hide (fun hW : Below w.heap.size w W => rput_any (c := c) (r := r) (h.below hW) (by omega))
  rw [← eE, ← eL] at RP
  obtain ⟨w1, ew⟩ : ∃ w1, w1 = w.alloc (.cells #[.int .i64 r.g, .string r.k, .int .i64 r.ls, .int .i64 r.nt] 43) := ⟨_, rfl⟩
  have HB1 : Hid (Below w.heap.size w w1) := by rw [ew]; exact Below.alloc (Below.refl _ _) (Nat.le_refl _) _
  have HR1 : Hid (Rb w1 w.heap.size r) := by rw [ew]; exact rb_new w r
  clear h hc eC eE eL hl
  unfold rval at RP ⊢
  go_enter Try.func4, Try.ntmps4
  go_wp2_with fail
  rw [← ew]
  clear ew
  refine (lown_any (H.out.below HB1.out) HC.out).mono ?_
  rintro e w2 ⟨gO, rfl, hb, ho⟩
  have HB2 : Hid (Below w.heap.size w w2) := HB1.out.trans (hb.mono HB1.out.size)
  have HR2 := hide (HR1.out.below hb)
  have HO2 := hide ho
  clear hb ho
  go_wp2_with fail
  refine ((RL _).out HB2.out).mono ?_
  rintro e w3 ⟨rfl, hb⟩
  have HB3 : Hid (Below w.heap.size w w3) := HB2.out.trans (hb.mono HB2.out.size)
  have HR3 := hide (HR2.out.below hb)
  have HO3 := hide (HO2.out.below hb)
  clear hb RL HB1 HR1 HB2 HR2 HO2
  obtain ⟨d0, d1, d2, d3⟩ := HR3.out.at_
  go_wp2_with fail
  refine (lput_x HO3.out.rs (by omega) HEE.out.symm HEL.out.symm).mono ?_
  rintro e w4 ⟨a4, n4, c4, rfl, hL, hb, _, _⟩
  have HB4 : Hid (Below w.heap.size w w4) := HB3.out.trans (hb.mono HB3.out.size)
  have HR4 := hide (HR3.out.below hb)
  have HO4 := hide (HO3.out.below hb)
  have HL4 := hide hL
  clear hb hL d0 d1 d2 d3 HB3 HR3 HO3
  obtain ⟨d0, d1, d2, d3⟩ := HR4.out.at_
  go_wp2_with fail
  refine ((RP _).out HB4.out).mono ?_
  rintro e w5 ⟨a5, n5, c5, rfl, hL, hb⟩
  have HB5 : Hid (Below w.heap.size w w5) := HB4.out.trans (hb.mono HB4.out.size)
  have HR5 := hide (HR4.out.below hb)
  have HO5 := hide (HO4.out.below hb)
  have HL5 := hide (HL4.out.below hb)
  have HM5 := hide hL
  clear hb hL d0 d1 d2 d3 RP HB4 HR4 HO4 HL4
  obtain ⟨d0, d1, d2, d3⟩ := HR5.out.at_
  have AW := fun W => hide (lawake_any W)
  have CK := fun W => hide (fun hW : Below w5.heap.size w5 W => lcheck_x (c := n + 2) (HO5.out.below hW).rs HEC.out)
  have PL := fun W => hide (fun hW : Below w5.heap.size w5 W => rplain_yes (c := c4) (c' := c5) (HL5.out.below hW) (HM5.out.below hW) rfl)
  have NA := fun (g : Int) (k : ByteArray) (ls : Int) W => hide (fun hW : Below w5.heap.size w5 W => lnet_any (c := n + 2) (g := g) (k := k) (ls := ls) (HO5.out.below hW).rs)
  have NB := fun (g : Int) (k : ByteArray) (ls : Int) W => hide (fun hW : Below w5.heap.size w5 W => rnet_any (c := c) (g := g) (k := k) (ls := ls) (H.out.below (HB5.out.trans (hW.mono HB5.out.size))))
  have KP := fun W => hide (fun hW : Below w5.heap.size w5 W => lkept_any (cap := c) (H.out.below (HB5.out.trans (hW.mono HB5.out.size))) (HO5.out.below hW))
  go_wp2_with fail
  obtain ⟨q, eq⟩ : ∃ q, q = w.heap.size := ⟨_, rfl⟩
  have HQ := hide eq
  rw [← eq] at d0 d1 d2 d3 ⊢
  clear eq
  refine wp_region_cells w5 [(⟨q, 0, none⟩, .int .i64 r.g), (⟨q, 1, none⟩, .string r.k), (⟨q, 2, none⟩, .int .i64 r.ls), (⟨q, 3, none⟩, .int .i64 r.nt)] (by kernel_rfl) (by kernel_rfl) (Below.refl _ _) (by simp [AllCells, d0, d1, d2, d3]) ?_
  intro hne qq
  simp only [AllCells, and_true] at qq
  clear d0 d1 d2 d3
  repeat (go_big_quiet_step (first | (go_at_call 19; exact Held.call _ (AW _).out) | (go_at_call 20; exact Held.call _ ((CK _).out (Held.below _))) | (go_at_call 21; exact Held.call _ ((PL _).out (Held.below _))) | (go_at_call 22; exact Held.call _ ((NA _ _ _ _).out (Held.below _))) | (go_at_call 23; exact Held.call _ ((NB _ _ _ _).out (Held.below _))) | (go_at_call 24; exact Held.call _ ((KP _).out (Held.below _)))))
  refine wpQuiet_nil ?_
  rintro _ ⟨y9, rfl⟩
  have HB9 : Hid (Below w.heap.size w y9.x) := HB5.out.trans (y9.below.mono HB5.out.size)
  clear qq hne
  go_wp2_with fail
  go_returns
  exact ⟨rfl, HB9.out⟩
set_option maxRecDepth 100000 in
set_option maxHeartbeats 40000000 in
theorem walk_no {w : World} {a : Option Addr} {n c : Nat} {l : List Rt} {r : Rt} {g ls : Int} {k : ByteArray} (h : Rs w a n l) (hc : Cp a n c) (hq : n * 40 ≤ 140737488351232) (hl : ledB l = false) :
    Calls Try.prog 4 #[.slice a n c, rval r, .int .i64 g, .string k, .int .i64 ls] w fun e w' => e = .returned (.bool true) ∧ Below w.heap.size w w' := by
  have H := hide h
  have HC := hide hc
  have eC : lcheckE l = 21 := by unfold lcheckE; rw [hl]; rfl
  have RL := fun W => hide (fun hW : Below w.heap.size w W => rledger_any (c := c) (h.below hW))
  rw [hl] at RL
  obtain ⟨E, eE⟩ : ∃ E, E = putE l r := ⟨_, rfl⟩
  obtain ⟨L, eL⟩ : ∃ L, L = putL l r := ⟨_, rfl⟩
  have HEE := hide eE
  have HEL := hide eL
  have HEC := hide eC
  have RP := fun W => hide (fun hW : Below w.heap.size w W => rput_any (c := c) (r := r) (h.below hW) (by omega))
  rw [← eE, ← eL] at RP
  obtain ⟨w1, ew⟩ : ∃ w1, w1 = w.alloc (.cells #[.int .i64 r.g, .string r.k, .int .i64 r.ls, .int .i64 r.nt] 43) := ⟨_, rfl⟩
  have HB1 : Hid (Below w.heap.size w w1) := by rw [ew]; exact Below.alloc (Below.refl _ _) (Nat.le_refl _) _
  have HR1 : Hid (Rb w1 w.heap.size r) := by rw [ew]; exact rb_new w r
  clear h hc eC eE eL hl
  unfold rval at RP ⊢
  go_enter Try.func4, Try.ntmps4
  go_wp2_with fail
  rw [← ew]
  clear ew
  refine (lown_any (H.out.below HB1.out) HC.out).mono ?_
  rintro e w2 ⟨gO, rfl, hb, ho⟩
  have HB2 : Hid (Below w.heap.size w w2) := HB1.out.trans (hb.mono HB1.out.size)
  have HR2 := hide (HR1.out.below hb)
  have HO2 := hide ho
  clear hb ho
  go_wp2_with fail
  refine ((RL _).out HB2.out).mono ?_
  rintro e w3 ⟨rfl, hb⟩
  have HB3 : Hid (Below w.heap.size w w3) := HB2.out.trans (hb.mono HB2.out.size)
  have HR3 := hide (HR2.out.below hb)
  have HO3 := hide (HO2.out.below hb)
  clear hb RL HB1 HR1 HB2 HR2 HO2
  obtain ⟨d0, d1, d2, d3⟩ := HR3.out.at_
  go_wp2_with fail
  refine (lput_x HO3.out.rs (by omega) HEE.out.symm HEL.out.symm).mono ?_
  rintro e w4 ⟨a4, n4, c4, rfl, hL, hb, _, _⟩
  have HB4 : Hid (Below w.heap.size w w4) := HB3.out.trans (hb.mono HB3.out.size)
  have HR4 := hide (HR3.out.below hb)
  have HO4 := hide (HO3.out.below hb)
  have HL4 := hide hL
  clear hb hL d0 d1 d2 d3 HB3 HR3 HO3
  obtain ⟨d0, d1, d2, d3⟩ := HR4.out.at_
  go_wp2_with fail
  refine ((RP _).out HB4.out).mono ?_
  rintro e w5 ⟨a5, n5, c5, rfl, hL, hb⟩
  have HB5 : Hid (Below w.heap.size w w5) := HB4.out.trans (hb.mono HB4.out.size)
  have HR5 := hide (HR4.out.below hb)
  have HO5 := hide (HO4.out.below hb)
  have HL5 := hide (HL4.out.below hb)
  have HM5 := hide hL
  clear hb hL d0 d1 d2 d3 RP HB4 HR4 HO4 HL4
  obtain ⟨d0, d1, d2, d3⟩ := HR5.out.at_
  have AW := fun W => hide (lawake_any W)
  have CK := fun W => hide (fun hW : Below w5.heap.size w5 W => lcheck_x (c := n + 2) (HO5.out.below hW).rs HEC.out)
  have PL := fun W => hide (fun hW : Below w5.heap.size w5 W => rplain_yes (c := c4) (c' := c5) (HL5.out.below hW) (HM5.out.below hW) rfl)
  have NA := fun (g : Int) (k : ByteArray) (ls : Int) W => hide (fun hW : Below w5.heap.size w5 W => lnet_any (c := n + 2) (g := g) (k := k) (ls := ls) (HO5.out.below hW).rs)
  have NB := fun (g : Int) (k : ByteArray) (ls : Int) W => hide (fun hW : Below w5.heap.size w5 W => rnet_any (c := c) (g := g) (k := k) (ls := ls) (H.out.below (HB5.out.trans (hW.mono HB5.out.size))))
  have KP := fun W => hide (fun hW : Below w5.heap.size w5 W => lkept_any (cap := c) (H.out.below (HB5.out.trans (hW.mono HB5.out.size))) (HO5.out.below hW))
  go_wp2_with fail
  obtain ⟨q, eq⟩ : ∃ q, q = w.heap.size := ⟨_, rfl⟩
  have HQ := hide eq
  rw [← eq] at d0 d1 d2 d3 ⊢
  clear eq
  refine wp_region_cells w5 [(⟨q, 0, none⟩, .int .i64 r.g), (⟨q, 1, none⟩, .string r.k), (⟨q, 2, none⟩, .int .i64 r.ls), (⟨q, 3, none⟩, .int .i64 r.nt)] (by kernel_rfl) (by kernel_rfl) (Below.refl _ _) (by simp [AllCells, d0, d1, d2, d3]) ?_
  intro hne qq
  simp only [AllCells, and_true] at qq
  clear d0 d1 d2 d3
  repeat (go_big_quiet_step (first | (go_at_call 19; exact Held.call _ (AW _).out) | (go_at_call 20; exact Held.call _ ((CK _).out (Held.below _))) | (go_at_call 21; exact Held.call _ ((PL _).out (Held.below _))) | (go_at_call 22; exact Held.call _ ((NA _ _ _ _).out (Held.below _))) | (go_at_call 23; exact Held.call _ ((NB _ _ _ _).out (Held.below _))) | (go_at_call 24; exact Held.call _ ((KP _).out (Held.below _)))))
  refine wpQuiet_nil ?_
  rintro _ ⟨y9, rfl⟩
  have HB9 : Hid (Below w.heap.size w y9.x) := HB5.out.trans (y9.below.mono HB5.out.size)
  clear qq hne
  go_wp2_with fail
  go_returns
  exact ⟨rfl, HB9.out⟩
theorem walk {w : World} {a : Option Addr} {n c : Nat} {l : List Rt} {r : Rt} {g ls : Int} {k : ByteArray} (h : Rs w a n l) (hc : Cp a n c) (hq : n * 40 ≤ 140737488351232) :
    Calls Try.prog 4 #[.slice a n c, rval r, .int .i64 g, .string k, .int .i64 ls] w fun e w' => e = .returned (.bool true) ∧ Below w.heap.size w w' := by
  cases hl : ledB l
  · exact walk_no h hc hq hl
  · exact walk_yes h hc hq hl

set_option maxRecDepth 100000 in
theorem lifted (os : Os) (started : os.Started) (H : Type) (enc : TypeId × Value → H) :
    ReturnsInHanded {} Try.checked os 4 .any (Rows.ledgerPlaysSpec.pre6 enc Try.prog Try.f4 Rows.ledgerPlaysRow.domain false) (Rows.ledgerPlaysSpec.post enc Try.prog Try.f4 false true false false) := by
  refine returnsInHanded_of_change_sized (C := Try.checked) own started (by kernel_rfl) Try.func4
    (ChangeSpec.witness6 (enc := enc) (C := Try.checked) false ⟨#[], #[.slice none 0 0, .agg #[.int .i64 0, .string ByteArray.empty, .int .i64 0, .int .i64 0], .int .i64 0, .string ByteArray.empty, .int .i64 0], []⟩ 8 (by kernel_rfl) (by kernel_rfl) (by kernel_rfl) (by kernel_rfl)) ?_
  intro W base args ds gs before hval0 hW hcnd hsz0 _
  have hsz : (DataW.weightsEach Try.prog (Try.f4.params.toList ++ Rows.ledgerPlaysSpec.plain.varTypes Try.prog) (ds ++ gs)).all (· ≤ reachBytes) = true := hsz0
  have hval : ∀ (j : Nat) t v, Try.f4.params[j]? = some t → args[j]? = some v → Value.okWide Try.prog W .any base t v := hval0
  have hW' := hW
  obtain ⟨p, q, hA0, hV, rfl, hfz, hnd⟩ := hW
  have hA : DataW.TrodAll enc Try.prog W 0 (fun _ => true) true Try.f4.params.toList args.toList ds p := hA0
  rw [Try.params4] at hA hval hsz
  obtain ⟨v0, vs0, d0, ds0, p0, q0, hargs, rfl, rfl, h0, r0⟩ := trodAll_cons hA
  obtain ⟨v1, vs1, d1, ds1, p1, q1, rfl, rfl, rfl, h1, r1⟩ := trodAll_cons r0
  obtain ⟨v2, vs2, d2, ds2, p2, q2, rfl, rfl, rfl, h2, r2⟩ := trodAll_cons r1
  obtain ⟨v3, vs3, d3, ds3, p3, q3, rfl, rfl, rfl, h3, r3⟩ := trodAll_cons r2
  obtain ⟨v4, vs4, d4, ds4, p4, q4, rfl, rfl, rfl, h4, r4⟩ := trodAll_cons r3
  obtain ⟨rfl, rfl, rfl⟩ := trodAll_nil r4
  obtain rfl : args = #[v0, v1, v2, v3, v4] := by cases args; simp_all
  obtain ⟨rfl, rfl⟩ := trodVars_none hV
  have lt0 : ∀ x ∈ p0, x.block < W.heap.size := by obtain ⟨m, hm⟩ := h0; exact DataW.trod_lt m _ _ _ hm
  obtain ⟨a, n, c, l, rfl, k0, kw0, kc0, kq0⟩ := open_rights_held (hval 0 41 v0 rfl rfl) h0 (fun n hn => by have h := List.all_eq_true.1 hsz n (DataW.weights_mem_each (j := 0) rfl rfl n hn); simpa using h)
  have lt1 : ∀ x ∈ p1, x.block < W.heap.size := by obtain ⟨m, hm⟩ := h1; exact DataW.trod_lt m _ _ _ hm
  obtain ⟨r, rfl, hr⟩ := open_right_held (hval 1 43 v1 rfl rfl) h1 (fun n hn => by have h := List.all_eq_true.1 hsz n (DataW.weights_mem_each (j := 1) rfl rfl n hn); simpa using h)
  have lt2 : ∀ x ∈ p2, x.block < W.heap.size := by obtain ⟨m, hm⟩ := h2; exact DataW.trod_lt m _ _ _ hm
  obtain ⟨g, rfl, hg⟩ := open_i64 (hval 2 3 v2 rfl rfl) h2
  have lt3 : ∀ x ∈ p3, x.block < W.heap.size := by obtain ⟨m, hm⟩ := h3; exact DataW.trod_lt m _ _ _ hm
  obtain ⟨k, rfl, hk⟩ := open_str (hval 3 9 v3 rfl rfl) h3
  have lt4 : ∀ x ∈ p4, x.block < W.heap.size := by obtain ⟨m, hm⟩ := h4; exact DataW.trod_lt m _ _ _ hm
  obtain ⟨ls, rfl, hls⟩ := open_i64 (hval 4 3 v4 rfl rfl) h4
  clear hA0 hval0
  refine (walk k0 kc0 kq0).mono fun e W' ⟨he, bel⟩ => ?_
  subst he
  exact ⟨_, rfl, _, _, _, [], _, [], hW', trodAll_mk1 (shut_bool Try.underlying4 _), (trodAll_cons_mk (Below.trod laidOut (by kernel_rfl) (of_decide_eq_true (by kernel_rfl)) h0 bel lt0) (trodAll_cons_mk (Below.trod laidOut (by kernel_rfl) (of_decide_eq_true (by kernel_rfl)) h1 bel lt1) (trodAll_cons_mk (Below.trod laidOut (by kernel_rfl) (of_decide_eq_true (by kernel_rfl)) h2 bel lt2) (trodAll_cons_mk (Below.trod laidOut (by kernel_rfl) (of_decide_eq_true (by kernel_rfl)) h3 bel lt3) (trodAll_cons_mk (Below.trod laidOut (by kernel_rfl) (of_decide_eq_true (by kernel_rfl)) h4 bel lt4) trodAll_mk0))))), rfl, bel.frame _, fun h => by cases h⟩

theorem over : Rows.ledgerPlaysRow.holds Try.pinned (OpenSpec.ofChange Rows.ledgerPlaysSpec) :=
  OpenClaim.holds_of_wide 4 Try.f4 rfl rfl rfl rfl rfl rfl rfl ⟨rfl, rfl, rfl, rfl, rfl⟩ rfl rfl rfl rfl rfl (by kernel_rfl) Try.func4 (by kernel_rfl)
    (of_decide_eq_true (by kernel_rfl)) (by unfold Func.isWrapper; first | (rw [if_pos (by decide +kernel)]; kernel_rfl) | (rw [if_neg (by decide +kernel)]; exact ⟨rfl, rfl⟩))
    (fun os started H enc _ => lifted os started H enc)

theorem proved : Rows.LedgerPlaysSaid := over
#print axioms proved
end LedgerPlays
theorem ledgerPlays_holds : Rows.LedgerPlaysSaid := LedgerPlays.proved
end Go.Proofs.Ytjcbhgkfbilifaa
