/- CodecFrames, second form: for every two lists of bytes of bounded bulk and every number: what was framed is found in the frame, whatever stands behind it; cut short it is refused. Conditions: the bound on the bulk; the table of the half bytes as the program's text lays it (the card ties it). -/
import Derived.Test.YtadjdiocipahhabDoorCodecOpen
import Derived.Test.YtadjdiocipahhabDoorCodecAwake
import Derived.Test.YtadjdiocipahhabDoorCodecAt
import Derived.Test.YtadjdiocipahhabDoorCodecUnfA
import Derived.Test.YtadjdiocipahhabDoorUptoOpen
import Derived.Test.YtadjdiocipahhabDoorCards
import Derived.Test.YtadjdiocipahhabDoorTie
import Derived.Deep.DeepHandedRow
import Derived.Lib.LaidTab
namespace Go.Proofs.YtadjdiocipahhabDoor
namespace CodecFrames
open Go.ChangeShapes Go.WideShapes Go.ChangeAt Go.RowKit B8 Cm Uf
set_option linter.unusedVariables false

theorem rem_form (c : Int) (N : Nat) (h0 : -9223372036854775808 ≤ c) (h1 : c ≤ 9223372036854775807) (hN : 0 < N) (hN2 : N ≤ 65544) : ∃ k : Nat, k < N ∧ (IntKind.u64.wrap c).tmod (N : Int) = (k : Int) := by
  rw [wrapU]
  obtain ⟨m, hm⟩ : ∃ m : Nat, c % 18446744073709551616 = m := ⟨(c % 18446744073709551616).toNat, by omega⟩
  rw [hm]
  refine ⟨m % N, Nat.mod_lt _ hN, ?_⟩
  rw [Int.ofNat_tmod]

theorem long {a : Option Addr} {len cap : Nat} {bs : List Int} {w : World} (h : Sq w a len cap bs) (v : Value) (c : Int) (h0 : 65536 < len) :
    Calls Tryd.prog 3 #[.slice a len cap, v, .int .i64 c] w fun e w' => e = .returned (.bool true) ∧ Below w.heap.size w w' := by
  have i1 : (65536 : Int) < (len : Int) := by omega
  have i2 : decide ((65536 : Int) < (len : Int)) = true := by simp; omega
  clear h
  go_enter Tryd.func3, Tryd.ntmps3
  go_wp2_with fail
  refine (cframe_long a len cap w h0).mono ?_
  rintro e w' ⟨rfl, rfl⟩
  go_wp2_with fail
  refine (awake_any _).mono ?_
  rintro e w1 ⟨rfl, b1⟩
  have B1 := hide b1
  go_wp2_with fail
  go_ret
  exact ⟨rfl, B1.out⟩

set_option maxHeartbeats 2000000 in
theorem short {a : Option Addr} {len cap : Nat} {bs : List Int} {w : World} (h : Sq w a len cap bs) {a' : Option Addr} {len' cap' : Nat} {hs : List Int} (h' : Sq w a' len' cap' hs) (hr' : cap' ≤ 1048576) (ht : Tab w) (c : Int) (c0 : -9223372036854775808 ≤ c) (c1 : c ≤ 9223372036854775807) (h0 : len ≤ 65536) :
    Calls Tryd.prog 3 #[.slice a len cap, .slice a' len' cap', .int .i64 c] w fun e w' => e = .returned (.bool true) ∧ Below w.heap.size w w' := by
  have HL := hide h.length
  have hlc' := h'.lecap
  have H := hide h
  have H' := hide h'
  have HT := hide ht
  have hl' := h'.length
  have WF := hide (fframe_wfs bs h.wf (by rw [h.length]; omega))
  have LF : (fframe bs).length = len + 8 := by rw [fframe_length, HL.out]
  have UA := unfA_frame bs hs (by rw [HL.out]; omega)
  have UC : ∀ k, k < len + 8 → unfA ((fframe bs).take k) = ([], 0, 20) := fun k hk => unfA_cut bs k (by rw [HL.out]; omega) (by rw [HL.out]; exact hk)
  have C1 := cframe_sq h ht h0
  rw [LF] at C1
  obtain ⟨N, eN⟩ : ∃ N, N = len + 8 := ⟨_, rfl⟩
  obtain ⟨F, eF⟩ : ∃ F, F = fframe bs := ⟨_, rfl⟩
  rw [← eF] at WF LF UA UC C1
  rw [← eN] at LF UC C1
  obtain ⟨k, hk, ek⟩ := rem_form c N c0 c1 (by omega) (by omega)
  have WA : Hid (wfs (F ++ hs)) := wfs_append WF.out H'.out.wf
  have LA : Hid ((F ++ hs).length = N + len') := by show _ = _; rw [List.length_append, LF, hl']
  have CU : Hid (∀ {W : World} {A : Option Addr} {C : Nat}, Sq W A (N + len') C (F ++ hs) → Tab W → Calls Tryd.prog 7 #[.slice A (N + len') C] W fun e w' => ∃ a cp, e = .returned (.tuple #[.slice a len cp, .int .i64 (N : Int), .int .i64 0]) ∧ Sq w' a len cp bs ∧ Below W.heap.size W w') := by
    intro W A C hq hT
    have := unf_land hq hT (by omega)
    unfold Unf at this
    rw [UA, HL.out] at this
    have e : (8 + (len : Int)) = (N : Int) := by omega
    rw [e] at this
    exact this
  have CC : Hid (∀ {W : World} {A : Option Addr} {C : Nat}, Sq W A k C (F.take k) → Tab W → Calls Tryd.prog 7 #[.slice A k C] W fun e w' => ∃ a cp, e = .returned (.tuple #[.slice a 0 cp, .int .i64 0, .int .i64 20]) ∧ Sq w' a 0 cp [] ∧ Below W.heap.size W w') := by
    intro W A C hq hT
    have := unf_land hq hT (by omega)
    unfold Unf at this
    rw [UC k hk] at this
    exact this
  have C1 := hide C1
  have HF := hide LF
  have hN8 : 8 ≤ N := by omega
  have hNm : N ≤ 65544 := by omega
  have iN : (len : Int) + 8 = (N : Int) := by omega
  have hkN : (k : Int) < (N : Int) := by omega
  have hk6 : (k : Int) ≤ 65544 := by omega
  have hk0 : (0 : Int) ≤ (k : Int) := by omega
  have EN := hide eN
  clear h h' ht UA UC eF LF hl' eN
  go_enter Tryd.func3, Tryd.ntmps3
  go_wp2_with fail
  refine C1.out.mono ?_
  rintro e w1 ⟨y, rfl, o1, b1⟩
  obtain ⟨af, cf, rfl, q1⟩ := sq_of_row HF.out WF.out o1
  have B1 := hide b1
  have Q1 := hide q1
  obtain ⟨bf, of, ef, _⟩ := q1.cells (by omega)
  subst ef
  clear o1 b1 q1 C1
  go_wp2_with fail
  refine (awake_any w1).mono ?_
  rintro e w2 ⟨rfl, b2⟩
  have B2 := hide (below_step B1.out b2)
  have Q2 := hide (Q1.out.below b2)
  clear b2 Q1 B1
  have R0 := hide (row_new w2 w2.heap.size (Nat.le_refl _) #[] (by decide))
  have BA := hide (Below.alloc (Below.refl w2.heap.size w2) (Nat.le_refl _) (.cells #[] 5))
  have Q2a := hide (Q2.out.below BA.out)
  go_wp2_with (first
    | (at_builtin; refine wp_append_sq _ rfl (.tmp 34) (.tmp 35) rfl w2.heap.size (.slice (some ⟨w2.heap.size, 0, none⟩) 0 0) 0 [] rfl R0.out (some ⟨bf, of, none⟩) N cf F rfl Q2a.out (by omega) BA.out.size ?_; intro v3 w3 o3 g3; have b3 : Below w2.heap.size w2 w3 := below_grown BA.out R0.out (Nat.le_refl _) g3; have B3 := hide b3; have O3 := hide o3; have H3 := hide (H'.out.below (below_step B2.out b3)); clear o3 g3 b3)
    | (at_builtin; refine wp_append_sq _ rfl (.tmp 36) (.tmp 37) rfl w2.heap.size v3 (0 + N) ([] ++ F) rfl O3.out a' len' cap' hs rfl H3.out (by omega) B3.out.size ?_; intro v4 w4 o4 g4; have B4 := hide (below_grown B3.out O3.out (Nat.le_refl _) g4); have O4 := hide o4; clear o4 g4))
  obtain ⟨a4, c4, e4, q4⟩ := sq_of_row LA.out WA.out (by have := O4.out; simp only [List.nil_append, Nat.zero_add] at this; exact this)
  have CU1 := hide (CU.out q4 (HT.out.below (below_step B2.out B4.out)))
  rw [e4]
  clear e4 q4
  refine CU1.out.mono ?_
  rintro e w5 ⟨a5, c5, rfl, q5, b5⟩
  have B5 := hide (below_step (below_step B2.out B4.out) b5)
  have Q5 := hide q5
  have F5 := hide ((Q2.out.below B4.out).below b5)
  clear b5 q5 CU1 O3 O4 B3 B4 H3 R0 BA Q2a
  have hkc : (k : Int) ≤ (cf : Int) := by have := Q2.out.lecap; omega
  have hkc' : k ≤ cf := by omega
  have CC1 := hide (CC.out (F5.out.take k (by omega)) (HT.out.below B5.out))
  go_wp2_with fail
  refine CC1.out.mono ?_
  rintro e w6 ⟨a6, c6, rfl, q6, b6⟩
  have B6 := hide (below_step B5.out b6)
  have Q6 := hide (Q5.out.below b6)
  clear b6 q6 CC1 F5 B5 Q5
  go_wp2_with fail
  refine (bytes_sq Q6.out (H.out.below B6.out) (by omega)).mono ?_
  rintro e w7 ⟨rfl, m7, rfl⟩
  go_wp2_with fail
  go_ret
  exact ⟨rfl, below_drewN B6.out _⟩

theorem walk {a : Option Addr} {len cap : Nat} {bs : List Int} {w : World} (h : Sq w a len cap bs) (hr : cap ≤ 1048576) {a' : Option Addr} {len' cap' : Nat} {hs : List Int} (h' : Sq w a' len' cap' hs) (hr' : cap' ≤ 1048576) (ht : Tab w) (c : Int) (c0 : -9223372036854775808 ≤ c) (c1 : c ≤ 9223372036854775807) :
    Calls Tryd.prog 3 #[.slice a len cap, .slice a' len' cap', .int .i64 c] w fun e w' => e = .returned (.bool true) ∧ Below w.heap.size w w' := by
  by_cases h0 : 65536 < len
  · exact long h _ c h0
  · exact short h h' hr' ht c c0 c1 (by omega)

theorem gTab : Tryd.prog.globalNamed "purse/codec.halves" = some 0 := by kernel_rfl
theorem gTabType : (Tryd.prog.globals[0]?).map (·.type) = some 54 := by kernel_rfl
theorem cellsT : Tryd.prog.cellsOf 54 = 16 := by kernel_rfl
theorem cellsE : Tryd.prog.cellsOf 32 = 1 := by kernel_rfl
theorem table {W : World} (h : laidMetH Tryd.prog Rows.codecFramesUptoRow.laid W) : Tab W := by
  have t : Lib.TabIs Tryd.prog W "purse/codec.halves" .u32 Crc.tab := Lib.tabIs_of_head (rest := []) gTab gTabType Tryd.underlying54 Tryd.underlying32 cellsE cellsT h
  intro j hj
  rw [t.cell gTab j hj]
  simp [List.getD]
theorem contract (H : Type) (enc : TypeId × Value → H) (W : World) (base : Nat) (args : Array Value) (ds gs : List (DataW H)) (before : List MemPlace)
    (hval0 : ∀ (j : Nat) t v, Tryd.f3.params[j]? = some t → args[j]? = some v → Value.okWide Tryd.prog W .any base t v)
    (hW : DataW.Whole enc Tryd.prog Tryd.f3.params.toList Rows.codecFramesSpec.vars false W args.toList ds gs before)
    (hcond : Rows.uptoSmall H (ds ++ gs) = true)
    (hsz0 : (DataW.weightsEach Tryd.prog (Tryd.f3.params.toList ++ Rows.codecFramesSpec.plain.varTypes Tryd.prog) (ds ++ gs)).all (· ≤ reachBytes) = true) (hL : laidMetH Tryd.prog Rows.codecFramesUptoRow.laid W) :
    Calls Tryd.prog 3 args W fun e W' => ∃ v, e = .returned v ∧ Rows.codecFramesSpec.post enc Tryd.prog Tryd.f3 false true false false W args v W' := by
  have hsz : (DataW.weightsEach Tryd.prog (Tryd.f3.params.toList ++ Rows.codecFramesSpec.plain.varTypes Tryd.prog) (ds ++ gs)).all (· ≤ reachBytes) = true := hsz0
  have hval : ∀ (j : Nat) t v, Tryd.f3.params[j]? = some t → args[j]? = some v → Value.okWide Tryd.prog W .any base t v := hval0
  have hW' := hW
  obtain ⟨p, q, hA0, hV, rfl, hfz, hnd⟩ := hW
  have hA : DataW.TrodAll enc Tryd.prog W 0 (fun _ => true) true Tryd.f3.params.toList args.toList ds p := hA0
  rw [Tryd.params3] at hA hval hsz
  obtain ⟨v0, vs0, d0, ds0, p0, q0, hargs, rfl, rfl, h0, r0⟩ := trodAll_cons hA
  obtain ⟨v1, vs1, d1, ds1, p1, q1, rfl, rfl, rfl, h1, r1⟩ := trodAll_cons r0
  obtain ⟨v2, vs2, d2, ds2, p2, q2, rfl, rfl, rfl, h2, r2⟩ := trodAll_cons r1
  obtain ⟨rfl, rfl, rfl⟩ := trodAll_nil r2
  obtain rfl : args = #[v0, v1, v2] := by cases args; simp_all
  obtain ⟨rfl, rfl⟩ := trodVars_none hV
  have lt0 : ∀ x ∈ p0, x.block < W.heap.size := by obtain ⟨m, hm⟩ := h0; exact DataW.trod_lt m _ _ _ hm
  obtain ⟨a, len, cap, bs, rfl, h⟩ := open_sq_bulk (hval 0 22 v0 rfl rfl) h0 (fun elems spare e => bulk_slice hcond (by rw [← e]; simp))
  have lt1 : ∀ x ∈ p1, x.block < W.heap.size := by obtain ⟨m, hm⟩ := h1; exact DataW.trod_lt m _ _ _ hm
  obtain ⟨a', len', cap', hs, rfl, h'⟩ := open_sq_bulk (hval 1 22 v1 rfl rfl) h1 (fun elems spare e => bulk_slice hcond (by rw [← e]; simp))
  have lt2 : ∀ x ∈ p2, x.block < W.heap.size := by obtain ⟨m, hm⟩ := h2; exact DataW.trod_lt m _ _ _ hm
  obtain ⟨c, rfl, cb⟩ := open_i64 (hval 2 3 v2 rfl rfl) h2
  clear hA0 hval0
  refine (walk h.1 h.2 h'.1 h'.2 (table hL) c cb.1 cb.2).mono fun e W' ⟨he, bel⟩ => ?_
  subst he
  exact ⟨_, rfl, _, _, _, [], _, [], hW', trodAll_mk1 (shut_bool Tryd.underlying4 _), (trodAll_cons_mk (Below.trod laidOut (by kernel_rfl) (of_decide_eq_true (by kernel_rfl)) h0 bel lt0) (trodAll_cons_mk (Below.trod laidOut (by kernel_rfl) (of_decide_eq_true (by kernel_rfl)) h1 bel lt1) (trodAll_cons_mk (Below.trod laidOut (by kernel_rfl) (of_decide_eq_true (by kernel_rfl)) h2 bel lt2) trodAll_mk0))), rfl, bel.frame _, fun h => by cases h⟩

noncomputable def laidWorld (os : Os) : World :=
  { World.holding Tryd.prog os ⟨#[], #[], []⟩ with heap := (World.holding Tryd.prog os ⟨#[], #[], []⟩).heap.modify 0 fun
      | .cells _ t frozen => .cells #[.int .u32 0, .int .u32 498536548, .int .u32 997073096, .int .u32 651767980, .int .u32 1994146192, .int .u32 1802195444, .int .u32 1303535960, .int .u32 1342533948, .int .u32 3988292384, .int .u32 4027552580, .int .u32 3604390888, .int .u32 3412177804, .int .u32 2607071920, .int .u32 2262029012, .int .u32 2685067896, .int .u32 3183342108] t frozen
      | o => o }
theorem laid_met (os : Os) : laidMet Tryd.prog Rows.codecFramesUptoRow.laid ((laidWorld os).forCall (fun _ _ => 0) ⟨#[], #[Value.slice none 0 0, Value.slice none 0 0, Value.int .i64 0], []⟩).memory :=
  laidMet_of_run' 8 (by kernel_rfl) (by kernel_rfl)
theorem reads (os : Os) {H : Type} (enc : TypeId × Value → H) : ∃ places, DataW.whole enc Tryd.prog ((laidWorld os).forCall (fun _ _ => 0) ⟨#[], #[Value.slice none 0 0, Value.slice none 0 0, Value.int .i64 0], []⟩).memory Tryd.f3.params.toList Rows.codecFramesSpec.vars false #[Value.slice none 0 0, Value.slice none 0 0, Value.int .i64 0].toList 8 = some ([.nil, .nil, .lit (.int .i64 0)], [], places) :=
  ⟨[], by kernel_rfl⟩
set_option maxRecDepth 100000 in
theorem lifted (os : Os) (started : os.Started) (H : Type) (enc : TypeId × Value → H) (F : Stop.Interp) :
    ReturnsInHanded {} Tryd.checked os 3 .any ((Rows.OpenSpec.upto Rows.codecFramesSpec).preRow enc Tryd.prog Tryd.f3 Rows.codecFramesUptoRow.domain false Rows.codecFramesUptoRow.laid) (((Rows.OpenSpec.upto Rows.codecFramesSpec).at F).post enc Tryd.prog Tryd.f3 false true false false) := by
  obtain ⟨places, hx⟩ := reads os enc
  refine returnsInHanded_of_row (C := Tryd.checked) (s := Rows.OpenSpec.upto Rows.codecFramesSpec) own started (by kernel_rfl) Tryd.func3
    (witness_row_at (enc := enc) (C := Tryd.checked) false (laidWorld os) #[Value.slice none 0 0, Value.slice none 0 0, Value.int .i64 0] rfl (by kernel_rfl) (by kernel_rfl) (by kernel_rfl)
      (OpenSpec.preRow_of_cond 8 hx (by kernel_rfl) (fun k hk => by cases hk; kernel_rfl) (by kernel_rfl) (laid_met os))) ?_
  intro W base args ds gs before hval hW _ hc hsz hL _ _
  exact contract H enc W base args ds gs before hval hW (hc _ rfl) hsz hL

theorem said : Rows.CodecFramesUptoSaid :=
  OpenClaim.holds_of_cond 3 Tryd.f3 rfl rfl rfl rfl rfl rfl rfl ⟨rfl, rfl, rfl, rfl, rfl⟩ rfl rfl rfl rfl rfl (by kernel_rfl) Tryd.func3 (by kernel_rfl)
    (of_decide_eq_true (by kernel_rfl)) (by unfold Func.isWrapper; first | (rw [if_pos (by decide +kernel)]; kernel_rfl) | (rw [if_neg (by decide +kernel)]; exact ⟨rfl, rfl⟩))
    (fun os started H enc _ F => by rw [OpenClaim.pre_eq_preRow]; exact lifted os started H enc F)
theorem plain (f : FuncId) (fn : Func) (hf : Tryd.pinned.checked.prog.funcNamed "purse/purselaw02.CodecFrames" = some f) (hfn : Tryd.pinned.checked.prog.funcs[f]? = some fn) :
    false = Tryd.pinned.checked.prog.looks [] ∧ ∀ (j : Nat) t, fn.params[j]? = some t → Tryd.pinned.checked.prog.wantsStandIn t = false := by
  obtain rfl : f = 3 := Option.some.inj ((show Tryd.prog.funcNamed "purse/purselaw02.CodecFrames" = some 3 by kernel_rfl).symm.trans hf) |>.symm
  obtain rfl : fn = Tryd.f3 := (Option.some.inj (Tryd.func3.symm.trans hfn)).symm
  refine ⟨by kernel_rfl, fun j t ht => ?_⟩
  rw [Tryd.params3] at ht
  have hmem := Array.mem_of_getElem? ht
  have ht2 : t = 22 ∨ t = 3 := by simp at hmem; omega
  rcases ht2 with rfl | rfl
  · exact (show Tryd.prog.wantsStandIn 22 = false by kernel_rfl)
  · exact (show Tryd.prog.wantsStandIn 3 = false by kernel_rfl)
theorem card : Rows.CodecFramesUptoCardSaid :=
  Claim7.holds_tied_plain_at .later [] _ _ _ _ said (fun _ h => by cases h) (by kernel_rfl) (fun _ h => by cases h) codecFramesUpto_row_tie rfl ⟨rfl, rfl⟩ (by kernel_rfl) rfl plain (by kernel_rfl)
#print axioms card
end CodecFrames
theorem codecFrames_holds : Rows.CodecFramesUptoCardSaid := CodecFrames.card
end Go.Proofs.YtadjdiocipahhabDoor
