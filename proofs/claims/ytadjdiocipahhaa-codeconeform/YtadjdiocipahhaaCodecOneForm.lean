/- CodecOneForm: for every list of bytes: what is read of it as a number, an int, a text, written again, is these bytes. No condition but what an argument may be. -/
import Derived.Test.YtadjdiocipahhaaCodecOpen
import Derived.Test.YtadjdiocipahhaaCodecAwake
import Derived.Test.YtadjdiocipahhaaCodecText
import Derived.Test.YtadjdiocipahhaaCodecAt
import Derived.Test.YtadjdiocipahhaaCodecOneMath
namespace Go.Proofs.Ytadjdiocipahhaa
namespace CodecOneForm
open Go.ChangeShapes Go.WideShapes Go.ChangeAt Go.RowKit B8 Cm
set_option linter.unusedVariables false

set_option maxHeartbeats 2000000 in
theorem walk {a : Option Addr} {len cap : Nat} {bs : List Int} {w : World} (h : Sq w a len cap bs) (hr : cap * 1 ≤ 140737488351232) :
    Calls Try.prog 6 #[.slice a len cap] w fun e w' => e = .returned (.bool true) ∧ Below w.heap.size w w' := by
  have HL := hide h.length
  have hlc := h.lecap
  have H := hide h
  have HB := hide (bs_bd h.wf)
  have hlen : len ≤ 140737488351232 := by omega
  clear h
  go_enter Try.func6, Try.ntmps6
  go_wp2_with fail
  refine (cnew_any H.out (by omega)).mono ?_
  rintro e w1 ⟨R1, rfl, ⟨a1, p1, r1, f1⟩, b1, hR1⟩
  have LR1 := World.block_lt_of_cell? w1 _ r1.c0
  have B1 := hide b1
  have H1 := hide (H.out.below b1)
  have K1 := hide r1
  have F1 := hide f1
  clear r1 f1 b1
  go_wp2_with fail
  refine (cnew_any H1.out (by omega)).mono ?_
  rintro e w2 ⟨R2, rfl, ⟨a2, p2, r2, f2⟩, b2, hR2⟩
  have LR2 := World.block_lt_of_cell? w2 _ r2.c0
  have B2 := hide (below_step B1.out b2)
  have H2 := hide (H1.out.below b2)
  have K1' := hide (K1.out.grown (grown_below b2 none) (by simp) (by simp))
  have K2 := hide r2
  have F2 := hide f2
  have hs12 := b2.size
  clear r2 f2 b2 K1 B1 H1
  go_wp2_with fail
  refine (cnew_any H2.out (by omega)).mono ?_
  rintro e w3 ⟨R3, rfl, ⟨a3, p3, r3, f3⟩, b3, hR3⟩
  have LR3 := World.block_lt_of_cell? w3 _ r3.c0
  have B3 := hide (below_step B2.out b3)
  have K1 := hide (K1'.out.grown (grown_below b3 none) (by simp) (by simp))
  have K2' := hide (K2.out.grown (grown_below b3 none) (by simp) (by simp))
  have K3 := hide r3
  have F3 := hide f3
  have hs23 := b3.size
  clear r3 f3 b3 K1' K2 B2 H2
  go_wp2_with fail
  refine (awake_any w3).mono ?_
  rintro e w4 ⟨rfl, b4⟩
  have B4 := hide (below_step B3.out b4)
  have K1' := hide (K1.out.grown (grown_below b4 none) (by simp) (by simp))
  have K2 := hide (K2'.out.grown (grown_below b4 none) (by simp) (by simp))
  have K3' := hide (K3.out.grown (grown_below b4 none) (by simp) (by simp))
  clear b4 K1 K2' K3 B3
  have A21 : Hid (∀ b off, a2 = some ⟨b, off, none⟩ → some b ≠ some R1) := fun b off e => by have := F2.out b off e; simp; omega
  have A31 : Hid (∀ b off, a3 = some ⟨b, off, none⟩ → some b ≠ some R1) := fun b off e => by have := F3.out b off e; simp; omega
  have A32 : Hid (∀ b off, a3 = some ⟨b, off, none⟩ → some b ≠ some R2) := fun b off e => by have := F3.out b off e; simp; omega
  have A12 : Hid (∀ b off, a1 = some ⟨b, off, none⟩ → some b ≠ some R2) := fun b off e => by have := F1.out b off e; simp; omega
  have A13 : Hid (∀ b off, a1 = some ⟨b, off, none⟩ → some b ≠ some R3) := fun b off e => by have := F1.out b off e; simp; omega
  have A23 : Hid (∀ b off, a2 = some ⟨b, off, none⟩ → some b ≠ some R3) := fun b off e => by have := F2.out b off e; simp; omega
  have n12 : Hid (some R1 ≠ some R2) := by intro e; cases e; omega
  have n13 : Hid (some R1 ≠ some R3) := by intro e; cases e; omega
  have n23 : Hid (some R2 ≠ some R3) := by intro e; cases e; omega
  have hR1' : w.heap.size ≤ R1 := hR1
  have hR2' : w.heap.size ≤ R2 := by omega
  have hR3' : w.heap.size ≤ R3 := by omega
  clear F1 F2 F3 LR1 LR2 LR3 hs12 hs23 hR1 hR2 hR3
  go_wp2_with fail
  refine (cnum_any (s := ⟨0, 0⟩) K1'.out).mono ?_
  rintro e w5 ⟨rfl, r5, g5⟩
  have B5 := hide (below_row B4.out hR1' g5)
  have K1 := hide r5
  have K2' := hide (K2.out.grown g5 (Ne.symm n12.out) A21.out)
  have K3 := hide (K3'.out.grown g5 (Ne.symm n13.out) A31.out)
  clear r5 g5 K1' K2 K3' B4
  go_wp2_with fail
  refine (cint_any (s := ⟨0, 0⟩) K2'.out).mono ?_
  rintro e w6 ⟨rfl, r6, g6⟩
  have B6 := hide (below_row B5.out hR2' g6)
  have K1' := hide (K1.out.grown g6 n12.out A12.out)
  have K2 := hide r6
  have K3' := hide (K3.out.grown g6 (Ne.symm n23.out) A32.out)
  clear r6 g6 K1 K2' K3 B5
  go_wp2_with fail
  refine (ctext_any (s := ⟨0, 0⟩) (len : Int) (by omega) K3'.out).mono ?_
  rintro e w7 ⟨x7, rfl, ⟨a7, c7, rfl, m7⟩, r7, g7⟩
  have B7 := hide (below_row B6.out hR3' g7)
  have K1 := hide (K1'.out.grown g7 n13.out A13.out)
  have K2' := hide (K2.out.grown g7 n23.out A23.out)
  have K3 := hide r7
  have M7 := hide m7.sq
  clear r7 g7 K1' K2 K3' B6 m7
  have T1 := hide (text_le bs (len : Int))
  by_cases hG : (numG bs 0 0).e = 0
  · obtain ⟨en, et, u1, u2, u3⟩ := one_num bs HB.out hG
    have ei : intA bs ⟨0, 0⟩ = ⟨zag (numG bs 0 0).v, ⟨(numG bs 0 0).used, 0⟩⟩ := by unfold intA; rw [en]
    have hv := numG_lt bs 0 0 (by omega) (by simp) HB.out
    have T3 := one_text bs HB.out (len : Int)
    obtain ⟨A3, e3⟩ : ∃ A3, A3 = textA bs (len : Int) ⟨0, 0⟩ := ⟨_, rfl⟩
    rw [← e3] at K3 M7 T1 T3 ⊢
    clear e3
    rw [en] at K1 ⊢
    rw [ei] at K2' ⊢
    clear en ei hG
    obtain ⟨v, ev⟩ : ∃ v, v = (numG bs 0 0).v := ⟨_, rfl⟩
    obtain ⟨k, ek⟩ : ∃ k, k = (numG bs 0 0).used := ⟨_, rfl⟩
    rw [← ev] at et hv ⊢
    rw [← ek] at K1 K2' et u1 u2 u3
    clear ev ek
    obtain ⟨ts, q3, x3⟩ := A3
    have HT := hide et
    have ht : ts.length ≤ len := by have := T1.out; rw [HL.out] at this; exact this
    have hk : k ≤ len := by rw [← HL.out]; exact u3
    have T3 := hide T3
    clear T1 et u3
    go_wp2_with fail
    refine (cfault_any (s := ⟨k, 0⟩) K1.out).mono ?_
    rintro e w8 ⟨rfl, m8, e8⟩
    rw [show faultA ⟨k, 0⟩ = (0, 0) from rfl]
    have B8 := hide (below_drewN B7.out m8)
    have K1' := hide (K1.out.drewN m8)
    have K2 := hide (K2'.out.drewN m8)
    have K3' := hide (K3.out.drewN m8)
    have M8 := hide (M7.out.drew m8)
    rw [← e8] at B8 K1' K2 K3' M8
    clear e8 K1 K2' K3 M7 B7
    obtain ⟨d, ed⟩ : ∃ d, d = len - k := ⟨_, rfl⟩
    have CL := cleft_any K1'.out
    rw [← ed] at CL
    have CL := hide CL
    have i1 : (len : Int) - (d : Int) = (k : Int) := by omega
    have HD := hide ed
    clear ed
    go_wp2_with fail
    refine CL.out.mono ?_
    rintro e w9 ⟨rfl, m9, e9⟩
    have B9 := hide (below_drewN B8.out m9)
    have K1 := hide (K1'.out.drewN m9)
    have K2' := hide (K2.out.drewN m9)
    have K3 := hide (K3'.out.drewN m9)
    have M9 := hide (M8.out.drew m9)
    rw [← e9] at B9 K1 K2' K3 M9
    clear e9 K1' K2 K3' M8 B8 CL
    have LK := hide (show (bs.take k).length = k by rw [List.length_take, HL.out]; omega)
    have WK := hide (wfs_take H.out.wf k)
    have CW : Hid (∀ W, Calls Try.prog 23 #[.int .u64 v] W fun e w' => ∃ x, e = .returned x ∧ w'.ownsRow W.heap.size 5 1 x k (vals (bs.take k)) ∧ Below W.heap.size W w') := by
      intro W
      have := cnumw_any v W hv
      rw [← HT.out, LK.out] at this
      exact this
    have zb : -9223372036854775808 ≤ zag v ∧ zag v ≤ 9223372036854775807 := by unfold zag; split <;> omega
    have CI : Hid (∀ W, Calls Try.prog 24 #[.int .i64 (zag v)] W fun e w' => ∃ x, e = .returned x ∧ w'.ownsRow W.heap.size 5 1 x k (vals (bs.take k)) ∧ Below W.heap.size W w') := by
      intro W
      have := cintw_any (zag v) W zb.1 zb.2
      rw [zig_zag, ← HT.out, LK.out] at this
      exact this
    obtain ⟨z, ez⟩ : ∃ z, z = zag v := ⟨_, rfl⟩
    rw [← ez] at CI
    rw [← ez]
    clear zb ez
    obtain ⟨b0, o0, ea, _⟩ := H.out.cells (by omega)
    subst ea
    have K1e := hide (K1.out.drewN 1)
    have K2e := hide (K2'.out.drewN 1)
    have K3e := hide (K3.out.drewN 1)
    have Me := hide (M9.out.drew 1)
    have Be := hide (below_drewN B9.out 1)
    have CLd : Hid (∀ (W : World) (R : Nat) (A : Option Addr) (C : Nat), Rd W R A len C bs k 0 → Calls Try.prog 13 #[.pointer (some ⟨R, 0, none⟩)] W fun e w' => e = .returned (.int .i64 (d : Int)) ∧ ∃ m, w' = W.drewN m) := by
      intro W R A C hrd
      have := cleft_any hrd
      rw [← HD.out] at this
      exact this
    have u2' : decide ((10 : Int) < (k : Int)) = false := by simp; omega
    have u1' : decide ((k : Int) < 1) = false := by simp; omega
    have u4' : ¬ k = 0 := by omega
    have hkc : k ≤ cap := by omega
    have hkc' : (k : Int) ≤ (cap : Int) := by omega
    go_wp2_with fail
    go_region_held3 (fun _ => True) (trivial) ((first
      | (go_at_call 23; refine (CW.out _).mono ?_; rintro e wa ⟨xa, rfl, oa, ba⟩; obtain ⟨aa, ca, rfl, qa⟩ := sq_of_row LK.out WK.out oa; have Ba := hide (below_step Be.out ba); have K1a := hide (K1e.out.grown (grown_below ba none) (by simp) (by simp)); have K2a := hide (K2e.out.grown (grown_below ba none) (by simp) (by simp)); have K3a := hide (K3e.out.grown (grown_below ba none) (by simp) (by simp)); have Ma := hide (Me.out.below ba); have Ha := hide ((H.out.below Ba.out).take k hk); clear oa ba)
      | (go_at_call_of 26 (#[Value.slice aa k ca, Value.slice (some (Addr.mk b0 o0 none)) k cap]); refine (bytes_sq qa Ha.out (by omega)).mono ?_; rintro e wb ⟨rfl, mb, rfl⟩; have Bb := hide (below_drewN Ba.out mb); have K1b := hide (K1a.out.drewN mb); have K2b := hide (K2a.out.drewN mb); have K3b := hide (K3a.out.drewN mb); have Mb := hide (Ma.out.drew mb))
      | (go_at_call 24; refine (CI.out _).mono ?_; rintro e wc ⟨xc, rfl, oc, bc⟩; obtain ⟨ac, cc, rfl, qc⟩ := sq_of_row LK.out WK.out oc; have Bc := hide (below_step Bb.out bc); have K1c := hide (K1b.out.grown (grown_below bc none) (by simp) (by simp)); have K2c := hide (K2b.out.grown (grown_below bc none) (by simp) (by simp)); have K3c := hide (K3b.out.grown (grown_below bc none) (by simp) (by simp)); have Mc := hide (Mb.out.below bc); have Hc := hide ((H.out.below Bc.out).take k hk); clear oc bc)
      | (go_at_call_of 26 (#[Value.slice ac k cc, Value.slice (some (Addr.mk b0 o0 none)) k cap]); refine (bytes_sq qc Hc.out (by omega)).mono ?_; rintro e wd ⟨rfl, md, rfl⟩; have Bd := hide (below_drewN Bc.out md); have K1d := hide (K1c.out.drewN md); have K2d := hide (K2c.out.drewN md); have K3d := hide (K3c.out.drewN md); have Md := hide (Mc.out.drew md))
      | (go_at_call_of 13 (#[Value.pointer (some (Addr.mk R2 0 none))]); refine (CLd.out _ R2 _ _ K2d.out).mono ?_; rintro e we ⟨rfl, me, rfl⟩; have K1f := hide (K1c.out.drewN (md + me)))
      | (go_at_call_of 13 (#[Value.pointer (some (Addr.mk R1 0 none))]); refine (CLd.out _ R1 _ _ K1f.out).mono ?_; rintro e wf ⟨rfl, mf, rfl⟩; have Bg := hide (below_drewN Bc.out (md + me + mf)); have K3g := hide (K3c.out.drewN (md + me + mf)); have Mg := hide (Mc.out.drew (md + me + mf)))))
    obtain ⟨wg, eg⟩ : ∃ wg, wg = wc.drewN (md + me + mf) := ⟨_, rfl⟩
    rw [← eg] at Bg K3g Mg ⊢
    clear eg K1a K2a K3a Ma Ha K1b K2b K3b Mb K1c K2c K3c Mc Hc K1d K2d K3d Md K1f qa qc Ba Bb Bc Bd CW CI CLd K1e K2e K3e Me Be K1 K2' K3 M9 B9
    by_cases hx3 : x3 = 0
    · subst hx3
      obtain ⟨t1, t2⟩ := T3.out rfl
      have hq3 : q3 ≤ len := by rw [← HL.out]; exact t2
      have t1' : numB ts.length ++ ts = bs.take q3 := t1
      have TT := hide t1'
      have lq : Hid ((bs.take q3).length = q3) := by show _ = _; rw [List.length_take, HL.out]; omega
      have wq := hide (wfs_take H.out.wf q3)
      clear t1 t1' t2 T3
      go_wp2_with fail
      refine (cfault_any (s := ⟨q3, 0⟩) K3g.out).mono ?_
      rintro e wh ⟨rfl, mh, eh⟩
      rw [show faultA ⟨q3, 0⟩ = (0, 0) from rfl]
      have Bh := hide (below_drewN Bg.out mh)
      have K3h := hide (K3g.out.drewN mh)
      have Mh := hide (Mg.out.drew mh)
      rw [← eh] at Bh K3h Mh
      clear eh Bg K3g Mg
      have CT := ctextw_sq Mh.out (by omega)
      rw [TT.out, lq.out] at CT
      have CT := hide CT
      go_wp2_with fail
      refine CT.out.mono ?_
      rintro e wi ⟨xi, rfl, oi, bi⟩
      obtain ⟨ai, ci, rfl, qi⟩ := sq_of_row lq.out wq.out oi
      have Bi := hide (below_step Bh.out bi)
      have K3i := hide (K3h.out.grown (grown_below bi none) (by simp) (by simp))
      have QI := hide qi
      clear oi bi qi CT K3h Bh Mh
      obtain ⟨d3, ed3⟩ : ∃ d3, d3 = len - q3 := ⟨_, rfl⟩
      have CL3 := cleft_any K3i.out
      rw [← ed3] at CL3
      have CL3 := hide CL3
      have i3 : (len : Int) - (d3 : Int) = (q3 : Int) := by omega
      clear ed3
      have h3c : q3 ≤ cap := by omega
      have h3c' : (q3 : Int) ≤ (cap : Int) := by omega
      go_wp2_with fail
      refine CL3.out.mono ?_
      rintro e wj ⟨rfl, mj, ej⟩
      have Bj := hide (below_drewN Bi.out mj)
      have QJ := hide (QI.out.drew mj)
      rw [← ej] at Bj QJ
      have HJ := hide ((H.out.below Bj.out).take q3 hq3)
      clear ej Bi K3i QI CL3
      go_wp2_with fail
      refine (bytes_sq QJ.out HJ.out (by omega)).mono ?_
      rintro e wk ⟨rfl, mk, rfl⟩
      go_wp2_with fail
      go_ret
      exact ⟨rfl, below_drewN Bj.out _⟩
    · have b3 : (x3 != 0) = true := by simpa using hx3
      have HF3 : Hid (faultA ⟨q3, x3⟩ = (x3, (q3 : Int))) := if_neg hx3
      go_wp2_with fail
      refine (cfault_any (s := ⟨q3, x3⟩) K3g.out).mono ?_
      rintro e wh ⟨rfl, mh, rfl⟩
      rw [HF3.out]
      go_wp2_with fail
      go_ret
      exact ⟨rfl, below_drewN Bg.out _⟩
  · have hbad := one_bad bs hG (len : Int)
    obtain ⟨A1, e1⟩ : ∃ A1, A1 = numA bs ⟨0, 0⟩ := ⟨_, rfl⟩
    obtain ⟨A2, e2⟩ : ∃ A2, A2 = intA bs ⟨0, 0⟩ := ⟨_, rfl⟩
    obtain ⟨A3, e3⟩ : ∃ A3, A3 = textA bs (len : Int) ⟨0, 0⟩ := ⟨_, rfl⟩
    rw [← e1] at hbad K1 ⊢
    rw [← e2]
    rw [← e3] at hbad K3 ⊢
    clear e1 e2 e3 M7 K2' hG
    obtain ⟨v1, q1, x1⟩ := A1
    obtain ⟨v2, s2⟩ := A2
    obtain ⟨v3, q3, x3⟩ := A3
    have h1 : ¬ x1 = 0 := hbad.1
    have h3 : ¬ x3 = 0 := hbad.2
    have b1 : (x1 == 0) = false := by simpa using h1
    have b3 : (x3 != 0) = true := by simpa using h3
    have f1 : faultA ⟨q1, x1⟩ = (x1, (q1 : Int)) := if_neg h1
    have f3 : faultA ⟨q3, x3⟩ = (x3, (q3 : Int)) := if_neg h3
    have HF1 := hide f1
    have HF3 := hide f3
    clear f1 f3 hbad h1 h3
    go_wp2_with fail
    refine (cfault_any (s := ⟨q1, x1⟩) K1.out).mono ?_
    rintro e w8 ⟨rfl, m8, rfl⟩
    rw [HF1.out]
    go_wp2_with fail
    refine (cfault_any (s := ⟨q3, x3⟩) (K3.out.drewN m8)).mono ?_
    rintro e w9 ⟨rfl, m9, rfl⟩
    rw [HF3.out]
    go_wp2_with fail
    go_ret
    exact ⟨rfl, below_drewN B7.out _⟩

set_option maxRecDepth 100000 in
theorem lifted (os : Os) (started : os.Started) (H : Type) (enc : TypeId × Value → H) :
    ReturnsInHanded {} Try.checked os 6 .any (Rows.codecOneFormSpec.pre6 enc Try.prog Try.f6 Rows.codecOneFormRow.domain false) (Rows.codecOneFormSpec.post enc Try.prog Try.f6 false true false false) := by
  refine returnsInHanded_of_change_sized (C := Try.checked) own started (by kernel_rfl) Try.func6
    (ChangeSpec.witness6 (enc := enc) (C := Try.checked) false ⟨#[], #[.slice none 0 0], []⟩ 8 (by kernel_rfl) (by kernel_rfl) (by kernel_rfl) (by kernel_rfl)) ?_
  intro W base args ds gs before hval0 hW hcnd hsz0 _
  have hsz : (DataW.weightsEach Try.prog (Try.f6.params.toList ++ Rows.codecOneFormSpec.plain.varTypes Try.prog) (ds ++ gs)).all (· ≤ reachBytes) = true := hsz0
  have hval : ∀ (j : Nat) t v, Try.f6.params[j]? = some t → args[j]? = some v → Value.okWide Try.prog W .any base t v := hval0
  have hW' := hW
  obtain ⟨p, q, hA0, hV, rfl, hfz, hnd⟩ := hW
  have hA : DataW.TrodAll enc Try.prog W 0 (fun _ => true) true Try.f6.params.toList args.toList ds p := hA0
  rw [Try.params6] at hA hval hsz
  obtain ⟨v0, vs0, d0, ds0, p0, q0, hargs, rfl, rfl, h0, r0⟩ := trodAll_cons hA
  obtain ⟨rfl, rfl, rfl⟩ := trodAll_nil r0
  obtain rfl : args = #[v0] := by cases args; simp_all
  obtain ⟨rfl, rfl⟩ := trodVars_none hV
  have lt0 : ∀ x ∈ p0, x.block < W.heap.size := by obtain ⟨m, hm⟩ := h0; exact DataW.trod_lt m _ _ _ hm
  obtain ⟨a, len, cap, bs, rfl, h⟩ := open_sq_sized (hval 0 22 v0 rfl rfl) h0 (fun elems spare e => by have h := hsz; rw [e] at h; exact sized_slice h (j := 0) (t := 22) (e := 5) rfl rfl Try.underlying22)
  clear hA0 hval0
  refine (walk h.1 h.2).mono fun e W' ⟨he, bel⟩ => ?_
  subst he
  exact ⟨_, rfl, _, _, _, [], _, [], hW', trodAll_mk1 (shut_bool Try.underlying4 _), (trodAll_cons_mk (Below.trod laidOut (by kernel_rfl) (of_decide_eq_true (by kernel_rfl)) h0 bel lt0) trodAll_mk0), rfl, bel.frame _, fun h => by cases h⟩

theorem over : Rows.codecOneFormRow.holds Try.pinned (OpenSpec.ofChange Rows.codecOneFormSpec) :=
  OpenClaim.holds_of_wide 6 Try.f6 rfl rfl rfl rfl rfl rfl rfl ⟨rfl, rfl, rfl, rfl, rfl⟩ rfl rfl rfl rfl rfl (by kernel_rfl) Try.func6 (by kernel_rfl)
    (of_decide_eq_true (by kernel_rfl)) (by unfold Func.isWrapper; first | (rw [if_pos (by decide +kernel)]; kernel_rfl) | (rw [if_neg (by decide +kernel)]; exact ⟨rfl, rfl⟩))
    (fun os started H enc _ => lifted os started H enc)

theorem proved : Rows.CodecOneFormSaid := over
#print axioms proved
end CodecOneForm
theorem codecOneForm_holds : Rows.CodecOneFormSaid := CodecOneForm.proved
end Go.Proofs.Ytadjdiocipahhaa
