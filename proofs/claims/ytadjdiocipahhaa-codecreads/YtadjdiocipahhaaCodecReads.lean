/- CodecReads: for every list of bytes and every list of asks: the landed reader and the document's answer, stand and fail alike. No condition but what an argument may be. -/
import Derived.Test.YtadjdiocipahhaaCodecOpen
import Derived.Test.YtadjdiocipahhaaCodecAwake
import Derived.Test.YtadjdiocipahhaaCodecStepC
import Derived.Test.YtadjdiocipahhaaAskOpen
namespace Go.Proofs.Ytadjdiocipahhaa
namespace CodecReads
open Go.ChangeShapes Go.WideShapes Go.ChangeAt Go.RowKit B8 Cm
set_option linter.unusedVariables false

set_option maxHeartbeats 2000000 in
theorem walk {a : Option Addr} {len cap : Nat} {bs : List Int} {w : World} (h : Sq w a len cap bs) (hr : cap * 1 ≤ 140737488351232) {b : Option Addr} {m mc : Nat} {ks : Nat → Int × Int} (ha : Asks w b m ks) (hm : m ≤ 140737488351232) :
    Calls Try.prog 3 #[.slice a len cap, .slice b m mc] w fun e w' => e = .returned (.bool true) ∧ Below w.heap.size w w' := by
  have HL := hide h.length
  have hlc := h.lecap
  have H := hide h
  have HA := hide ha
  have hlen : len ≤ 140737488351232 := by omega
  clear h ha
  have R0 := hide (row_new w w.heap.size (Nat.le_refl _) #[] (by decide))
  have B0 := hide (Below.alloc (Below.refl w.heap.size w) (Nat.le_refl _) (.cells #[] 5))
  have H0 := hide (H.out.below B0.out)
  go_enter Try.func3, Try.ntmps3
  go_wp2_with (at_builtin; refine wp_append_at _ rfl (.tmp 14) (.tmp 15) rfl w.heap.size w.heap.size 0 0 [] rfl R0.out a len cap bs rfl H0.out (by omega) B0.out.size ?_; intro g cp1 w1 hown1 hgrow1 hat1; have B1 := hide (B0.out.grown hgrow1 B0.out.size (fun k hk => by cases hk; exact Nat.le_refl _)); simp only [List.nil_append, Nat.zero_add] at hown1; have O1 := hide hown1; clear hown1 hgrow1 hat1)
  obtain ⟨a1, cp2, e1, M1⟩ := mine_of_row HL.out H.out.wf O1.out
  obtain ⟨rfl, rfl⟩ : some ⟨g, 0, none⟩ = a1 ∧ cp1 = cp2 := by simpa using e1
  obtain ⟨g', eg, hg, hop⟩ := M1.opened
  obtain rfl : g = g' := by simpa using eg
  have hg1 := (O1.out.lt g rfl).2
  have OP := hide hop
  have C2 := hide (cnew_any M1.sq (by omega))
  clear e1 eg hop M1 O1 R0 B0 H0
  refine C2.out.mono ?_
  rintro e w2 ⟨R1, rfl, ⟨a2, c2, r2, f2⟩, b2, hR1⟩
  have lR1 := World.block_lt_of_cell? w2 _ r2.c0
  have B2 := hide (below_step B1.out b2)
  have Q2 := hide r2
  have F2 := hide f2
  have OP2 : Hid (Open w2 g len) := fun j hj => by
    obtain ⟨⟨z, hz⟩, hf⟩ := OP.out j hj
    exact ⟨⟨z, (b2.cell (p := ⟨g, j, none⟩) hg1).trans hz⟩, (b2.frozen (p := ⟨g, j, none⟩) hg1).trans hf⟩
  have hs2 := b2.size
  have H2 := hide (H.out.below B2.out)
  clear r2 f2 b2 C2 OP B1
  go_wp2_with fail
  refine (new_any H2.out (by omega)).mono ?_
  rintro e w3 ⟨R2, rfl, ⟨g2, o2, c3, r3, f3⟩, b3, hR2⟩
  have B3 := hide (below_step B2.out b3)
  have OP3 : Hid (Open w3 g len) := fun j hj => by
    obtain ⟨⟨z, hz⟩, hf⟩ := OP2.out j hj
    exact ⟨⟨z, (b3.cell (p := ⟨g, j, none⟩) (by show g < _; omega)).trans hz⟩, (b3.frozen (p := ⟨g, j, none⟩) (by show g < _; omega)).trans hf⟩
  have hs3 := b3.size
  have hB1 := B2.out.size
  have TW : Hid (Two w w3 R1 a2 len c2 bs ⟨0, 0⟩ R2 (some ⟨g2, o2, none⟩) len c3 bs ⟨0, 0⟩) := by
    refine ⟨Q2.out.grown (grown_below b3 none) (by simp) (by simp), r3, B3.out, ⟨by omega, by omega⟩, by omega, fun b off e => ?_, fun b off e => ?_⟩
    · have := F2.out b off e
      omega
    · obtain ⟨rfl, rfl⟩ : g2 = b ∧ o2 = off := by simpa using e
      omega
  have HG : Hid (∀ g', some g = some g' → w.heap.size ≤ g' ∧ g' ≠ R1 ∧ g' ≠ R2 ∧ (∀ x o, a2 = some ⟨x, o, none⟩ → x ≠ g') ∧ (∀ x o, (some ⟨g2, o2, none⟩ : Option Addr) = some ⟨x, o, none⟩ → x ≠ g')) := by
    intro g' e
    cases e
    refine ⟨hg, by omega, by omega, fun x o e => by have := (F2.out x o e).1; omega, fun x o e => ?_⟩
    obtain ⟨rfl, rfl⟩ : g2 = x ∧ o2 = o := by simpa using e
    omega
  clear r3 b3 H2 B2 Q2 F2 f3 OP2
  go_wp2_with fail
  refine (awake_any w3).mono ?_
  rintro e w4 ⟨rfl, b4⟩
  have T4 := hide (TW.out.below b4)
  have OP4 : Hid (Open w4 g len) := fun j hj => by
    obtain ⟨⟨z, hz⟩, hf⟩ := OP3.out j hj
    exact ⟨⟨z, (b4.cell (p := ⟨g, j, none⟩) (by show g < _; omega)).trans hz⟩, (b4.frozen (p := ⟨g, j, none⟩) (by show g < _; omega)).trans hf⟩
  clear b4 TW OP3 B3 hs2 hs3 hB1 hg hg1 hR1 hR2 lR1
  go_wp2_with fail
  go_loopw [8] (fun i wr => ∃ k : Nat, k ≤ len ∧ i = .int .i64 k ∧ Hid (Two w wr R1 a2 len c2 bs ⟨0, 0⟩ R2 (some ⟨g2, o2, none⟩) len c3 bs ⟨0, 0⟩) ∧ Hid (Open wr g len)) (fun i _ => len - (intOf i).toNat)
  case atStart => exact ⟨0, Nat.zero_le _, rfl, T4, OP4⟩
  case round =>
    obtain ⟨k, hk, rfl, HT, HO⟩ := hrel
    by_cases hlt : k < len
    · obtain ⟨⟨z, hz⟩, hf⟩ := HO.out k hlt
      have hi : (k : Int) < (len : Int) := by omega
      have i0 : (0 : Int) ≤ (k : Int) := by omega
      go_wp2_with fail
      go_roundw
      case rel =>
        refine ⟨k + 1, by omega, by go_num, ?_, HO.out.set k _ hlt⟩
        exact HT.out.other (grown_setCell _ g k _) (fun g' e => HG.out g' e)
      case measure => simp [intOf]; omega
    · clear HO OP4 T4
      go_wp2_with fail
      go_loopw [9, 10, 11, 12, 13] (fun i _ _ _ _ wr => ∃ (k : Nat) (s : St), k ≤ m ∧ i = .int .i64 k ∧ Hid (Two w wr R1 a2 len c2 bs s R2 (some ⟨g2, o2, none⟩) len c3 bs s)) (fun i _ _ _ _ _ => m - (intOf i).toNat)
      case atStart => exact ⟨0, ⟨0, 0⟩, Nat.zero_le _, rfl, HT⟩
      case round =>
        obtain ⟨j, s, hj, rfl, HS⟩ := hrel
        by_cases hjm : j < m
        · obtain ⟨bb, ob, eb, hc⟩ := (HA.out.below HS.out.bel).cells (by omega)
          obtain ⟨d0, d1⟩ := hc j hjm
          have hmost := HA.out.bound j hjm
          obtain ⟨q, eq⟩ : ∃ q, q = ks j := ⟨_, rfl⟩
          rw [← eq] at d0 d1 hmost
          rw [← Nat.add_assoc] at d1
          clear eq hc
          obtain ⟨kk, mm⟩ := q
          subst eb
          have hi : (j : Int) < (m : Int) := by omega
          have i0 : (0 : Int) ≤ (j : Int) := by omega
          have CS := hide (step_any kk mm hmost ⟨_, _, rfl⟩ HS.out)
          go_wp2_with fail
          refine CS.out.mono ?_
          rintro e w5 ⟨r, rfl, hr, T5⟩
          obtain rfl : r = true := hr rfl
          have HT5 := hide T5
          clear hr T5 CS d0 d1 HS
          obtain ⟨t, et⟩ : ∃ t, t = ansS bs kk mm s := ⟨_, rfl⟩
          rw [← et] at HT5
          clear et
          go_wp2_with fail
          refine (cfault_any HT5.out.one).mono ?_
          rintro e w6 ⟨rfl, m6, e6⟩
          have T6 := hide (HT5.out.drewN m6)
          rw [← e6] at T6
          clear e6 HT5
          go_wp2_with fail
          refine (fault_any T6.out.two).mono ?_
          rintro e w7 ⟨rfl, m7, e7⟩
          have T7 := hide (T6.out.drewN m7)
          rw [← e7] at T7
          clear e7 T6
          obtain ⟨f1, f2⟩ := faultA t
          go_wp2_with fail
          refine (cleft_any T7.out.one).mono ?_
          rintro e w8 ⟨rfl, m8, e8⟩
          have T8 := hide (T7.out.drewN m8)
          rw [← e8] at T8
          clear e8 T7
          go_wp2_with fail
          refine (left_any T8.out.two).mono ?_
          rintro e w9 ⟨rfl, m9, e9⟩
          have T9 := hide (T8.out.drewN m9)
          rw [← e9] at T9
          clear e9 T8
          obtain ⟨L, eL⟩ : ∃ L, L = len - t.pl := ⟨_, rfl⟩
          rw [← eL]
          clear eL
          go_wp2_with fail
          refine (cend_any T9.out.one).mono ?_
          rintro e w10 ⟨rfl, m10, e10⟩
          have T10 := hide (T9.out.drewN m10)
          rw [← e10] at T10
          clear e10 T9
          go_wp2_with fail
          refine (end_any T10.out.two).mono ?_
          rintro e w11 ⟨rfl, m11, e11⟩
          have T11 := hide (T10.out.drewN m11)
          rw [← e11] at T11
          clear e11 T10
          obtain ⟨E, eE⟩ : ∃ E, E = endA bs t := ⟨_, rfl⟩
          rw [← eE]
          clear eE
          go_wp2_with fail
          go_roundw
          case rel => exact ⟨j + 1, t, by omega, by go_num, T11⟩
          case measure => simp [intOf]; omega
        · go_wp2_with fail
          go_ret
          exact ⟨rfl, HS.out.bel⟩

set_option maxRecDepth 100000 in
theorem lifted (os : Os) (started : os.Started) (H : Type) (enc : TypeId × Value → H) :
    ReturnsInHanded {} Try.checked os 3 .any (Rows.codecReadsSpec.pre6 enc Try.prog Try.f3 Rows.codecReadsRow.domain false) (Rows.codecReadsSpec.post enc Try.prog Try.f3 false true false false) := by
  refine returnsInHanded_of_change_sized (C := Try.checked) own started (by kernel_rfl) Try.func3
    (ChangeSpec.witness6 (enc := enc) (C := Try.checked) false ⟨#[], #[.slice none 0 0, .slice none 0 0], []⟩ 8 (by kernel_rfl) (by kernel_rfl) (by kernel_rfl) (by kernel_rfl)) ?_
  intro W base args ds gs before hval0 hW hcnd hsz0 _
  have hsz : (DataW.weightsEach Try.prog (Try.f3.params.toList ++ Rows.codecReadsSpec.plain.varTypes Try.prog) (ds ++ gs)).all (· ≤ reachBytes) = true := hsz0
  have hval : ∀ (j : Nat) t v, Try.f3.params[j]? = some t → args[j]? = some v → Value.okWide Try.prog W .any base t v := hval0
  have hW' := hW
  obtain ⟨p, q, hA0, hV, rfl, hfz, hnd⟩ := hW
  have hA : DataW.TrodAll enc Try.prog W 0 (fun _ => true) true Try.f3.params.toList args.toList ds p := hA0
  rw [Try.params3] at hA hval hsz
  obtain ⟨v0, vs0, d0, ds0, p0, q0, hargs, rfl, rfl, h0, r0⟩ := trodAll_cons hA
  obtain ⟨v1, vs1, d1, ds1, p1, q1, rfl, rfl, rfl, h1, r1⟩ := trodAll_cons r0
  obtain ⟨rfl, rfl, rfl⟩ := trodAll_nil r1
  obtain rfl : args = #[v0, v1] := by cases args; simp_all
  obtain ⟨rfl, rfl⟩ := trodVars_none hV
  have lt0 : ∀ x ∈ p0, x.block < W.heap.size := by obtain ⟨m, hm⟩ := h0; exact DataW.trod_lt m _ _ _ hm
  obtain ⟨a, len, cap, bs, rfl, h⟩ := open_sq_sized (hval 0 22 v0 rfl rfl) h0 (fun elems spare e => by have h := hsz; rw [e] at h; exact sized_slice h (j := 0) (t := 22) (e := 5) rfl rfl Try.underlying22)
  have lt1 : ∀ x ∈ p1, x.block < W.heap.size := by obtain ⟨m, hm⟩ := h1; exact DataW.trod_lt m _ _ _ hm
  obtain ⟨b, m, mc, ks, rfl, hb⟩ := open_asks_sized (hval 1 23 v1 rfl rfl) h1 (fun elems spare e => by have h := hsz; rw [e] at h; exact sized_slice h (j := 1) (t := 23) (e := 31) rfl rfl Try.underlying23)
  clear hA0 hval0
  refine (walk h.1 h.2 hb.1 hb.2).mono fun e W' ⟨he, bel⟩ => ?_
  subst he
  exact ⟨_, rfl, _, _, _, [], _, [], hW', trodAll_mk1 (shut_bool Try.underlying4 _), (trodAll_cons_mk (Below.trod laidOut (by kernel_rfl) (of_decide_eq_true (by kernel_rfl)) h0 bel lt0) (trodAll_cons_mk (Below.trod laidOut (by kernel_rfl) (of_decide_eq_true (by kernel_rfl)) h1 bel lt1) trodAll_mk0)), rfl, bel.frame _, fun h => by cases h⟩

theorem over : Rows.codecReadsRow.holds Try.pinned (OpenSpec.ofChange Rows.codecReadsSpec) :=
  OpenClaim.holds_of_wide 3 Try.f3 rfl rfl rfl rfl rfl rfl rfl ⟨rfl, rfl, rfl, rfl, rfl⟩ rfl rfl rfl rfl rfl (by kernel_rfl) Try.func3 (by kernel_rfl)
    (of_decide_eq_true (by kernel_rfl)) (by unfold Func.isWrapper; first | (rw [if_pos (by decide +kernel)]; kernel_rfl) | (rw [if_neg (by decide +kernel)]; exact ⟨rfl, rfl⟩))
    (fun os started H enc _ => lifted os started H enc)

theorem proved : Rows.CodecReadsSaid := over
#print axioms proved
end CodecReads
theorem codecReads_holds : Rows.CodecReadsSaid := CodecReads.proved
end Go.Proofs.Ytadjdiocipahhaa
