/- NetFull: never more than 256 packets are under way; what is refused changes nothing: for every list of calls ahead of it. No condition. -/
import Derived.Test.YtbgejpkkocedbaaNetRan
namespace Go.Proofs.Ytbgejpkkocedbaa
namespace NetFull
open Go.ChangeShapes Go.WideShapes Go.ChangeAt Go.RowKit B8 Nm
set_option linter.unusedVariables false

theorem send_eq {s : Ns} (h : Ok s) (hc : s.cuts = []) {bs : List Int} (hb : bs.length ≤ 16384) : (256 ≤ s.ps.length → sendE s 1 1 bs = 3 ∧ sendS s 1 1 bs = s) ∧ (s.ps.length < 256 → sendE s 1 1 bs = 0 ∧ (sendS s 1 1 bs).ps.length = s.ps.length + 1 ∧ (sendS s 1 1 bs).cuts = []) := by
  have h1 : hasB s 1 = true := by simp [hasB]; have := h.lo; omega
  have h2 : badB s 1 1 bs.length = false := by simp [badB, h1]; exact hb
  have h3 : apartB s 1 1 = false := by simp [apartB, hc]
  refine ⟨fun h => ?_, fun h => ?_⟩
  · simp [sendE, sendS, h2, h3, h]
  · have : ¬ 256 ≤ s.ps.length := by omega
    simp [sendE, sendS, h2, h3, this, hc]
set_option maxRecDepth 100000 in
set_option maxHeartbeats 1000000 in
theorem walk {w : World} {a : Option Addr} {len cap : Nat} {os : Nat → Opd} (h : Ops w a len os) (b : Int) {ab : Option Addr} {n cp : Nat} {bs : List Int} (q : Sq w ab n cp bs) :
    Calls Try.prog 8 #[.int .i64 b, .slice a len cap, .slice ab n cp] w fun e w' => e = .returned (.bool true) ∧ Below w.heap.size w w' := by
  have RA := hide (ran_any (cap := cap) h b)
  have Q := hide q
  have hlc := q.lecap
  clear h q
  go_enter Try.func8, Try.ntmps8
  go_wp2_with fail
  refine RA.out.mono ?_
  rintro e w1 ⟨D, s, rfl, hb1, hn1, _⟩
  have B1 := hide hb1
  have N1 := hide hn1
  clear hb1 hn1
  go_wp2_with fail
  refine (awake_any _).mono ?_
  rintro e w2 ⟨rfl, hb2⟩
  have B2 := hide (below_step B1.out hb2)
  have N2 := hide (N1.out.below hb2)
  clear hb2 B1 N1
  go_upto_if 22 with fail
  go_cut [2] (fun x w3 => ∃ (a3 : Option Addr) (n3 c3 : Nat) (b3 : List Int), x = .slice a3 n3 c3 ∧ w3 = w2 ∧ Hid (n3 ≤ 16384) ∧ Hid (Sq w a3 n3 c3 b3))
  case first =>
    by_cases hn : n ≤ 16384
    · have hn2 : (n : Int) ≤ 16384 := by omega
      have HN := hide hn
      clear hn
      go_wp2_with fail
      go_meet
      case rel => exact ⟨_, _, _, _, rfl, rfl, HN, Q⟩
    · have hn2 : (16384 : Int) < (n : Int) := by omega
      have hn3 : (16384 : Int) ≤ (cp : Int) := by omega
      have hn4 : 16384 ≤ cp := by omega
      have hn5 : cp ≠ 0 := by omega
      have HL : Hid (16384 ≤ n) := by show _ ≤ _; omega
      obtain ⟨bb, off, e, _⟩ := Q.out.cells (by omega)
      subst e
      clear hn
      go_wp2_with fail
      go_meet
      case rel => exact ⟨_, _, _, _, rfl, rfl, Nat.le_refl _, Q.out.take 16384 HL.out⟩
  case rest =>
    obtain ⟨a3, n3, c3, b3, rfl, rfl, HN3, Q3⟩ := hcut
    clear Q hlc
    obtain ⟨L, hn, rfl, hL⟩ := N2.out
    go_wp2_with fail
    refine (heal_any hn).mono ?_
    rintro e w4 ⟨rfl, hmv⟩
    have M4 := hide (mv_next rfl hL B2.out.size hmv (Nat.le_refl _))
    have B4 : Hid (Below w.heap.size w w4) := B2.out.trans M4.out.2
    have N4 := hide M4.out.1
    generalize L.N = D at N4 ⊢
    clear hmv hn hL M4 N2 B2
    go_wp2_with fail
    go_loopw [8] (fun i wr => ∃ (k : Nat) (s : Ns), k ≤ 259 ∧ i = .int .i64 k ∧ Hid (Below w.heap.size w wr) ∧ Hid (NtN wr w.heap.size D len s) ∧ Hid (s.cuts = []) ∧ Hid (k ≤ s.ps.length ∨ s.ps.length = 256)) (fun i _ => 259 - (intOf i).toNat)
    case atStart => exact ⟨0, _, by omega, rfl, B4, N4, rfl, .inl (Nat.zero_le _)⟩
    case round =>
      clear N4 B4
      obtain ⟨k, s, hk, rfl, HB, HD, HC, HL⟩ := hrel
      obtain ⟨L, hdk, rfl, hL⟩ := HD.out
      have OKS := hide hdk.ok
      have LL := hide hL
      have K0 := hide hdk
      have CL := hide (len_net K0.out)
      have QB : Hid (b3.length ≤ 16384) := by show _ ≤ _; rw [Q3.out.length]; exact HN3.out
      have SE := hide (send_eq OKS.out HC.out QB.out)
      have CS := hide (send_any K0.out 1 1 (Q3.out.below HB.out))
      clear hdk hL
      by_cases hlt : k < 259
      · have i1 : (k : Int) < 259 := by omega
        by_cases hf : 256 ≤ s.ps.length
        · have he : s.ps.length = 256 := Nat.le_antisymm OKS.out.most hf
          rw [(SE.out.1 hf).1, (SE.out.1 hf).2] at CS
          rw [he] at CL
          have HE := hide he
          clear hf he
          go_wp2_with fail
          refine CL.out.mono ?_
          rintro e w5 ⟨rfl, rfl⟩
          go_wp2_with fail
          refine CS.out.mono ?_
          rintro e w6 ⟨rfl, hmv⟩
          have M6 := hide (mv_next rfl LL.out HB.out.size hmv (Nat.le_refl _))
          obtain ⟨_, L6, hn6, hp6, _⟩ := hmv
          have C6 := hide (len_net hn6)
          rw [hp6, HE.out] at C6
          clear hn6 hp6
          go_wp2_with fail
          refine C6.out.mono ?_
          rintro e w7 ⟨rfl, rfl⟩
          go_wp2_with fail
          go_roundw
          case rel => exact ⟨k + 1, s, by omega, by go_num, HB.out.trans M6.out.2, M6.out.1, HC, .inr HE.out⟩
          case measure => simp [intOf]; omega
        · have hq : s.ps.length < 256 := by omega
          have HQ := hide hq
          obtain ⟨e1, e2, e3⟩ := SE.out.2 hq
          rw [e1] at CS
          have E2 := hide e2
          have E3 := hide e3
          have HL2 := hide (HL.out.resolve_right (by omega))
          obtain ⟨q, eq⟩ : ∃ q, q = s.ps.length := ⟨_, rfl⟩
          rw [← eq] at CL HQ HL2 E2
          have x1 : ((q : Int) == 256) = false := by simp; have := HQ.out; omega
          have x2 : ((q : Int) = 256) = False := by simp; have := HQ.out; omega
          have x3 : IntKind.i64.wrap ((q : Int) + 1) = (q : Int) + 1 := by rw [IntKind.wrap_i64]; have := HQ.out; omega
          clear hf hq e1 e2 e3 eq
          go_wp2_with fail
          refine CL.out.mono ?_
          rintro e w5 ⟨rfl, rfl⟩
          go_wp2_with fail
          refine CS.out.mono ?_
          rintro e w6 ⟨rfl, hmv⟩
          have M6 := hide (mv_next rfl LL.out HB.out.size hmv (Nat.le_refl _))
          obtain ⟨_, L6, hn6, hp6, _⟩ := hmv
          have C6 := hide (len_net hn6)
          rw [hp6, E2.out] at C6
          clear hn6 hp6
          go_wp2_with fail
          refine C6.out.mono ?_
          rintro e w7 ⟨rfl, rfl⟩
          go_wp2_with fail
          go_roundw
          case rel => exact ⟨k + 1, _, by omega, by go_num, HB.out.trans M6.out.2, M6.out.1, E3, .inl (by show _ ≤ _; rw [E2.out]; have := HL2.out; omega)⟩
          case measure => simp [intOf]; omega
      · obtain rfl : k = 259 := by omega
        have he : s.ps.length = 256 := by rcases HL.out with h | h; have := OKS.out.most; omega; exact h
        rw [he] at CL
        have D0 := hide (double_any K0.out 0)
        have r0 : reachE s 0 = 0 := by unfold reachE; rw [if_neg (by omega)]
        have d0 : dblE s 0 = 3 := by unfold dblE; rw [if_neg (by simpa using r0), if_pos (by omega)]
        have d1 : dblS s 0 = s := by unfold dblS; rw [if_neg (by omega)]
        rw [d0, d1] at D0
        have r3 : Hid (reachE s 3 = 0) := by show _ = _; unfold reachE; rw [if_neg (by omega)]
        have t3 : Hid ((takeS s 3).ps.length = 255) := by show _ = _; unfold takeS; rw [if_pos r3.out]; show (s.ps.eraseIdx (3 : Int).toNat).length = 255; rw [List.length_eraseIdx_of_lt (by simp; omega), he]
        have HE := hide he
        clear r0 d0 d1 he hlt hk
        go_wp2_with fail
        refine CL.out.mono ?_
        rintro e w5 ⟨rfl, rfl⟩
        go_wp2_with fail
        refine D0.out.mono ?_
        rintro e w6 ⟨rfl, hmv⟩
        have M6 := hide (mv_next rfl LL.out HB.out.size hmv (Nat.le_refl _))
        have B6 : Hid (Below w.heap.size w w6) := HB.out.trans M6.out.2
        obtain ⟨L6, hn6, hp6, hl6⟩ := M6.out.1
        have T6 := hide (drop_any hn6 3)
        rw [hp6, r3.out] at T6
        have LL6 := hide hl6
        clear hmv hn6 hl6 M6
        go_wp2_with fail
        refine T6.out.mono ?_
        rintro e w7 ⟨rfl, hmv⟩
        have M7 := hide (mv_next hp6 LL6.out B6.out.size hmv.mv (Nat.le_refl _))
        have B7 : Hid (Below w.heap.size w w7) := B6.out.trans M7.out.2
        obtain ⟨L7, hn7, hp7, hl7⟩ := M7.out.1
        have r0 : reachE (takeS s 3) 0 = 0 := by unfold reachE; rw [if_neg (by rw [t3.out]; omega)]
        have d0 : dblE (takeS s 3) 0 = 0 := by unfold dblE; rw [if_neg (by simpa using r0), if_neg (by rw [t3.out]; omega)]
        have D7 := hide (double_any hn7 0)
        rw [hp7, d0] at D7
        have LL7 := hide hl7
        clear hmv hn7 hl7 M7 r0 d0
        go_wp2_with fail
        refine D7.out.mono ?_
        rintro e w8 ⟨rfl, hmv⟩
        have M8 := hide (mv_next hp7 LL7.out B7.out.size hmv (Nat.le_refl _))
        clear hmv
        go_wp2_with fail
        go_ret
        exact ⟨rfl, B7.out.trans M8.out.2⟩

set_option maxRecDepth 100000 in
theorem lifted (os : Os) (started : os.Started) (H : Type) (enc : TypeId × Value → H) :
    ReturnsInHanded {} Try.checked os 8 .any (Rows.netFullSpec.pre6 enc Try.prog Try.f8 Rows.netFullRow.domain false) (Rows.netFullSpec.post enc Try.prog Try.f8 false true false false) := by
  refine returnsInHanded_of_change_sized (C := Try.checked) own started (by kernel_rfl) Try.func8
    (ChangeSpec.witness6 (enc := enc) (C := Try.checked) false ⟨#[], #[.int .i64 0, .slice none 0 0, .slice none 0 0], []⟩ 8 (by kernel_rfl) (by kernel_rfl) (by kernel_rfl) (by kernel_rfl)) ?_
  intro W base args ds gs before hval0 hW hcnd hsz0 _
  have hsz : (DataW.weightsEach Try.prog (Try.f8.params.toList ++ Rows.netFullSpec.plain.varTypes Try.prog) (ds ++ gs)).all (· ≤ reachBytes) = true := hsz0
  have hval : ∀ (j : Nat) t v, Try.f8.params[j]? = some t → args[j]? = some v → Value.okWide Try.prog W .any base t v := hval0
  have hW' := hW
  obtain ⟨p, q, hA0, hV, rfl, hfz, hnd⟩ := hW
  have hA : DataW.TrodAll enc Try.prog W 0 (fun _ => true) true Try.f8.params.toList args.toList ds p := hA0
  rw [Try.params8] at hA hval hsz
  obtain ⟨v0, vs0, d0, ds0, p0, q0, hargs, rfl, rfl, h0, r0⟩ := trodAll_cons hA
  obtain ⟨v1, vs1, d1, ds1, p1, q1, rfl, rfl, rfl, h1, r1⟩ := trodAll_cons r0
  obtain ⟨v2, vs2, d2, ds2, p2, q2, rfl, rfl, rfl, h2, r2⟩ := trodAll_cons r1
  obtain ⟨rfl, rfl, rfl⟩ := trodAll_nil r2
  obtain rfl : args = #[v0, v1, v2] := by cases args; simp_all
  obtain ⟨rfl, rfl⟩ := trodVars_none hV
  have lt0 : ∀ x ∈ p0, x.block < W.heap.size := by obtain ⟨m, hm⟩ := h0; exact DataW.trod_lt m _ _ _ hm
  obtain ⟨b, rfl, bb⟩ := open_i64 (hval 0 3 v0 rfl rfl) h0
  have lt1 : ∀ x ∈ p1, x.block < W.heap.size := by obtain ⟨m, hm⟩ := h1; exact DataW.trod_lt m _ _ _ hm
  obtain ⟨a, len, cap, os, rfl, ho⟩ := open_ops_held (hval 1 22 v1 rfl rfl) h1 (fun n hn => by have h := List.all_eq_true.1 hsz n (DataW.weights_mem_each (j := 1) rfl rfl n hn); simpa using h)
  have lt2 : ∀ x ∈ p2, x.block < W.heap.size := by obtain ⟨m, hm⟩ := h2; exact DataW.trod_lt m _ _ _ hm
  obtain ⟨ab, n, cp, bs, rfl, hq⟩ := open_sq_sized (hval 2 31 v2 rfl rfl) h2 (fun elems spare e => by have h := hsz; rw [e] at h; exact sized_slice h (j := 2) (t := 31) (e := 5) rfl rfl Try.underlying31)
  clear hA0 hval0
  refine (walk ho b hq.1).mono fun e W' ⟨he, bel⟩ => ?_
  subst he
  exact ⟨_, rfl, _, _, _, [], _, [], hW', trodAll_mk1 (shut_bool Try.underlying4 _), (trodAll_cons_mk (Below.trod laidOut (by kernel_rfl) (of_decide_eq_true (by kernel_rfl)) h0 bel lt0) (trodAll_cons_mk (Below.trod laidOut (by kernel_rfl) (of_decide_eq_true (by kernel_rfl)) h1 bel lt1) (trodAll_cons_mk (Below.trod laidOut (by kernel_rfl) (of_decide_eq_true (by kernel_rfl)) h2 bel lt2) trodAll_mk0))), rfl, bel.frame _, fun h => by cases h⟩

theorem over : Rows.netFullRow.holds Try.pinned (OpenSpec.ofChange Rows.netFullSpec) :=
  OpenClaim.holds_of_wide 8 Try.f8 rfl rfl rfl rfl rfl rfl rfl ⟨rfl, rfl, rfl, rfl, rfl⟩ rfl rfl rfl rfl rfl (by kernel_rfl) Try.func8 (by kernel_rfl)
    (of_decide_eq_true (by kernel_rfl)) (by unfold Func.isWrapper; first | (rw [if_pos (by decide +kernel)]; kernel_rfl) | (rw [if_neg (by decide +kernel)]; exact ⟨rfl, rfl⟩))
    (fun os started H enc _ => lifted os started H enc)

theorem proved : Rows.NetFullSaid := over
#print axioms proved
end NetFull
theorem netFull_holds : Rows.NetFullSaid := NetFull.proved
end Go.Proofs.Ytbgejpkkocedbaa
