/- DiskArms: a disk that is armed goes on for just so many writes and syncs, one less; then it is down, and answers nothing but that: for every list of calls ahead of it. No condition. -/
import Derived.Test.YtfkclebngldjmaaDiskRan
import Derived.Test.YtfkclebngldjmaaDiskAwake
namespace Go.Proofs.Ytfkclebngldjmaa
namespace DiskArms
open Go.ChangeShapes Go.WideShapes Go.ChangeAt Go.RowKit B8 Dm
set_option linter.unusedVariables false

theorem startS_up (s : Ds) : (startS s).down = false := by
  unfold startS
  cases hd : s.down with
  | true => rfl
  | false => exact hd
theorem hit_more {s : Ds} (h : 2 ≤ s.left) : hitE s = 0 ∧ (hitS s).left = s.left - 1 ∧ (hitS s).down = false := by
  unfold hitE hitS
  rw [if_neg (by omega), if_neg (by omega), if_neg (by omega)]
  exact ⟨rfl, rfl, by simp; omega⟩
theorem hit_last {s : Ds} (h : s.left = 1) : hitE s = 40 ∧ (hitS s).down = true := by
  unfold hitE hitS
  rw [if_neg (by omega), if_pos (by omega), if_neg (by omega)]
  exact ⟨rfl, by simp; omega⟩
theorem write0 {s : Ds} {bs : List Int} (hd : s.down = false) (hn : 1 ≤ s.n) (hb : bs.length = 64) : writeE s 0 bs = hitE s ∧ writeS s 0 bs = hitS { s with ws := s.ws ++ [(0, bs)] } := by
  have h0 : reachE s 0 = 0 := reach_ok (k := 0) hd (by omega)
  unfold writeE writeS
  rw [h0, hb]
  exact ⟨rfl, rfl⟩
theorem write_more {s : Ds} {bs : List Int} (hd : s.down = false) (hn : 1 ≤ s.n) (hb : bs.length = 64) (h : 2 ≤ s.left) : writeE s 0 bs = 0 ∧ (writeS s 0 bs).left = s.left - 1 ∧ (writeS s 0 bs).down = false ∧ (writeS s 0 bs).n = s.n ∧ (writeS s 0 bs).ws.length ≤ s.ws.length + 1 := by
  have h1 := write0 hd hn hb
  have h2 := hit_more (s := { s with ws := s.ws ++ [(0, bs)] }) h
  have h3 := hit_more h
  rw [h1.1, h1.2]
  exact ⟨h3.1, h2.2.1, h2.2.2, (hitS_same _).1, by rw [(hitS_same _).2]; simp⟩
theorem write_last {s : Ds} {bs : List Int} (hd : s.down = false) (hn : 1 ≤ s.n) (hb : bs.length = 64) (h : s.left = 1) : writeE s 0 bs = 40 ∧ (writeS s 0 bs).down = true ∧ (writeS s 0 bs).ws.length = s.ws.length + 1 := by
  have h1 := write0 hd hn hb
  have h2 := hit_last (s := { s with ws := s.ws ++ [(0, bs)] }) h
  have h3 := hit_last h
  rw [h1.1, h1.2]
  exact ⟨h3.1, h2.2, by rw [(hitS_same _).2]; simp⟩
theorem sync_more {s : Ds} (hd : s.down = false) (h : 2 ≤ s.left) : syncE s = 0 ∧ (syncS s).left = s.left - 1 ∧ (syncS s).down = false ∧ (syncS s).n = s.n ∧ (syncS s).ws.length = 0 := by
  have h3 := hit_more h
  unfold syncE syncS
  rw [hd, h3.1]
  exact ⟨rfl, h3.2.1, h3.2.2, (hitS_same s).1, rfl⟩
theorem down_all {s : Ds} (hd : s.down = true) (z : Int) (bs : List Int) : reachE s z = 40 ∧ syncE s = 40 ∧ writeE s z bs = 40 ∧ armE s = 40 ∧ syncS s = s ∧ writeS s z bs = s := by
  have h0 : reachE s z = 40 := by unfold reachE; rw [hd]; rfl
  refine ⟨h0, by unfold syncE; rw [hd]; rfl, by unfold writeE; rw [h0]; rfl, by unfold armE; rw [hd]; rfl, by unfold syncS; rw [hd]; rfl, by unfold writeS; rw [h0]; rfl⟩
/-- how many writes and syncs -/
def alen (n : Int) : Nat := 1 + ((n % 18446744073709551616) % 20).toNat
theorem alen_wrap (n : Int) : wrap64 (1 + wrap64 ((IntKind.u64.wrap n).tmod 20)) = (alen n : Int) ∧ 1 ≤ alen n ∧ alen n ≤ 20 := by
  have h1 : IntKind.u64.wrap n = n % 18446744073709551616 := by simp [IntKind.wrap, IntKind.bits, IntKind.signed]
  have h2 : 0 ≤ n % 18446744073709551616 := by omega
  rw [h1, Int.tmod_eq_emod_of_nonneg h2]
  unfold alen wrap64
  omega

set_option maxRecDepth 100000 in
set_option maxHeartbeats 1000000 in
theorem walk {w : World} {a : Option Addr} {len cap : Nat} {os : Nat → Opd} (h : Ops w a len os) (b n : Int) :
    Calls Try.prog 5 #[.int .i64 b, .slice a len cap, .int .i64 n] w fun e w' => e = .returned (.bool true) ∧ Below w.heap.size w w' := by
  have RM := h.room
  have R := hide (ran_any (cap := cap) h b)
  have hal := alen_wrap n
  have hnb := hal.1
  generalize hkk : alen n = kk at *
  have K1 : 1 ≤ kk := hal.2.1
  have K2 : kk ≤ 20 := hal.2.2
  clear h hkk hal
  go_enter Try.func5, Try.ntmps5
  go_wp2_with fail
  refine R.out.mono ?_
  rintro e w1 ⟨D, s, rfl, hb1, hd1, hn1, hl1⟩
  have B1 := hide hb1
  have D1 := hide hd1
  have NN : Hid (1 ≤ s.n) := by obtain ⟨L, h5, _⟩ := hd1; exact h5.ok.lo
  have L1 := hide hl1
  clear hb1 hd1 hn1 hl1 R
  go_wp2_with fail
  refine (awake_any _).mono ?_
  rintro e w2 ⟨rfl, hb2⟩
  have B2 : Hid (Below w.heap.size w w2) := B1.out.trans (hb2.mono B1.out.size)
  have D2 := hide (D1.out.below hb2)
  clear hb2 B1 D1
  go_wp2_with fail
  obtain ⟨L, hd, hL⟩ := D2.out
  refine (start_any hd (by have := L1.out; omega)).mono ?_
  rintro e w3 ⟨rfl, hmv⟩
  have M3 := hide (mv_next hL B2.out.size hmv)
  have B3 : Hid (Below w.heap.size w w3) := B2.out.trans M3.out.2
  have D3 := hide M3.out.1
  clear hmv hd hL M3 B2 D2
  have ST : Hid ((startS s).down = false ∧ 1 ≤ (startS s).n ∧ (startS s).ws.length ≤ len) := by
    refine ⟨?_, by rw [(startS_same s).1]; exact NN.out, Nat.le_trans (startS_same s).2 L1.out⟩
    exact startS_up s
  generalize startS s = s1 at *
  clear L1 NN
  go_wp2_with fail
  rw [hnb]
  clear hnb
  obtain ⟨L, hd, hL⟩ := D3.out
  refine (arm_any hd (kk : Int) (by omega) (by omega)).mono ?_
  rintro e w4 ⟨rfl, hmv⟩
  have M4 := hide (mv_next hL B3.out.size hmv)
  have B4 : Hid (Below w.heap.size w w4) := B3.out.trans M4.out.2
  have D4 := hide M4.out.1
  clear hmv hd hL M4 B3 D3
  have EA : Hid (armE s1 = 0) := by show _ = _; unfold armE; rw [ST.out.1]; rfl
  have SA : Hid (armS s1 kk = { s1 with left := kk }) := by show _ = _; unfold armS; rw [ST.out.1]; simp only [Bool.false_eq_true, if_false]; rw [if_pos (by omega)]
  rw [EA.out]
  rw [SA.out] at D4
  go_wp2_with fail
  go_loopw [9] (fun i wr => ∃ (j : Nat) (s : Ds), 1 ≤ j ∧ j ≤ kk ∧ i = .int .i64 j ∧ Hid (Below w.heap.size w wr) ∧ Hid (DskN wr w.heap.size D s) ∧ Hid (s.down = false ∧ s.left = (kk : Int) - j + 1 ∧ 1 ≤ s.n ∧ s.ws.length ≤ len + j)) (fun i _ => kk - (intOf i).toNat)
  case atStart => exact ⟨1, _, by omega, K1, rfl, B4, D4, ⟨ST.out.1, by show (kk : Int) = _; omega, ST.out.2.1, Nat.le_succ_of_le ST.out.2.2⟩⟩
  case round =>
    obtain ⟨j, s, hj1, hj, rfl, HB, HD, HS⟩ := hrel
    by_cases hlt : j < kk
    · have i1 : (j : Int) < (kk : Int) := by omega
      have i2 : (0 : Int) ≤ (j : Int) := by omega
      have i3 : (j : Int) ≤ 20 := by omega
      obtain ⟨L, hd, hL⟩ := HD.out
      by_cases h3 : (j : Int) % 3 = 0
      · have z3 : ((j : Int) % 3 == 0) = true := by simpa using h3
        have SM := hide (sync_more HS.out.1 (by have := HS.out.2.1; omega))
        go_wp2_with fail
        refine (sync_any hd (by have := HS.out.2.2.2; omega)).mono ?_
        rintro e w5 ⟨rfl, hmv⟩
        have M5 := hide (mv_next hL HB.out.size hmv)
        rw [SM.out.1]
        clear hmv hd hL
        go_wp2_with fail
        go_roundw
        case rel => exact ⟨j + 1, _, by omega, by omega, by go_num, HB.out.trans M5.out.2, M5.out.1, ⟨SM.out.2.2.1, by rw [SM.out.2.1]; have := HS.out.2.1; omega, by rw [SM.out.2.2.2.1]; exact HS.out.2.2.1, by rw [SM.out.2.2.2.2]; omega⟩⟩
        case measure => simp [intOf]; omega
      · have z3 : ((j : Int) % 3 == 0) = false := by simpa using h3
        have z4 : ((j : Int) % 3 != 0) = true := by simpa using h3
        go_wp2_with fail
        refine (block_any _ _).mono ?_
        rintro e w5 ⟨rfl, hb5, hg5⟩
        have B5 := hide hb5
        have Q5 := hide (sq_blk hg5)
        clear hb5 hg5
        have D5 := hide (hd.below B5.out)
        have L5 : Hid (∀ k, L k → w.heap.size ≤ k ∧ k < w5.heap.size) := fun k hk => ⟨(hL k hk).1, Nat.lt_of_lt_of_le (hL k hk).2 B5.out.size⟩
        have BB5 : Hid (Below w.heap.size w w5) := HB.out.trans (B5.out.mono HB.out.size)
        clear hd hL
        go_wp2_with fail
        refine (write_any D5.out 0 Q5.out (by have := HS.out.2.2.2; omega)).mono ?_
        rintro e w6 ⟨rfl, hmv⟩
        have M6 := hide (mv_next L5.out BB5.out.size hmv)
        have WM := hide (fun f => write_more (bs := blk f) HS.out.1 HS.out.2.2.1 (blk_Blk f).1 (by have := HS.out.2.1; omega))
        clear hmv
        rw [(WM.out _).1]
        go_wp2_with fail
        go_roundw
        case rel => exact ⟨j + 1, _, by omega, by omega, by go_num, BB5.out.trans M6.out.2, M6.out.1, ⟨(WM.out _).2.2.1, by rw [(WM.out _).2.1]; have := HS.out.2.1; omega, by rw [(WM.out _).2.2.2.1]; exact HS.out.2.2.1, Nat.le_trans (WM.out _).2.2.2.2 (by have := HS.out.2.2.2; omega)⟩⟩
        case measure => simp [intOf]; omega
    · obtain rfl : j = kk := by omega
      clear B4 D4 SA EA ST
      have HL1 : Hid (s.left = 1) := by show _ = _; have := HS.out.2.1; omega
      go_wp2_with fail
      obtain ⟨L, hd, hL⟩ := HD.out
      refine (waiting_any hd).mono ?_
      rintro e w5 ⟨rfl, rfl⟩
      go_wp2_with fail
      refine (block_any _ _).mono ?_
      rintro e w6 ⟨rfl, hb6, hg6⟩
      have B6 := hide hb6
      have Q6 := hide (sq_blk hg6)
      have D6 := hide (hd.below B6.out)
      have L6 : Hid (∀ k, L k → w.heap.size ≤ k ∧ k < w6.heap.size) := fun k hk => ⟨(hL k hk).1, Nat.lt_of_lt_of_le (hL k hk).2 B6.out.size⟩
      have BB6 : Hid (Below w.heap.size w w6) := HB.out.trans (B6.out.mono HB.out.size)
      clear hd hL hb6 hg6
      go_wp2_with fail
      refine (write_any D6.out 0 Q6.out (by have := HS.out.2.2.2; omega)).mono ?_
      rintro e w7 ⟨rfl, hmv⟩
      have M7 := hide (mv_next L6.out BB6.out.size hmv)
      have WL := hide (write_last HS.out.1 HS.out.2.2.1 (blk_Blk 50).1 HL1.out)
      have BB7 : Hid (Below w.heap.size w w7) := BB6.out.trans M7.out.2
      have D7 := hide M7.out.1
      clear hmv M7
      rw [WL.out.1]
      have WN : Hid ((writeS s 0 (blk 50)).ws.length = s.ws.length + 1) := WL.out.2.2
      have WD : Hid ((writeS s 0 (blk 50)).down = true) := WL.out.2.1
      have WB : s.ws.length ≤ 2600000000000 := by have := HS.out.2.2.2; omega
      generalize writeS s 0 (blk 50) = s7 at *
      have DA := hide (down_all WD.out 0 (blk 1))
      clear WL
      go_wp2_with fail
      obtain ⟨L, hd, hL⟩ := D7.out
      refine (read_no hd 0 (by rw [DA.out.1]; omega)).mono ?_
      rintro e w8 ⟨rfl, rfl⟩
      rw [DA.out.1]
      go_wp2_with fail
      refine (down_any hd).mono ?_
      rintro e w8 ⟨rfl, rfl⟩
      rw [WD.out]
      go_wp2_with fail
      refine (waiting_any hd).mono ?_
      rintro e w8 ⟨rfl, rfl⟩
      rw [WN.out]
      have ci : (((s.ws.length + 1 : Nat) : Int) == (s.ws.length : Int) + 1) = true := by simp
      go_wp2_with fail
      refine (sync_any hd (by rw [WN.out]; omega)).mono ?_
      rintro e w9 ⟨rfl, hmv⟩
      have M9 := hide (mv_next hL BB7.out.size hmv)
      clear hmv hd hL
      rw [DA.out.2.2.2.2.1] at M9
      rw [DA.out.2.1]
      have BB9 : Hid (Below w.heap.size w w9) := BB7.out.trans M9.out.2
      go_wp2_with fail
      refine (block_any _ _).mono ?_
      rintro e w10 ⟨rfl, hb10, hg10⟩
      have B10 := hide hb10
      have Q10 := hide (sq_blk hg10)
      have BB10 : Hid (Below w.heap.size w w10) := BB9.out.trans (B10.out.mono BB9.out.size)
      have D10 := hide (M9.out.1.below hb10)
      clear hb10 hg10 M9
      go_wp2_with fail
      obtain ⟨L, hd, hL⟩ := D10.out
      refine (write_any hd 0 Q10.out (by rw [WN.out]; omega)).mono ?_
      rintro e w11 ⟨rfl, hmv⟩
      have M11 := hide (mv_next hL BB10.out.size hmv)
      rw [DA.out.2.2.1]
      rw [DA.out.2.2.2.2.2] at M11
      clear hmv hd hL
      have BB11 : Hid (Below w.heap.size w w11) := BB10.out.trans M11.out.2
      go_wp2_with fail
      obtain ⟨L, hd, hL⟩ := M11.out.1
      refine (arm_any hd 0 (by omega) (by omega)).mono ?_
      rintro e w12 ⟨rfl, hmv⟩
      have M12 := hide (mv_next hL BB11.out.size hmv)
      rw [DA.out.2.2.2.1]
      clear hmv hd hL
      go_wp2_with fail
      go_ret
      exact ⟨rfl, BB11.out.trans M12.out.2⟩

set_option maxRecDepth 100000 in
theorem lifted (os : Os) (started : os.Started) (H : Type) (enc : TypeId × Value → H) :
    ReturnsInHanded {} Try.checked os 5 .any (Rows.diskArmsSpec.pre6 enc Try.prog Try.f5 Rows.diskArmsRow.domain false) (Rows.diskArmsSpec.post enc Try.prog Try.f5 false true false false) := by
  refine returnsInHanded_of_change_sized (C := Try.checked) own started (by kernel_rfl) Try.func5
    (ChangeSpec.witness6 (enc := enc) (C := Try.checked) false ⟨#[], #[.int .i64 0, .slice none 0 0, .int .i64 0], []⟩ 8 (by kernel_rfl) (by kernel_rfl) (by kernel_rfl) (by kernel_rfl)) ?_
  intro W base args ds gs before hval0 hW hcnd hsz0 _
  have hsz : (DataW.weightsEach Try.prog (Try.f5.params.toList ++ Rows.diskArmsSpec.plain.varTypes Try.prog) (ds ++ gs)).all (· ≤ reachBytes) = true := hsz0
  have hval : ∀ (j : Nat) t v, Try.f5.params[j]? = some t → args[j]? = some v → Value.okWide Try.prog W .any base t v := hval0
  have hW' := hW
  obtain ⟨p, q, hA0, hV, rfl, hfz, hnd⟩ := hW
  have hA : DataW.TrodAll enc Try.prog W 0 (fun _ => true) true Try.f5.params.toList args.toList ds p := hA0
  rw [Try.params5] at hA hval hsz
  obtain ⟨v0, vs0, d0, ds0, p0, q0, hargs, rfl, rfl, h0, r0⟩ := trodAll_cons hA
  obtain ⟨v1, vs1, d1, ds1, p1, q1, rfl, rfl, rfl, h1, r1⟩ := trodAll_cons r0
  obtain ⟨v2, vs2, d2, ds2, p2, q2, rfl, rfl, rfl, h2, r2⟩ := trodAll_cons r1
  obtain ⟨rfl, rfl, rfl⟩ := trodAll_nil r2
  obtain rfl : args = #[v0, v1, v2] := by cases args; simp_all
  obtain ⟨rfl, rfl⟩ := trodVars_none hV
  have lt0 : ∀ x ∈ p0, x.block < W.heap.size := by obtain ⟨m, hm⟩ := h0; exact DataW.trod_lt m _ _ _ hm
  obtain ⟨b, rfl, bb⟩ := open_i64 (hval 0 3 v0 rfl rfl) h0
  have lt1 : ∀ x ∈ p1, x.block < W.heap.size := by obtain ⟨m, hm⟩ := h1; exact DataW.trod_lt m _ _ _ hm
  obtain ⟨a, len, cap, os, rfl, ho⟩ := open_ops_held (hval 1 22 v1 rfl rfl) h1 (fun n hn => by have h := List.all_eq_true.1 hsz n (DataW.weights_mem_each (j := 1) rfl rfl n hn); simpa using h)
  have lt2 : ∀ x ∈ p2, x.block < W.heap.size := by obtain ⟨m, hm⟩ := h2; exact DataW.trod_lt m _ _ _ hm
  obtain ⟨n, rfl, nb⟩ := open_i64 (hval 2 3 v2 rfl rfl) h2
  clear hA0 hval0
  refine (walk ho b n).mono fun e W' ⟨he, bel⟩ => ?_
  subst he
  exact ⟨_, rfl, _, _, _, [], _, [], hW', trodAll_mk1 (shut_bool Try.underlying4 _), (trodAll_cons_mk (Below.trod laidOut (by kernel_rfl) (of_decide_eq_true (by kernel_rfl)) h0 bel lt0) (trodAll_cons_mk (Below.trod laidOut (by kernel_rfl) (of_decide_eq_true (by kernel_rfl)) h1 bel lt1) (trodAll_cons_mk (Below.trod laidOut (by kernel_rfl) (of_decide_eq_true (by kernel_rfl)) h2 bel lt2) trodAll_mk0))), rfl, bel.frame _, fun h => by cases h⟩

theorem over : Rows.diskArmsRow.holds Try.pinned (OpenSpec.ofChange Rows.diskArmsSpec) :=
  OpenClaim.holds_of_wide 5 Try.f5 rfl rfl rfl rfl rfl rfl rfl ⟨rfl, rfl, rfl, rfl, rfl⟩ rfl rfl rfl rfl rfl (by kernel_rfl) Try.func5 (by kernel_rfl)
    (of_decide_eq_true (by kernel_rfl)) (by unfold Func.isWrapper; first | (rw [if_pos (by decide +kernel)]; kernel_rfl) | (rw [if_neg (by decide +kernel)]; exact ⟨rfl, rfl⟩))
    (fun os started H enc _ => lifted os started H enc)

theorem proved : Rows.DiskArmsSaid := over
#print axioms proved
end DiskArms
theorem diskArms_holds : Rows.DiskArmsSaid := DiskArms.proved
end Go.Proofs.Ytfkclebngldjmaa
