/- DiskSyncs: a fall behind a Sync loses nothing, whatever it is told to keep; what waits is shown to who reads: for every list of calls ahead of it. No condition. -/
import Derived.Test.YtfkclebngldjmaaDiskAll
import Derived.Test.YtfkclebngldjmaaDiskAwake
namespace Go.Proofs.Ytfkclebngldjmaa
namespace DiskSyncs
open Go.ChangeShapes Go.WideShapes Go.ChangeAt Go.RowKit B8 Dm
set_option linter.unusedVariables false

theorem write_free {s : Ds} {p : Nat} {bs : List Int} (hd : s.down = false) (hl : s.left = 0) (hp : p < s.n) (hb : bs.length = 64) : writeE s p bs = 0 ∧ writeS s p bs = { s with ws := s.ws ++ [(p, bs)] } := by
  have h0 : reachE s p = 0 := reach_ok hd hp
  unfold writeE writeS hitE hitS
  rw [h0, hb, if_neg (by omega), if_neg (by omega), if_pos hl, if_neg (by omega), if_neg (by omega), if_pos hl, Int.toNat_natCast]
  exact ⟨rfl, rfl⟩
theorem sync_free {s : Ds} (hd : s.down = false) (hl : s.left = 0) : syncE s = 0 ∧ syncS s = { s with kept := over s.kept s.ws, ws := [] } := by
  have h1 : hitE s = 0 := by unfold hitE; rw [if_pos hl]
  have h2 : hitS s = s := by unfold hitS; rw [if_pos hl]
  refine ⟨by unfold syncE; rw [hd]; exact h1, ?_⟩
  unfold syncS
  rw [if_neg (by rw [hd]; simp), if_neg (by rw [h1]; simp), h2]
theorem startS_up (s : Ds) : (startS s).down = false := by
  unfold startS
  cases hd : s.down with
  | true => rfl
  | false => exact hd
/-- a number within a disk -/
def pick (at_ : Int) (n : Nat) : Nat := ((at_ % 18446744073709551616) % (n : Int)).toNat
theorem pick_wrap (at_ : Int) (n : Nat) (h1 : 1 ≤ n) (h2 : n ≤ 16384) : wrap64 ((IntKind.u64.wrap at_).tmod (n : Int)) = (pick at_ n : Int) ∧ pick at_ n < n := by
  have e1 : IntKind.u64.wrap at_ = at_ % 18446744073709551616 := by simp [IntKind.wrap, IntKind.bits, IntKind.signed]
  have h3 : 0 ≤ at_ % 18446744073709551616 := by omega
  rw [e1, Int.tmod_eq_emod_of_nonneg h3]
  have h4 : 0 ≤ (at_ % 18446744073709551616) % (n : Int) := Int.emod_nonneg _ (by omega)
  have h5 : (at_ % 18446744073709551616) % (n : Int) < n := Int.emod_lt_of_pos _ (by omega)
  unfold pick wrap64
  omega

set_option maxRecDepth 100000 in
set_option maxHeartbeats 1000000 in
theorem walk {w : World} {a : Option Addr} {len cap : Nat} {os : Nat → Opd} (h : Ops w a len os) (b at_ fill : Int) {ka : Option Addr} {kl kc : Nat} {ks : List Int} (q : I8.Sq w ka kl kc ks) (hr : kc * 8 ≤ 140737488351232) :
    Calls Try.prog 8 #[.int .i64 b, .slice a len cap, .int .i64 at_, .int .u8 fill, .slice ka kl kc] w fun e w' => e = .returned (.bool true) ∧ Below w.heap.size w w' := by
  have RM := h.room
  have R := hide (ran_any (cap := cap) h b)
  have Q := hide q
  have KK : Hid (kl ≤ 140737488355328) := by show _ ≤ _; have := q.lecap; omega
  have QW : Hid (0 < kl → ∀ b off, ka = some ⟨b, off, none⟩ → b < w.heap.size) := fun h0 b off e => by
    obtain ⟨b', off', e', hc⟩ := q.cells h0
    rw [e] at e'
    cases e'
    exact World.block_lt_of_cell? w _ (hc 0 h0)
  clear h q hr
  go_enter Try.func8, Try.ntmps8
  go_wp2_with fail
  refine R.out.mono ?_
  rintro e w1 ⟨D, s, rfl, hb1, hd1, hn1, hl1⟩
  have B1 := hide hb1
  have D1 := hide hd1
  have L1 := hide hl1
  clear hb1 hd1 hn1 hl1 R
  go_wp2_with fail
  refine (awake_any _).mono ?_
  rintro e w2 ⟨rfl, hb2⟩
  have B2 : Hid (Below w.heap.size w w2) := B1.out.trans (hb2.mono B1.out.size)
  have D2 := hide (D1.out.below hb2)
  clear hb2 B1 D1
  go_wp2_with fail
  obtain ⟨L, hd, hL⟩ := D2.out
  refine (start_any hd (by have := L1.out; omega)).mono ?_
  rintro e w3 ⟨rfl, hmv⟩
  have M3 := hide (mv_next hL B2.out.size hmv)
  have B3 : Hid (Below w.heap.size w w3) := B2.out.trans M3.out.2
  have D3 := hide M3.out.1
  clear hmv hd hL M3 B2 D2
  have ST : Hid ((startS s).down = false ∧ (startS s).ws.length ≤ len) := ⟨startS_up s, Nat.le_trans (startS_same s).2 L1.out⟩
  generalize startS s = s1 at *
  clear L1
  go_wp2_with fail
  obtain ⟨L, hd, hL⟩ := D3.out
  refine (arm_any hd 0 (by omega) (by omega)).mono ?_
  rintro e w4 ⟨rfl, hmv⟩
  have M4 := hide (mv_next hL B3.out.size hmv)
  have B4 : Hid (Below w.heap.size w w4) := B3.out.trans M4.out.2
  have D4 := hide M4.out.1
  clear hmv hd hL M4 B3 D3
  have SA : Hid (armS s1 0 = { s1 with left := 0 }) := by show _ = _; unfold armS; rw [ST.out.1]; rfl
  rw [SA.out] at D4
  have S2 : Hid (∃ s2 : Ds, s2 = { s1 with left := 0 } ∧ s2.down = false ∧ s2.left = 0 ∧ s2.ws.length ≤ len) := ⟨_, rfl, ST.out.1, rfl, ST.out.2⟩
  obtain ⟨s2, e2, hs2⟩ := S2.out
  rw [← e2] at D4
  have HS2 := hide hs2
  clear e2 SA S2 hs2 ST
  go_wp2_with fail
  obtain ⟨L, hd, hL⟩ := D4.out
  have OK := hide hd.ok
  refine (size_any hd).mono ?_
  rintro e w5 ⟨rfl, rfl⟩
  have hpw := pick_wrap at_ s2.n OK.out.lo OK.out.hi
  have hp1 := hpw.1
  have hp2 := hpw.2
  have n1 := OK.out.lo
  have n2 := OK.out.hi
  clear hpw
  generalize hpp : pick at_ s2.n = p at *
  clear hpp
  go_wp2_with fail
  rw [hp1]
  clear hp1
  refine (block_any _ _).mono ?_
  rintro e w6 ⟨rfl, hb6, hg6⟩
  have B6 := hide hb6
  have Q6 := hide (sq_blk hg6)
  have D6 := hide (hd.below B6.out)
  have L6 : Hid (∀ k, L k → w.heap.size ≤ k ∧ k < w6.heap.size) := fun k hk => ⟨(hL k hk).1, Nat.lt_of_lt_of_le (hL k hk).2 B6.out.size⟩
  have BB6 : Hid (Below w.heap.size w w6) := B4.out.trans (B6.out.mono B4.out.size)
  have WF := hide (write_free (bs := blk fill) HS2.out.1 HS2.out.2.1 hp2 (blk_Blk fill).1)
  clear hd hL hb6 hg6 B4 D4
  go_wp2_with fail
  refine (write_any D6.out p Q6.out (by have := HS2.out.2.2; omega)).mono ?_
  rintro e w7 ⟨rfl, hmv⟩
  have M7 := hide (mv_next L6.out BB6.out.size hmv)
  rw [WF.out.1]
  rw [WF.out.2] at M7
  clear hmv
  have B7 : Hid (Below w.heap.size w w7) := BB6.out.trans M7.out.2
  have D7 := hide M7.out.1
  have S3 : Hid (∃ s3 : Ds, s3 = { s2 with ws := s2.ws ++ [(p, blk fill)] } ∧ s3.down = false ∧ s3.left = 0 ∧ s3.n = s2.n ∧ s3.ws.length ≤ len + 1 ∧ over s3.kept s3.ws p = blk fill) := ⟨_, rfl, HS2.out.1, HS2.out.2.1, rfl, by show (s2.ws ++ [(p, blk fill)]).length ≤ _; simp; exact HS2.out.2.2, by show over s2.kept (s2.ws ++ [(p, blk fill)]) p = _; rw [over_snoc]; simp [upd]⟩
  obtain ⟨s3, e3, hs3⟩ := S3.out
  rw [← e3] at D7
  have HS3 := hide hs3
  clear e3 S3 hs3 M7 WF
  have hp3 : p < s3.n := by rw [HS3.out.2.2.1]; exact hp2
  go_wp2_with fail
  obtain ⟨L, hd, hL⟩ := D7.out
  refine (read_yes hd p (reach_ok HS3.out.1 hp3) hp3).mono ?_
  rintro e w8 ⟨rfl, hb8, hg8⟩
  rw [HS3.out.2.2.2.2] at hg8
  have B8' := hide hb8
  have Q8 := hide (sq_blk hg8)
  have D8 : Hid (Dsk w8 D s3 L) := hd.below hb8
  have L8 : Hid (∀ k, L k → w.heap.size ≤ k ∧ k < w8.heap.size) := fun k hk => ⟨(hL k hk).1, Nat.lt_of_lt_of_le (hL k hk).2 B8'.out.size⟩
  have BB8 : Hid (Below w.heap.size w w8) := B7.out.trans (B8'.out.mono B7.out.size)
  clear hb8 hg8 hd hL
  go_wp2_with fail
  refine (block_any _ _).mono ?_
  rintro e w9 ⟨rfl, hb9, hg9⟩
  have B9 := hide hb9
  have Q9 := hide (sq_blk hg9)
  have Q8' := hide (Q8.out.below hb9)
  have D9 : Hid (Dsk w9 D s3 L) := D8.out.below hb9
  have L9 : Hid (∀ k, L k → w.heap.size ≤ k ∧ k < w9.heap.size) := fun k hk => ⟨(L8.out k hk).1, Nat.lt_of_lt_of_le (L8.out k hk).2 B9.out.size⟩
  have BB9 : Hid (Below w.heap.size w w9) := BB8.out.trans (B9.out.mono BB8.out.size)
  clear hb9 hg9
  go_wp2_with fail
  refine (bytes_sq Q8'.out Q9.out (by omega)).mono ?_
  rintro e w10 ⟨rfl, m10, rfl⟩
  have BB10 : Hid (Below w.heap.size w (w9.drewN m10)) := ⟨BB9.out.os, BB9.out.tape, BB9.out.output, BB9.out.size, BB9.out.block⟩
  have SF := hide (sync_free HS3.out.1 HS3.out.2.1)
  go_wp2_with fail
  refine (sync_any (D9.out.drewN m10) (by have := HS3.out.2.2.2.1; omega)).mono ?_
  rintro e w11 ⟨rfl, hmv⟩
  have M11 := hide (mv_next (w := w9.drewN m10) L9.out BB10.out.size hmv)
  rw [SF.out.1]
  rw [SF.out.2] at M11
  clear hmv
  have B11 : Hid (Below w.heap.size w w11) := BB10.out.trans M11.out.2
  have D11 := hide M11.out.1
  have S4 : Hid (∃ s4 : Ds, s4 = { s3 with kept := over s3.kept s3.ws, ws := [] } ∧ s4.down = false ∧ s4.ws = []) := ⟨_, rfl, HS3.out.1, rfl⟩
  obtain ⟨s4, e4, hs4⟩ := S4.out
  rw [← e4] at D11
  have HS4 := hide hs4
  clear e4 S4 hs4 M11 SF
  go_wp2_with fail
  obtain ⟨L, hd, hL⟩ := D11.out
  refine (waiting_any hd).mono ?_
  rintro e w12 ⟨rfl, rfl⟩
  have W0 : Hid ((s4.ws.length : Int) = 0) := by show _ = _; rw [HS4.out.2]; rfl
  rw [W0.out]
  go_wp2_with fail
  refine (all_any hd HS4.out.1).mono ?_
  rintro e w13 ⟨G, cpG, gs, rfl, hb13, hl13⟩
  have B13 : Hid (Below w.heap.size w w13) := B11.out.trans (hb13.mono B11.out.size)
  have D13 := hide (hd.below hb13)
  have LL : Hid (∀ k, L k → w.heap.size ≤ k ∧ k < w12.heap.size) := hL
  have A13 := hide hl13
  have S13 : Hid (w12.heap.size ≤ w13.heap.size) := hb13.size
  have OK4 := hide hd.ok
  clear hb13 hl13 hd hL
  go_wp2_with fail
  refine (crash_any D13.out (by rw [HS4.out.2]; simp) (Q.out.below B13.out) (fun h0 b off e h5 => by have := QW.out h0 b off e; have := (LL.out b h5).1; omega) KK.out).mono ?_
  rintro e w14 ⟨rfl, hmv⟩
  have C14 := hide hmv.1
  have M14 := hide (mv_next (N := w.heap.size) (fun k hk => ⟨(LL.out k hk).1, Nat.lt_of_lt_of_le (LL.out k hk).2 S13.out⟩) B13.out.size hmv)
  have B14 : Hid (Below w.heap.size w w14) := B13.out.trans M14.out.2
  have D14 := hide hmv.2
  clear hmv
  go_wp2_with fail
  refine (start_any D14.out (by simp [crashS])).mono ?_
  rintro e w15 ⟨rfl, hmv⟩
  have C15 : Hid (Chg L w13 w15) := C14.out.trans hmv.1 (fun k hk h5 => by rcases h5 with h5 | h5; exact h5; omega)
  have A15 := hide (A13.out.chg C15.out (fun k hk => (LL.out k hk).2))
  have B15 : Hid (Below w.heap.size w w15) := B13.out.trans (C15.out.below B13.out.size (fun k hk => (LL.out k hk).1))
  have D15 := hide hmv.2
  clear hmv
  have S5 : Hid (∃ s5 : Ds, s5 = startS (crashS s4 ks) ∧ s5.down = false ∧ s5.n = s4.n ∧ over s5.kept s5.ws = over s4.kept s4.ws) := ⟨_, rfl, startS_up _, rfl, by
    show over (torn s4.kept ks 0 s4.ws) [] = over s4.kept s4.ws
    rw [HS4.out.2]
    rfl⟩
  obtain ⟨s5, e5, hs5⟩ := S5.out
  rw [← e5] at D15
  have HS5 := hide hs5
  clear e5 S5 hs5 M14 D14 B14 C14
  go_wp2_with fail
  refine (all_any D15.out HS5.out.1).mono ?_
  rintro e w16 ⟨G2, cpG2, gs2, rfl, hb16, hl16⟩
  rw [HS5.out.2.2, HS5.out.2.1] at hl16
  rw [HS5.out.2.1]
  have B16 : Hid (Below w.heap.size w w16) := B15.out.trans (hb16.mono B15.out.size)
  have A16 := hide hl16
  have A16' := hide (A15.out.below hb16)
  have D16 := hide (D15.out.below hb16)
  clear hb16 hl16
  go_wp2_with fail
  refine (lists_any A16.out A16'.out OK4.out.shown OK4.out.hi).mono ?_
  rintro e w17 ⟨rfl, m17, rfl⟩
  go_wp2_with fail
  refine (size_any (D16.out.drewN m17)).mono ?_
  rintro e w18 ⟨rfl, rfl⟩
  rw [HS5.out.2.1]
  go_wp2_with fail
  go_ret
  exact ⟨rfl, B16.out.os, B16.out.tape, B16.out.output, B16.out.size, B16.out.block⟩

set_option maxRecDepth 100000 in
theorem lifted (os : Os) (started : os.Started) (H : Type) (enc : TypeId × Value → H) :
    ReturnsInHanded {} Try.checked os 8 .any (Rows.diskSyncsSpec.pre6 enc Try.prog Try.f8 Rows.diskSyncsRow.domain false) (Rows.diskSyncsSpec.post enc Try.prog Try.f8 false true false false) := by
  refine returnsInHanded_of_change_sized (C := Try.checked) own started (by kernel_rfl) Try.func8
    (ChangeSpec.witness6 (enc := enc) (C := Try.checked) false ⟨#[], #[.int .i64 0, .slice none 0 0, .int .i64 0, .int .u8 0, .slice none 0 0], []⟩ 8 (by kernel_rfl) (by kernel_rfl) (by kernel_rfl) (by kernel_rfl)) ?_
  intro W base args ds gs before hval0 hW hcnd hsz0 _
  have hsz : (DataW.weightsEach Try.prog (Try.f8.params.toList ++ Rows.diskSyncsSpec.plain.varTypes Try.prog) (ds ++ gs)).all (· ≤ reachBytes) = true := hsz0
  have hval : ∀ (j : Nat) t v, Try.f8.params[j]? = some t → args[j]? = some v → Value.okWide Try.prog W .any base t v := hval0
  have hW' := hW
  obtain ⟨p, q, hA0, hV, rfl, hfz, hnd⟩ := hW
  have hA : DataW.TrodAll enc Try.prog W 0 (fun _ => true) true Try.f8.params.toList args.toList ds p := hA0
  rw [Try.params8] at hA hval hsz
  obtain ⟨v0, vs0, d0, ds0, p0, q0, hargs, rfl, rfl, h0, r0⟩ := trodAll_cons hA
  obtain ⟨v1, vs1, d1, ds1, p1, q1, rfl, rfl, rfl, h1, r1⟩ := trodAll_cons r0
  obtain ⟨v2, vs2, d2, ds2, p2, q2, rfl, rfl, rfl, h2, r2⟩ := trodAll_cons r1
  obtain ⟨v3, vs3, d3, ds3, p3, q3, rfl, rfl, rfl, h3, r3⟩ := trodAll_cons r2
  obtain ⟨v4, vs4, d4, ds4, p4, q4, rfl, rfl, rfl, h4, r4⟩ := trodAll_cons r3
  obtain ⟨rfl, rfl, rfl⟩ := trodAll_nil r4
  obtain rfl : args = #[v0, v1, v2, v3, v4] := by cases args; simp_all
  obtain ⟨rfl, rfl⟩ := trodVars_none hV
  have lt0 : ∀ x ∈ p0, x.block < W.heap.size := by obtain ⟨m, hm⟩ := h0; exact DataW.trod_lt m _ _ _ hm
  obtain ⟨b, rfl, bb⟩ := open_i64 (hval 0 3 v0 rfl rfl) h0
  have lt1 : ∀ x ∈ p1, x.block < W.heap.size := by obtain ⟨m, hm⟩ := h1; exact DataW.trod_lt m _ _ _ hm
  obtain ⟨a, len, cap, os, rfl, ho⟩ := open_ops_held (hval 1 22 v1 rfl rfl) h1 (fun n hn => by have h := List.all_eq_true.1 hsz n (DataW.weights_mem_each (j := 1) rfl rfl n hn); simpa using h)
  have lt2 : ∀ x ∈ p2, x.block < W.heap.size := by obtain ⟨m, hm⟩ := h2; exact DataW.trod_lt m _ _ _ hm
  obtain ⟨at_, rfl, ab⟩ := open_i64 (hval 2 3 v2 rfl rfl) h2
  have lt3 : ∀ x ∈ p3, x.block < W.heap.size := by obtain ⟨m, hm⟩ := h3; exact DataW.trod_lt m _ _ _ hm
  obtain ⟨fill, rfl, fb⟩ := open_u8 (hval 3 5 v3 rfl rfl) h3
  have lt4 : ∀ x ∈ p4, x.block < W.heap.size := by obtain ⟨m, hm⟩ := h4; exact DataW.trod_lt m _ _ _ hm
  obtain ⟨ka, kl, kc, ks, rfl, hq⟩ := I8.open_sq_sized (hval 4 32 v4 rfl rfl) h4 (fun elems spare e => by have h := hsz; rw [e] at h; exact sized_slice h (j := 4) (t := 32) (e := 3) rfl rfl Try.underlying32)
  clear hA0 hval0
  refine (walk ho b at_ fill hq.1 hq.2).mono fun e W' ⟨he, bel⟩ => ?_
  subst he
  exact ⟨_, rfl, _, _, _, [], _, [], hW', trodAll_mk1 (shut_bool Try.underlying4 _), (trodAll_cons_mk (Below.trod laidOut (by kernel_rfl) (of_decide_eq_true (by kernel_rfl)) h0 bel lt0) (trodAll_cons_mk (Below.trod laidOut (by kernel_rfl) (of_decide_eq_true (by kernel_rfl)) h1 bel lt1) (trodAll_cons_mk (Below.trod laidOut (by kernel_rfl) (of_decide_eq_true (by kernel_rfl)) h2 bel lt2) (trodAll_cons_mk (Below.trod laidOut (by kernel_rfl) (of_decide_eq_true (by kernel_rfl)) h3 bel lt3) (trodAll_cons_mk (Below.trod laidOut (by kernel_rfl) (of_decide_eq_true (by kernel_rfl)) h4 bel lt4) trodAll_mk0))))), rfl, bel.frame _, fun h => by cases h⟩

theorem over : Rows.diskSyncsRow.holds Try.pinned (OpenSpec.ofChange Rows.diskSyncsSpec) :=
  OpenClaim.holds_of_wide 8 Try.f8 rfl rfl rfl rfl rfl rfl rfl ⟨rfl, rfl, rfl, rfl, rfl⟩ rfl rfl rfl rfl rfl (by kernel_rfl) Try.func8 (by kernel_rfl)
    (of_decide_eq_true (by kernel_rfl)) (by unfold Func.isWrapper; first | (rw [if_pos (by decide +kernel)]; kernel_rfl) | (rw [if_neg (by decide +kernel)]; exact ⟨rfl, rfl⟩))
    (fun os started H enc _ => lifted os started H enc)

theorem proved : Rows.DiskSyncsSaid := over
#print axioms proved
end DiskSyncs
theorem diskSyncs_holds : Rows.DiskSyncsSaid := DiskSyncs.proved
end Go.Proofs.Ytfkclebngldjmaa
