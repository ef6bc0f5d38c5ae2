/- DiskPlays: whatever is written, read, synced, armed, brought to fall and started: each answer is the document's, and so is what waits: for every number of blocks and every list of calls. No condition. -/
import Derived.Test.YtfkclebngldjmaaDiskStepC
import Derived.Test.YtfkclebngldjmaaDiskAwake
namespace Go.Proofs.Ytfkclebngldjmaa
namespace DiskPlays
open Go.ChangeShapes Go.WideShapes Go.ChangeAt Go.RowKit B8 Dm
set_option linter.unusedVariables false

theorem step_any {w w0 : World} {N D E : Nat} {s : Ds} (h : Two w N D E s s) (hN : N ≤ w.heap.size) (hr : s.ws.length < 3000000000000) (o : Opd) (ho : OpOk w o) (hlt : 0 < o.kl → ∀ b off, o.ka = some ⟨b, off, none⟩ → b < N) :
    Calls Try.prog 13 #[.pointer (some ⟨D, 0, none⟩), .pointer (some ⟨E, 0, none⟩), .agg #[.int .i64 o.kind, .int .i64 o.at_, .int .i64 o.n, .int .u8 o.fill, .slice o.ka o.kl o.kc]] w fun e w' => ∃ s', e = .returned (.bool true) ∧ Below N w w' ∧ Two w' N D E s' s' ∧ s'.ws.length ≤ s.ws.length + 1 := by
  obtain ⟨kind, at_, n, fill, ka, kl, kc, ks⟩ := o
  by_cases k1 : kind = 1
  · subst k1
    exact (step_read h hN hr at_ n fill ka kl kc).mono fun e w' ⟨h1, h2, h3⟩ => ⟨s, h1, h2, h3, by omega⟩
  · by_cases k2 : kind = 2
    · subst k2
      exact (step_sync h hN hr at_ n fill ka kl kc).mono fun e w' ⟨h1, h2, h3⟩ => ⟨_, h1, h2, h3, Nat.le_succ_of_le (syncS_same s).2⟩
    · by_cases k3 : kind = 3
      · subst k3
        exact (step_arm h hN hr at_ n fill ho.n0 ho.n1 ka kl kc).mono fun e w' ⟨h1, h2, h3⟩ => ⟨_, h1, h2, h3, by rw [(armS_same s n).2]; omega⟩
      · by_cases k4 : kind = 4
        · subst k4
          exact (step_crash h hN hr at_ n fill ka kl kc ks ho.q ho.room hlt).mono fun e w' ⟨h1, h2, h3⟩ => ⟨_, h1, h2, h3, Nat.zero_le _⟩
        · by_cases k5 : kind = 5
          · subst k5
            exact (step_start h hN hr at_ n fill ka kl kc).mono fun e w' ⟨h1, h2, h3⟩ => ⟨_, h1, h2, h3, Nat.le_succ_of_le (startS_same s).2⟩
          · exact (step_write h hN hr kind at_ n fill ka kl kc ks ho.n0 ho.n1 (by simpa using k1) (by simpa using k2) (by simpa using k3) (by simpa using k4) (by simpa using k5)).mono fun e w' ⟨h1, h2, h3⟩ => ⟨_, h1, h2, h3, (writeS_same _ _ _).2⟩

set_option maxRecDepth 100000 in
set_option maxHeartbeats 8000000 in
theorem walk {w : World} {a : Option Addr} {len cap : Nat} {os : Nat → Opd} (h : Ops w a len os) (b : Int) :
    Calls Try.prog 3 #[.int .i64 b, .slice a len cap] w fun e w' => e = .returned (.bool true) ∧ Below w.heap.size w w' := by
  have RM := h.room
  have H := hide h
  clear h
  by_cases hb : b < 1 ∨ 16384 < b
  · go_enter Try.func3, Try.ntmps3
    go_wp2_with fail
    refine (new_no b w hb).mono ?_
    rintro e w1 ⟨rfl, rfl⟩
    go_wp2_with fail
    refine (rnew_no b _ hb).mono ?_
    rintro e w1 ⟨rfl, rfl⟩
    clear hb
    go_wp2_with fail
    refine (awake_any _).mono ?_
    rintro e w2 ⟨rfl, hb2⟩
    have B2 := hide hb2
    clear hb2
    go_wp2_with fail
    go_ret
    exact ⟨rfl, B2.out⟩
  · obtain ⟨n, rfl⟩ : ∃ n : Nat, b = (n : Int) := ⟨b.toNat, by omega⟩
    have n1 : 1 ≤ n := by omega
    have n2 : n ≤ 16384 := by omega
    clear hb
    go_enter Try.func3, Try.ntmps3
    go_wp2_with fail
    refine (new_yes n w n1 n2).mono ?_
    rintro e w1 ⟨D, rfl, hb1, hd1⟩
    have B1 := hide hb1
    have D1 := hide hd1.lt
    clear hb1 hd1
    go_wp2_with fail
    refine (rnew_yes n w1 n1 n2).mono ?_
    rintro e w2 ⟨E, rfl, hb2, hr2⟩
    have B2 : Hid (Below w.heap.size w w2) := B1.out.trans (hb2.mono B1.out.size)
    have T2 : Hid (Two w2 w.heap.size D E (newS n) (newS n)) := ⟨_, _, D1.out.below hb2, hr2.lt, fun k hk => ⟨hk.1, Nat.lt_of_lt_of_le hk.2 hb2.size, fun hm => by have := hm.1; omega⟩, fun k hk => ⟨Nat.le_trans B1.out.size hk.1, hk.2⟩⟩
    clear hb2 hr2 D1 B1
    go_wp2_with fail
    refine (awake_any _).mono ?_
    rintro e w3 ⟨rfl, hb3⟩
    have B3 : Hid (Below w.heap.size w w3) := B2.out.trans (hb3.mono B2.out.size)
    have T3 := hide (T2.out.below hb3)
    clear hb3 B2 T2
    go_wp2_with fail
    obtain ⟨L, M, hd, hrf, hL, hM⟩ := T3.out
    refine (size_any hd).mono ?_
    rintro e w4 ⟨rfl, rfl⟩
    have e4 : Hid (((newS n).n : Int) = (n : Int)) := rfl
    rw [e4.out]
    clear hd hrf hL hM
    go_wp2_with fail
    go_loopw [8] (fun i wr => ∃ (k : Nat) (s : Ds), k ≤ len ∧ i = .int .i64 k ∧ Hid (Below w.heap.size w wr) ∧ Hid (Two wr w.heap.size D E s s) ∧ Hid (s.ws.length ≤ k)) (fun i _ => len - (intOf i).toNat)
    case atStart => exact ⟨0, newS n, by omega, rfl, B3, T3, Nat.zero_le _⟩
    case round =>
      clear B3 T3
      obtain ⟨k, s, hk, rfl, HB, HT, HL⟩ := hrel
      by_cases hlt : k < len
      · obtain ⟨ob, off, rfl, oblt, hoc⟩ := H.out.cells (by omega)
        have OK := H.out.each k hlt
        have hr := rangeAt_same (hoc k hlt) (HB.out.block ob oblt)
        generalize hos : os k = o at *
        clear hos
        have HO := hide (OK.below HB.out)
        have HLT : Hid (0 < o.kl → ∀ b off, o.ka = some ⟨b, off, none⟩ → b < w.heap.size) := OK.lt
        obtain ⟨o0, o1, o2, o3, o4⟩ := opc_cells (kind := o.kind) (at_ := o.at_) (n := o.n) (fill := o.fill) (ka := o.ka) (kl := o.kl) (kc := o.kc) (ks := o.ks) hr
        clear OK hr hoc
        have i1 : (k : Int) < (len : Int) := by omega
        have i2 : (0 : Int) ≤ (k : Int) := by omega
        have WL : Hid (s.ws.length < 3000000000000) := by show _ < _; have := HL.out; omega
        have HN : Hid (w.heap.size ≤ wr.heap.size) := HB.out.size
        have TD : Hid (Two wr.drew w.heap.size D E s s ∧ OpOk wr.drew o) := ⟨HT.out.same (fun _ _ _ => rfl) (Nat.le_refl _), HO.out.below ⟨rfl, rfl, rfl, Nat.le_refl _, fun _ _ => rfl⟩⟩
        go_wp2_with fail
        go_cut [70] (fun t w' => t = .bool false ∧ ∃ s', Hid (Below w.heap.size w w') ∧ Hid (Two w' w.heap.size D E s' s') ∧ Hid (s'.ws.length ≤ k + 1))
        case first =>
          go_region_law (go_simp; first
            | (go_at_call 13; refine (step_any (w0 := w) TD.out.1 HN.out WL.out o TD.out.2 HLT.out).mono ?_; rintro e w5 ⟨s5, rfl, hb5, ht5, hl5⟩; have B5 : Hid (Below w.heap.size w w5) := HB.out.trans ⟨hb5.os, hb5.tape, hb5.output, hb5.size, hb5.block⟩; have T5 := hide ht5; have L5 := hide hl5; obtain ⟨L, M, hd5, hr5, _, _⟩ := ht5; obtain ⟨gk, ck, av, m, cv, hk5, _⟩ := hr5; have c1 := hk5.c1; have c3 := hk5.c3; have LE := hide hk5.len; have D5 := hide hd5; clear hb5 hl5 hd5 hk5)
            | (go_at_call 14; refine (down_any D5.out).mono ?_; rintro e w6 ⟨rfl, rfl⟩)
            | (go_at_call 15; refine (waiting_any D5.out).mono ?_; rintro e w6 ⟨rfl, rfl⟩; rw [← LE.out]))
          all_goals go_wp2_with fail
          all_goals (go_meet; case rel => exact ⟨by simp, s5, B5, T5, Nat.le_trans L5.out (Nat.succ_le_succ HL.out)⟩)
        case rest =>
          obtain ⟨rfl, s5, B5, T5, L5⟩ := hcut
          go_wp2_with fail
          go_roundw
          case rel => exact ⟨k + 1, s5, by omega, by go_num, B5, T5, L5⟩
          case measure => simp [intOf]; omega
      · obtain rfl : k = len := by omega
        go_wp2_with fail
        go_ret
        exact ⟨rfl, HB.out⟩

set_option maxRecDepth 100000 in
theorem lifted (os : Os) (started : os.Started) (H : Type) (enc : TypeId × Value → H) :
    ReturnsInHanded {} Try.checked os 3 .any (Rows.diskPlaysSpec.pre6 enc Try.prog Try.f3 Rows.diskPlaysRow.domain false) (Rows.diskPlaysSpec.post enc Try.prog Try.f3 false true false false) := by
  refine returnsInHanded_of_change_sized (C := Try.checked) own started (by kernel_rfl) Try.func3
    (ChangeSpec.witness6 (enc := enc) (C := Try.checked) false ⟨#[], #[.int .i64 0, .slice none 0 0], []⟩ 8 (by kernel_rfl) (by kernel_rfl) (by kernel_rfl) (by kernel_rfl)) ?_
  intro W base args ds gs before hval0 hW hcnd hsz0 _
  have hsz : (DataW.weightsEach Try.prog (Try.f3.params.toList ++ Rows.diskPlaysSpec.plain.varTypes Try.prog) (ds ++ gs)).all (· ≤ reachBytes) = true := hsz0
  have hval : ∀ (j : Nat) t v, Try.f3.params[j]? = some t → args[j]? = some v → Value.okWide Try.prog W .any base t v := hval0
  have hW' := hW
  obtain ⟨p, q, hA0, hV, rfl, hfz, hnd⟩ := hW
  have hA : DataW.TrodAll enc Try.prog W 0 (fun _ => true) true Try.f3.params.toList args.toList ds p := hA0
  rw [Try.params3] at hA hval hsz
  obtain ⟨v0, vs0, d0, ds0, p0, q0, hargs, rfl, rfl, h0, r0⟩ := trodAll_cons hA
  obtain ⟨v1, vs1, d1, ds1, p1, q1, rfl, rfl, rfl, h1, r1⟩ := trodAll_cons r0
  obtain ⟨rfl, rfl, rfl⟩ := trodAll_nil r1
  obtain rfl : args = #[v0, v1] := by cases args; simp_all
  obtain ⟨rfl, rfl⟩ := trodVars_none hV
  have lt0 : ∀ x ∈ p0, x.block < W.heap.size := by obtain ⟨m, hm⟩ := h0; exact DataW.trod_lt m _ _ _ hm
  obtain ⟨b, rfl, bb⟩ := open_i64 (hval 0 3 v0 rfl rfl) h0
  have lt1 : ∀ x ∈ p1, x.block < W.heap.size := by obtain ⟨m, hm⟩ := h1; exact DataW.trod_lt m _ _ _ hm
  obtain ⟨a, len, cap, os, rfl, ho⟩ := open_ops_held (hval 1 22 v1 rfl rfl) h1 (fun n hn => by have h := List.all_eq_true.1 hsz n (DataW.weights_mem_each (j := 1) rfl rfl n hn); simpa using h)
  clear hA0 hval0
  refine (walk ho b).mono fun e W' ⟨he, bel⟩ => ?_
  subst he
  exact ⟨_, rfl, _, _, _, [], _, [], hW', trodAll_mk1 (shut_bool Try.underlying4 _), (trodAll_cons_mk (Below.trod laidOut (by kernel_rfl) (of_decide_eq_true (by kernel_rfl)) h0 bel lt0) (trodAll_cons_mk (Below.trod laidOut (by kernel_rfl) (of_decide_eq_true (by kernel_rfl)) h1 bel lt1) trodAll_mk0)), rfl, bel.frame _, fun h => by cases h⟩

theorem over : Rows.diskPlaysRow.holds Try.pinned (OpenSpec.ofChange Rows.diskPlaysSpec) :=
  OpenClaim.holds_of_wide 3 Try.f3 rfl rfl rfl rfl rfl rfl rfl ⟨rfl, rfl, rfl, rfl, rfl⟩ rfl rfl rfl rfl rfl (by kernel_rfl) Try.func3 (by kernel_rfl)
    (of_decide_eq_true (by kernel_rfl)) (by unfold Func.isWrapper; first | (rw [if_pos (by decide +kernel)]; kernel_rfl) | (rw [if_neg (by decide +kernel)]; exact ⟨rfl, rfl⟩))
    (fun os started H enc _ => lifted os started H enc)

theorem proved : Rows.DiskPlaysSaid := over
#print axioms proved
end DiskPlays
theorem diskPlays_holds : Rows.DiskPlaysSaid := DiskPlays.proved
end Go.Proofs.Ytfkclebngldjmaa
