/- ClockForks: a fork is alike, and neither shows what is done to the other; names that were told stay: for every two lists of calls. No condition. -/
import Derived.Test.YtoganfdpaagomaaClockRan
import Derived.Test.YtoganfdpaagomaaClockFork
import Derived.Test.YtoganfdpaagomaaClockPlain
namespace Go.Proofs.Ytoganfdpaagomaa
open Go.ChangeShapes Go.WideShapes Go.ChangeAt Go.RowKit Cm
set_option linter.unusedVariables false

namespace ClockForks
theorem CMv.step {w w1 w2 : World} {C : Nat} {L L1 : Ql} {s2 : Cs} {B2 : Int} (hc : Chg (Cb C L) w w1) (m1 : ∀ k, Cb C L1 k → Cb C L k ∨ w.heap.size ≤ k) (h : CMv w1 C L1 s2 B2 w2) : CMv w C L s2 B2 w2 := by
  obtain ⟨hc2, L2, h2, m2⟩ := h
  refine ⟨hc.trans hc2 (fun k hk hm => by rcases m1 k hm with h | h; exact h; omega), L2, h2, fun k hk => ?_⟩
  rcases m2 k hk with h | h
  · exact m1 k h
  · exact .inr (Nat.le_trans hc.size h)
theorem tick_cmv {w w1 : World} {C : Nat} {L : Ql} {s : Cs} {B : Int} {e : Ending} (h : TickP w C L s B e w1) : (∃ v, e = .returned v) ∧ CMv w C L (tickS s) (B + 1) w1 := by
  obtain ⟨a, c, rfl, _, hc, L', h1, h2, _⟩ := h
  exact ⟨⟨_, rfl⟩, hc, L', h1, h2⟩
theorem bq {wb w10 w12 wq : World} {nb : Nat} (e : nb = wb.heap.size) (h3 : Below wb.heap.size wb w10) (h2 : Below w10.heap.size w10 w12) (h1 : Chg (fun j => nb ≤ j) w12 wq) : Below wb.heap.size wb wq := by
  subst e
  have a1 := h3.size
  have a2 := h2.size
  have a3 := h1.size
  exact ⟨h1.os.trans (h2.os.trans h3.os), h1.tape.trans (h2.tape.trans h3.tape), h1.output.trans (h2.output.trans h3.output), by omega, fun j hj => (h1.block j (by omega) (by omega)).trans ((h2.block j (by omega)).trans (h3.block j hj))⟩
set_option maxRecDepth 100000 in
set_option maxHeartbeats 4000000 in
theorem walk {w : World} {a a2 : Option Addr} {len len2 cap cap2 : Nat} {os os2 : Nat → Opd} (h : Ops w a len os) (h2 : Ops w a2 len2 os2) :
    Calls Try.prog 5 #[.slice a len cap, .slice a2 len2 cap2] w fun e w' => e = .returned (.bool true) ∧ Below w.heap.size w w' := by
  have RA := hide (ran_any (cap := cap) h)
  have RM := h.room
  have RM2 := h2.room
  have H2 := hide h2
  clear h h2
  go_enter Try.func5, Try.ntmps5
  go_wp2_with fail
  refine RA.out.mono ?_
  rintro e w1 ⟨D, s, rfl, hb1, hn1⟩
  have B1 := hide hb1
  have N1 := hide hn1
  clear hb1 hn1
  go_wp2_with fail
  refine (awake_any _).mono ?_
  rintro e w2 ⟨rfl, hb2⟩
  have B2 := hide (below_step B1.out hb2)
  obtain ⟨L, hc2, hL⟩ := N1.out.below hb2
  have CF := hide (fork_any hc2)
  have C2 := hide hc2
  have OK := hide hc2.ok
  clear hb2 B1 N1 hc2 RA
  go_wp2_with fail
  refine CF.out.mono ?_
  rintro e w3 ⟨D2, rfl, hb3, hn3⟩
  obtain ⟨L3, hf3, hL3⟩ := hn3
  have C3 := hide (C2.out.below hb3)
  have F3 := hide hf3
  have B3 := hide (below_step B2.out hb3)
  have LT2 : Hid (∀ k, Cb D2 L3 k → w2.heap.size ≤ k) := hL3
  have LC : Hid (∀ k, Cb D L k → k < w2.heap.size) := C2.out.lt
  have LB2 : Hid (w.heap.size ≤ w2.heap.size) := B2.out.size
  have NA := hide (names_any C3.out)
  have nl64 : Hid ((namesS s).length ≤ 1000) := by
    show _ ≤ _
    unfold namesS
    rw [names_length, (srt_perm s.r).length_eq]
    have := OK.out.len
    omega
  clear hb3 hf3 hL3 CF
  go_wp2_with fail
  refine NA.out.mono ?_
  intro e w4 hnp
  obtain ⟨la, lc, rfl, TD, hb4⟩ := hnp
  have T4 := hide TD
  have C4 := hide (C3.out.below hb4)
  have F4 := hide (F3.out.below hb4)
  have B4 := hide (below_step B3.out hb4)
  have S4 : Hid (StrL w4 la (namesS s)) := TD.strl rfl
  have OB : Hid (∀ k, (Value.slice la (namesS s).length lc).ownBlock = some k → ¬ Cb D2 L3 k ∧ k < w4.heap.size) := fun k hk => ⟨fun hx => by have h1 := F3.out.lt k hx; have h2 := (TD.lt k hk).1; omega, (TD.lt k hk).2⟩
  have CN1 := hide (now_any F4.out)
  have CN2 := hide (now_any C4.out)
  have CM1 := hide (names_any F4.out)
  clear hb4 TD NA
  go_wp2_with fail
  refine CN1.out.mono ?_
  rintro e w5 ⟨rfl, rfl⟩
  go_wp2_with fail
  refine CN2.out.mono ?_
  rintro e w5 ⟨rfl, rfl⟩
  go_wp2_with fail
  refine CM1.out.mono ?_
  intro e w6 hnp
  obtain ⟨la6, lc6, rfl, TD6, hb6⟩ := hnp
  have PL := hide (plain_same (c1 := lc6) (c2 := lc) (TD6.strl rfl) (S4.out.below hb6) nl64.out)
  have B6 := hide hb6
  clear hb6 TD6 CM1 CN1 CN2
  go_wp2_with fail
  refine PL.out.mono ?_
  rintro e w7 ⟨rfl, hb7⟩
  have B7 := hide (below_step B6.out hb7)
  have C7 := hide (C4.out.below B7.out)
  have F7 := hide (F4.out.below B7.out)
  have W7 := hide (below_step B4.out B7.out)
  have CN3 := hide (now_any C7.out)
  have T7 : Hid (Told w7 w3.heap.size (.slice la (namesS s).length lc) (namesS s)) := T4.out.same (fun k hk => B7.out.block k (OB.out k hk).2)
  clear hb7 PL B6
  go_wp2_with fail
  refine CN3.out.mono ?_
  rintro e w8 ⟨rfl, rfl⟩
  go_wp2_with fail
  clear CN3
  go_loopw [9] (fun i wr => ∃ (k : Nat) (s2 : Cs), k ≤ len2 ∧ i = .int .i64 k ∧ Hid (CMv w8 D2 L3 s2 ((len : Int) + k) wr)) (fun i _ => len2 - (intOf i).toNat)
  case atStart => exact ⟨0, s, Nat.zero_le _, rfl, by have := CMv.stay F7.out; rw [show (len : Int) + ((0 : Nat) : Int) = len by omega]; exact this⟩
  case round =>
    obtain ⟨k, s2, hk, rfl, HM⟩ := hrel
    by_cases hlt : k < len2
    · obtain ⟨hc, Lk, hck, hmk⟩ := HM.out
      have HC := hide hc
      have MK := hide hmk
      have CK := hide hck
      obtain ⟨ob, off, rfl, oblt, hoc⟩ := H2.out.cells (by omega)
      have SZ := hide (H2.out.each k hlt)
      have oD : Hid (¬ Cb D2 Lk ob) := fun hx => by
        have h2 := LB2.out
        rcases hmk ob hx with h1 | h1
        · have := LT2.out ob h1; omega
        · have := W7.out.size; omega
      have eo : wr.heap[ob]? = w.heap[ob]? := (hc.block ob (Nat.lt_of_lt_of_le oblt W7.out.size) (fun hx => by have h1 := LT2.out ob hx; have h2 := LB2.out; omega)).trans (W7.out.block ob oblt)
      have ol : Hid (ob < wr.heap.size) := Nat.lt_of_lt_of_le oblt (Nat.le_trans W7.out.size hc.size)
      have hr := rangeAt_same (hoc k hlt) eo
      generalize os2 k = o at *
      obtain ⟨kind, name, d⟩ := o
      obtain ⟨o0, o1, o2⟩ := opc_cells hr
      have i1 : (k : Int) < (len2 : Int) := by omega
      have i2 : (0 : Int) ≤ (k : Int) := by omega
      have KB : Hid ((len : Int) + (k : Int) < 1000000000000000000) := by show _ < _; omega
      have ek : (len : Int) + ((k + 1 : Nat) : Int) = (len : Int) + (k : Int) + 1 := by omega
      have EK := hide ek
      clear hr hoc oblt eo hc hmk hck ek
      by_cases k1 : kind = 1
      · subst k1
        have CS := hide (stop_any CK.out name SZ.out)
        go_wp2_with fail
        refine CS.out.mono ?_
        rintro e w9 ⟨rfl, hmv⟩
        have MV := hide (CMv.step HC.out MK.out hmv)
        clear hmv
        go_wp2_with fail
        go_roundw
        case rel => exact ⟨k + 1, stopS s2 name, by omega, by go_num, by obtain ⟨x1, L', x2, x3⟩ := MV.out; exact ⟨x1, L', x2.mono (by omega), x3⟩⟩
        case measure => simp [intOf]; omega
      · have z1 : (kind == 1) = false := by simpa using k1
        by_cases k2 : kind = 2
        · subst k2
          have CT := hide (tick_any CK.out KB.out)
          go_wp2_with fail
          refine CT.out.mono ?_
          intro e w9 ht
          obtain ⟨⟨v9, rfl⟩, hmv⟩ := tick_cmv ht
          have MV := hide (CMv.step HC.out MK.out hmv)
          clear ht hmv
          go_wp2_with fail
          go_roundw
          case rel => exact ⟨k + 1, tickS s2, by omega, by go_num, by rw [EK.out]; exact MV⟩
          case measure => simp [intOf]; omega
        · have z2 : (kind == 2) = false := by simpa using k2
          have CS := hide (set_any CK.out.drew KB.out name d)
          go_wp2_with fail
          go_region_held3 (fun u => u.cell? ⟨ob, off + k * 3 + 1, none⟩ = some (.string name) ∧ u.cell? ⟨ob, off + k * 3 + 2, none⟩ = some (.int .i64 d)) (first | go_keep | exact ⟨o1, o2⟩ | exact ⟨q1, q2⟩) ((first | (go_at_call 18; refine CS.out.mono ?_; rintro e w9 ⟨rfl, hmv⟩; have eo9 : w9.heap[ob]? = wr.heap[ob]? := hmv.1.block ob ol.out oD.out; have q1 : w9.cell? ⟨ob, off + k * 3 + 1, none⟩ = some (.string name) := (World.cell?_of_block (a := ⟨ob, off + k * 3 + 1, none⟩) eo9).trans o1; have q2 : w9.cell? ⟨ob, off + k * 3 + 2, none⟩ = some (.int .i64 d) := (World.cell?_of_block (a := ⟨ob, off + k * 3 + 2, none⟩) eo9).trans o2; have MV := hide (CMv.step HC.out.drew MK.out hmv); clear hmv eo9)))
          go_wp2_with fail
          go_roundw
          case rel => exact ⟨k + 1, setS s2 name d, by omega, by go_num, by rw [EK.out]; exact MV⟩
          case measure => simp [intOf]; omega
    · obtain rfl : k = len2 := by omega
      obtain ⟨hc, Lk, hck, hmk⟩ := HM.out
      have C9 := hide (C7.out.far hc (fun j hj hx => by have h1 := LC.out j hj; have h2 := LT2.out j hx; omega))
      have T9 : Hid (Told wr w3.heap.size (.slice la (namesS s).length lc) (namesS s)) := T7.out.same (fun j hj => hc.block j (T7.out.lt j hj).2 (OB.out j hj).1)
      have W9 : Hid (Below w.heap.size w wr) := W7.out.trans (hc.below W7.out.size (fun j hj => Nat.le_trans LB2.out (LT2.out j hj)))
      have NM := hide (names_any C9.out)
      clear hc hck hmk hlt hk HM
      go_wp2_with fail
      refine NM.out.mono ?_
      intro e w10 hnp
      obtain ⟨la10, lc10, rfl, TD10, hb10⟩ := hnp
      have T10 := hide TD10
      have B10 := hide hb10
      have C10 := hide (C9.out.below hb10)
      have S10 : Hid (StrL w10 la (namesS s)) := (T9.out.strl rfl).below hb10
      have PL := hide (plain_same (c1 := lc) (c2 := lc10) S10.out (TD10.strl rfl) nl64.out)
      have CN := hide (now_any C10.out)
      clear hb10 TD10 NM
      go_wp2_with fail
      refine CN.out.mono ?_
      rintro e w11 ⟨rfl, rfl⟩
      go_wp2_with fail
      refine PL.out.mono ?_
      rintro e w12 ⟨rfl, hb12⟩
      have B12 := hide hb12
      have ND := nl64.out
      clear hb12 CN PL
      go_wp2_with fail
      generalize hnm : namesS s = nms at *
      have HNM := hide hnm
      clear hnm
      obtain ⟨nb, enb⟩ : ∃ nb, nb = wr.heap.size := ⟨_, rfl⟩
      have ENB := hide enb
      have AFT : Hid (0 < nms.length → ∃ b cur, la10 = some ⟨b, 0, none⟩ ∧ nb ≤ b ∧ w12.heap[b]? = some (.cells cur 9 (0, 0)) ∧ nms.length ≤ cur.size) := fun h0 => by
        obtain ⟨_, ⟨e1, e2⟩ | ⟨b, cp, cur, e1, e2, e3, e4, e5, e6, e7⟩⟩ := T10.out
        · omega
        · refine ⟨b, cur, by simp at e1; exact e1.1, by rw [enb]; exact e2, (B12.out.block b (Array.getElem?_eq_some_iff.1 e3).1).trans e3, by omega⟩
      clear enb
      go_loopw [11] (fun iv wq => ∃ (i : Nat), i ≤ nms.length ∧ iv = .int .i64 i ∧ Hid (Chg (fun j => nb ≤ j) w12 wq ∧ ∀ b cur, la10 = some ⟨b, 0, none⟩ → w12.heap[b]? = some (.cells cur 9 (0, 0)) → ∃ cur', wq.heap[b]? = some (.cells cur' 9 (0, 0)) ∧ cur'.size = cur.size)) (fun iv _ => nms.length - (intOf iv).toNat)
      case atStart => exact ⟨0, Nat.zero_le _, rfl, Chg.refl _ _, fun b cur _ hc => ⟨cur, hc, rfl⟩⟩
      case round =>
        obtain ⟨i, hi, rfl, WQ⟩ := hrel
        by_cases hlt : i < nms.length
        · obtain ⟨b, cur, rfl, hbw, hcur, hsz⟩ := AFT.out (by omega)
          obtain ⟨cur', hc', hs'⟩ := WQ.out.2 b cur rfl hcur
          obtain ⟨v0, hv0⟩ : ∃ v, wr.cell? ⟨b, i, none⟩ = some v := by
            rw [cell_of_row wr b i _ _ _ hc']
            exact ⟨_, Array.getElem?_eq_getElem (by omega)⟩
          have fz : wr.frozen? ⟨b, i, none⟩ = false := by simp [World.frozen?, hc']
          have NX : Hid (Chg (fun j => nb ≤ j) w12 (wr.setCell ⟨b, i, none⟩ (.string ⟨#[103, 111, 110, 101]⟩)) ∧ ∀ b1 cur1, some (⟨b, 0, none⟩ : Addr) = some ⟨b1, 0, none⟩ → w12.heap[b1]? = some (.cells cur1 9 (0, 0)) → ∃ cur2, (wr.setCell ⟨b, i, none⟩ (.string ⟨#[103, 111, 110, 101]⟩)).heap[b1]? = some (.cells cur2 9 (0, 0)) ∧ cur2.size = cur1.size) := by
            refine ⟨WQ.out.1.setCell (p := ⟨b, i, none⟩) (.inl hbw) _, fun b1 cur1 e1 h1 => ?_⟩
            obtain rfl : b = b1 := by simpa using e1
            rw [hcur] at h1
            obtain rfl : cur = cur1 := by simpa using h1
            exact ⟨cur'.setIfInBounds i (.string ⟨#[103, 111, 110, 101]⟩), by simp [World.setCell, Array.getElem?_modify, hc'], by simpa using hs'⟩
          have j1 : (i : Int) < (nms.length : Int) := by omega
          have j2 : (0 : Int) ≤ (i : Int) := by omega
          clear hcur hc' hs' hsz hbw
          go_wp2_with fail
          go_roundw
          case rel => exact ⟨i + 1, by omega, by go_num, NX⟩
          case measure => simp [intOf]; omega
        · obtain rfl : i = nms.length := by omega
          have BQ := hide (bq ENB.out B10.out B12.out WQ.out.1)
          have CQ := hide (C9.out.below BQ.out)
          have NQ := hide (names_any CQ.out)
          rw [HNM.out] at NQ
          have SQ : Hid (StrL wr la nms) := (T9.out.strl rfl).below BQ.out
          clear hlt hi
          go_wp2_with fail
          refine NQ.out.mono ?_
          intro e w13 hnp
          obtain ⟨la13, lc13, rfl, TD13, hb13⟩ := hnp
          have PL := hide (plain_same (c1 := lc13) (c2 := lc) (TD13.strl rfl) (SQ.out.below hb13) ND)
          have B13 := hide hb13
          clear hb13 TD13
          go_wp2_with fail
          refine PL.out.mono ?_
          rintro e w14 ⟨rfl, hb14⟩
          have FIN := hide (below_step (below_step (below_step W9.out BQ.out) B13.out) hb14)
          clear hb14
          go_wp2_with fail
          go_ret
          exact ⟨rfl, FIN.out⟩

set_option maxRecDepth 100000 in
theorem lifted (os : Os) (started : os.Started) (H : Type) (enc : TypeId × Value → H) :
    ReturnsInHanded {} Try.checked os 5 .any (Rows.clockForksSpec.pre6 enc Try.prog Try.f5 Rows.clockForksRow.domain false) (Rows.clockForksSpec.post enc Try.prog Try.f5 false true false false) := by
  refine returnsInHanded_of_change_sized (C := Try.checked) own started (by kernel_rfl) Try.func5
    (ChangeSpec.witness6 (enc := enc) (C := Try.checked) false ⟨#[], #[.slice none 0 0, .slice none 0 0], []⟩ 8 (by kernel_rfl) (by kernel_rfl) (by kernel_rfl) (by kernel_rfl)) ?_
  intro W base args ds gs before hval0 hW hcnd hsz0 _
  have hsz : (DataW.weightsEach Try.prog (Try.f5.params.toList ++ Rows.clockForksSpec.plain.varTypes Try.prog) (ds ++ gs)).all (· ≤ reachBytes) = true := hsz0
  have hval : ∀ (j : Nat) t v, Try.f5.params[j]? = some t → args[j]? = some v → Value.okWide Try.prog W .any base t v := hval0
  have hW' := hW
  obtain ⟨p, q, hA0, hV, rfl, hfz, hnd⟩ := hW
  have hA : DataW.TrodAll enc Try.prog W 0 (fun _ => true) true Try.f5.params.toList args.toList ds p := hA0
  rw [Try.params5] at hA hval hsz
  obtain ⟨v0, vs0, d0, ds0, p0, q0, hargs, rfl, rfl, h0, r0⟩ := trodAll_cons hA
  obtain ⟨v1, vs1, d1, ds1, p1, q1, rfl, rfl, rfl, h1, r1⟩ := trodAll_cons r0
  obtain ⟨rfl, rfl, rfl⟩ := trodAll_nil r1
  obtain rfl : args = #[v0, v1] := by cases args; simp_all
  obtain ⟨rfl, rfl⟩ := trodVars_none hV
  have lt0 : ∀ x ∈ p0, x.block < W.heap.size := by obtain ⟨m, hm⟩ := h0; exact DataW.trod_lt m _ _ _ hm
  obtain ⟨a, len, cap, os, rfl, ho⟩ := open_ops_held (hval 0 22 v0 rfl rfl) h0 (fun n hn => by have h := List.all_eq_true.1 hsz n (DataW.weights_mem_each (j := 0) rfl rfl n hn); simpa using h)
  have lt1 : ∀ x ∈ p1, x.block < W.heap.size := by obtain ⟨m, hm⟩ := h1; exact DataW.trod_lt m _ _ _ hm
  obtain ⟨a2, len2, cap2, os2, rfl, ho2⟩ := open_ops_held (hval 1 22 v1 rfl rfl) h1 (fun n hn => by have h := List.all_eq_true.1 hsz n (DataW.weights_mem_each (j := 1) rfl rfl n hn); simpa using h)
  clear hA0 hval0
  refine (walk ho ho2).mono fun e W' ⟨he, bel⟩ => ?_
  subst he
  exact ⟨_, rfl, _, _, _, [], _, [], hW', trodAll_mk1 (shut_bool Try.underlying4 _), (trodAll_cons_mk (Below.trod laidOut (by kernel_rfl) (of_decide_eq_true (by kernel_rfl)) h0 bel lt0) (trodAll_cons_mk (Below.trod laidOut (by kernel_rfl) (of_decide_eq_true (by kernel_rfl)) h1 bel lt1) trodAll_mk0)), rfl, bel.frame _, fun h => by cases h⟩

theorem over : Rows.clockForksRow.holds Try.pinned (OpenSpec.ofChange Rows.clockForksSpec) :=
  OpenClaim.holds_of_wide 5 Try.f5 rfl rfl rfl rfl rfl rfl rfl ⟨rfl, rfl, rfl, rfl, rfl⟩ rfl rfl rfl rfl rfl (by kernel_rfl) Try.func5 (by kernel_rfl)
    (of_decide_eq_true (by kernel_rfl)) (by unfold Func.isWrapper; first | (rw [if_pos (by decide +kernel)]; kernel_rfl) | (rw [if_neg (by decide +kernel)]; exact ⟨rfl, rfl⟩))
    (fun os started H enc _ => lifted os started H enc)

theorem proved : Rows.ClockForksSaid := over
#print axioms proved
end ClockForks
theorem clockForks_holds : Rows.ClockForksSaid := ClockForks.proved
end Go.Proofs.Ytoganfdpaagomaa
