/- AcceptPromise: behind a promise nothing lower is accepted or promised, and the promise tells all votes from the slot on; what is accepted then is told by the next: for every list of calls, ballots, slots and values. No condition. -/
import Derived.Test.YtdnniokpkamjjaaAccKeepMath
import Derived.Test.YtdnniokpkamjjaaAccVote
import Derived.Test.YtdnniokpkamjjaaAccLoad
import Derived.Test.YtdnniokpkamjjaaAccAwake
import Derived.Test.YtdnniokpkamjjaaAccShort
import Derived.Deep.CutRange
namespace Go.Proofs.Ytdnniokpkamjjaa
namespace AcceptPromise
open Go.ChangeShapes Go.WideShapes Go.ChangeAt Go.RowKit B8 Am
set_option linter.unusedVariables false

theorem from_put {vs : List Vt} {v : Vt} (h : vs.Pairwise (fun a b => a.s < b.s)) : ∃ r, fromL (put vs v) v.s = v :: r := by
  refine ⟨vs.filter (fun u => decide (v.s < u.s)), ?_⟩
  unfold fromL put
  rw [List.filter_append, List.filter_cons, if_pos (by simp), List.filter_eq_nil_iff.2 (fun u hu => by have := (List.mem_filter.1 hu).2; simp at this ⊢; omega), List.filter_eq_self.2 (fun u hu => by have := (List.mem_filter.1 hu).2; simp at this ⊢; omega)]
  rfl
/-- the promised list, as far as it has been gone through -/
theorem from_at {vs : List Vt} {f : Int} {i : Nat} {v : Vt} (hi : vs[i]? = some v) (hv : f ≤ v.s) : (fromL vs f)[(fromL (vs.take i) f).length]? = some v := by
  have lk : i < vs.length := (List.getElem?_eq_some_iff.1 hi).1
  have e : fromL vs f = fromL (vs.take i) f ++ v :: fromL (vs.drop (i + 1)) f := by
    have h1 : vs = vs.take i ++ v :: vs.drop (i + 1) := by
      have h2 := List.drop_eq_getElem_cons lk
      rw [(List.getElem?_eq_some_iff.1 hi).2] at h2
      rw [← h2, List.take_append_drop]
    have h3 : fromL (vs.take i ++ v :: vs.drop (i + 1)) f = fromL (vs.take i) f ++ v :: fromL (vs.drop (i + 1)) f := by
      unfold fromL
      rw [List.filter_append, List.filter_cons, if_pos (by simpa using hv)]
    rw [← h1] at h3
    exact h3
  rw [e, List.getElem?_append_right (Nat.le_refl _), Nat.sub_self]
  rfl
theorem from_take {vs : List Vt} {f : Int} {i : Nat} {v : Vt} (hi : vs[i]? = some v) : (fromL (vs.take (i + 1)) f).length = (fromL (vs.take i) f).length + if f ≤ v.s then 1 else 0 := by
  have lk : i < vs.length := (List.getElem?_eq_some_iff.1 hi).1
  rw [List.take_succ_eq_append_getElem lk, (List.getElem?_eq_some_iff.1 hi).2]
  unfold fromL
  rw [List.filter_append]
  by_cases h : f ≤ v.s <;> simp [h]
set_option maxRecDepth 100000 in
set_option maxHeartbeats 6000000 in
theorem walk {w : World} {a : Option Addr} {len cap : Nat} {os : Nat → Opd} (h : Ops w a len os) (br bn f lr ln sl : Int) (hsl : sl ≤ 9223372036854775807) {va : Option Addr} {vm vc : Nat} {vb : List Int} (q : Sq w va vm vc vb) (qr : vc * 1 ≤ 140737488351232) :
    Calls Try.prog 6 #[.slice a len cap, .agg #[.int .i64 br, .int .i64 bn], .int .i64 f, .agg #[.int .i64 lr, .int .i64 ln], .int .i64 sl, .slice va vm vc] w fun e w' => e = .returned (.bool true) ∧ Below w.heap.size w w' := by
  obtain ⟨N1, eN1⟩ : ∃ N1, N1 = w.heap.size := ⟨_, rfl⟩
  obtain ⟨N2, eN2⟩ : ∃ N2, N2 = w.heap.size + 1 := ⟨_, rfl⟩
  obtain ⟨u, eu⟩ : ∃ u, u = (w.alloc (.cells #[.int .i64 br, .int .i64 bn] 30)).alloc (.cells #[.int .i64 lr, .int .i64 ln] 30) := ⟨_, rfl⟩
  have BU : Hid (Below w.heap.size w u) := by rw [eu]; exact below_alloc (below_alloc (Below.refl _ _) _) _
  have X1 : Hid (V2 u N1 br bn) := by rw [eu, eN1]; exact (v2_new w br bn).below (below_alloc (Below.refl _ _) _)
  have X2 : Hid (V2 u N2 lr ln) := by
    have h0 := v2_new (w.alloc (.cells #[.int .i64 br, .int .i64 bn] 30)) lr ln
    have h1 : (w.alloc (.cells #[.int .i64 br, .int .i64 bn] 30)).heap.size = w.heap.size + 1 := by simp
    rw [h1] at h0
    rw [eu, eN2]
    exact h0
  have EU := hide eu
  have EN1 := hide eN1
  have EN3 : Hid (N2 = N1 + 1) := by show _ = _; omega
  have QU : Hid (Sq u va vm vc vb) := q.below BU.out
  have VM : Hid (vm ≤ 140737488351232) := by have := q.lecap; show _ ≤ _; omega
  have VL : Hid (vb.length = vm) := q.length
  have RA := hide (ran_any (cap := cap) (h.below BU.out))
  clear h eu eN1 eN2 q
  go_enter Try.func6, Try.ntmps6
  go_upto_region 1 with fail
  rw [← EU.out, ← EN1.out, ← EN3.out]
  go_wp2_with fail
  refine RA.out.mono ?_
  rintro e w1 ⟨A, mb, s, rfl, hb1, ha1⟩
  have B1 := hide hb1
  have A1 := hide ha1
  clear hb1 ha1
  go_wp2_with fail
  refine (awake_any _).mono ?_
  rintro e w2 ⟨rfl, hb2⟩
  have B2 := hide (below_step B1.out hb2)
  have A2 := hide (A1.out.below hb2)
  have OK := hide A1.out.ac.ok
  clear hb2 A1 B1
  have NU : Hid (u.heap.size ≤ w2.heap.size) := B2.out.size
  obtain ⟨x0, x1⟩ := X1.out.below B2.out
  go_wp2_with fail
  refine (prepare_any A2.out.ac br bn f).mono ?_
  rintro e w3 ⟨al, ml, cl, ll, rfl, hm3, ht3, hl3⟩
  have M3 := hide (A2.out.move NU.out hm3)
  have B3 : Hid (Below u.heap.size u w3) := B2.out.trans M3.out.2
  have A3 := hide M3.out.1
  have T3 := hide ht3.vl
  have L3 := hide hl3
  have N3 : Hid (u.heap.size ≤ w3.heap.size) := B3.out.size
  clear hm3 ht3 hl3 x0 x1 M3 A2 RA
  have FIN : Hid (∀ y, Below w3.heap.size w3 y → Below w.heap.size w y) := fun y hy => below_step (below_step BU.out B3.out) hy
  by_cases he : prepE s br bn = 0
  · have hmay : mayB br bn = true := by
      cases hm : mayB br bn
      · simp [prepE, hm] at he
      · rfl
    have ES : prepS s br bn = { s with pr := br, pn := bn } := by simp [prepS, he]
    have EL : prepL s br bn f = fromL s.vs f := by simp [prepL, he]
    rw [EL] at L3
    rw [ES] at A3
    have OKT := hide (ok_prep OK.out br bn)
    rw [ES] at OKT
    obtain ⟨t, et⟩ : ∃ t, t = ({ s with pr := br, pn := bn } : As) := ⟨_, rfl⟩
    have TP : Hid (t.pr = br ∧ t.pn = bn ∧ t.vs = s.vs ∧ t.first = s.first) := by rw [et]; exact ⟨rfl, rfl, rfl, rfl⟩
    rw [← et] at A3 OKT
    have HM := hide hmay
    rw [he]
    clear he ES EL et hmay FIN
    go_wp2_with fail
    refine (votes_any A3.out.ac).mono ?_
    rintro e w4 ⟨aa, ma, ca, la, rfl, hb4, ht4, hl4⟩
    have B4 := hide (below_step B3.out hb4)
    have A4 := hide (A3.out.below hb4)
    have T4 := hide ht4.vl
    have LA : Hid (la.map Vv.vt = s.vs) := by show _ = _; rw [hl4, TP.out.2.2.1]
    have SH := hide (told_short ht4 hl4 A3.out.ac.ok)
    have T5 := hide (T3.out.below hb4)
    have M16 : ma ≤ 16 := by
      have h1 := ht4.vl.len
      have h2 := length_le OK.out
      rw [← LA.out] at h2
      simp at h2
      omega
    have ML : Hid (ml = (fromL s.vs f).length) := by show _ = _; rw [← L3.out]; simp; exact T3.out.len.symm
    have ML16 : ml ≤ 16 := by
      have h1 := ML.out
      have h2 := List.length_filter_le (fun v : Vt => decide (f ≤ v.s)) s.vs
      have h3 := length_le OK.out
      unfold fromL at h1
      omega
    clear hb4 ht4 hl4 T3 A3
    obtain ⟨Ba, eBa⟩ : ∃ Ba, Ba = w3.heap.size := ⟨_, rfl⟩
    rw [← eBa] at T4
    obtain ⟨Bl, eBl⟩ : ∃ Bl, Bl = w2.heap.size := ⟨_, rfl⟩
    rw [← eBl] at T5
    clear eBa eBl
    go_wp2_with fail
    go_loopw [17, 18] (fun tk ti wr => ∃ (i kk : Nat), i ≤ ma ∧ ti = .int .i64 i ∧ tk = .int .i64 kk ∧ Hid (kk = (fromL (s.vs.take i) f).length) ∧ Hid (Below w4.heap.size w4 wr)) (fun _ ti _ => ma - (intOf ti).toNat)
    case atStart => exact ⟨0, 0, Nat.zero_le _, rfl, rfl, rfl, Below.refl _ _⟩
    case round =>
      obtain ⟨i, kk, hi, rfl, rfl, HK, HW⟩ := hrel
      by_cases hlt : i < ma
      · have j1 : (i : Int) < (ma : Int) := by omega
        have j2 : (0 : Int) ≤ (i : Int) := by omega
        have lk : i < la.length := by have := T4.out.len; omega
        obtain ⟨p, hp⟩ : ∃ p, la[i]? = some p := ⟨la[i], by simp [lk]⟩
        have hpv : s.vs[i]? = some p.vt := by rw [← LA.out]; simp [hp]
        have TW := hide (T4.out.below HW.out)
        have NK : Hid ((fromL (s.vs.take (i + 1)) f).length = kk + if f ≤ p.s then 1 else 0) := by show _ = _; rw [from_take hpv, ← HK.out]; rfl
        obtain ⟨g, rfl, _, hg, d0, d1, d2, d3⟩ := TW.out.at hp
        by_cases hf : p.s < f
        · have NK2 : Hid (kk = (fromL (s.vs.take (i + 1)) f).length) := by show _ = _; rw [NK.out, if_neg (by omega)]; rfl
          clear hp hpv lk TW d1 d2 d3 hg
          go_wp2_with fail
          go_roundw
          case rel => exact ⟨i + 1, kk, by omega, by go_num, rfl, NK2, HW⟩
          case measure => simp [intOf]; omega
        · have hf' : f ≤ p.s := by omega
          have NK2 : Hid (kk + 1 = (fromL (s.vs.take (i + 1)) f).length) := by show _ = _; rw [NK.out, if_pos hf']
          have hat : (fromL s.vs f)[kk]? = some p.vt := by rw [HK.out]; exact from_at hpv hf'
          obtain ⟨pl, hpl, hvt⟩ : ∃ pl, ll[kk]? = some pl ∧ pl.vt = p.vt := by
            rw [← L3.out, List.getElem?_map] at hat
            cases hx : ll[kk]? with
            | none => rw [hx] at hat; simp at hat
            | some pl => rw [hx] at hat; exact ⟨pl, rfl, by simpa using hat⟩
          have kl : kk < ml := by have h1 := (List.getElem?_eq_some_iff.1 hpl).1; have h2 := T5.out.len; omega
          have T5W := hide (T5.out.below HW.out)
          obtain ⟨gl, rfl, _, _, f0, f1, f2, f3⟩ := T5W.out.at hpl
          have PI := hide (TW.out.ins p (List.mem_of_getElem? hp))
          have PJ := hide (T5W.out.ins pl (List.mem_of_getElem? hpl))
          have PM : Hid (pl.m ≤ 140737488355328) := by
            have h1 := SH.out.2 p (List.mem_of_getElem? hp)
            have h2 := PI.out.1.length
            have h3 := PJ.out.1.length
            have h4 : pl.b = p.b := congrArg Vt.b hvt
            show _ ≤ _
            rw [h4] at h3
            omega
          have CV : Hid (∀ y : World, Below wr.heap.size wr y → Calls Try.prog 26 #[.agg #[.int .i64 pl.s, .int .i64 pl.r, .int .i64 pl.n, .slice pl.a pl.m pl.cp], .agg #[.int .i64 p.s, .int .i64 p.r, .int .i64 p.n, .slice p.a p.m p.cp]] y fun e w' => e = .returned (.bool true) ∧ Below y.heap.size y w') := fun y hy => vote_same (PJ.out.1.below hy) (PI.out.1.below hy) PM.out hvt
          have q1 : decide ((ml : Int) ≤ (kk : Int)) = false := decide_eq_false (by omega)
          have q2 : ((ml : Int) ≤ (kk : Int)) = False := eq_false (by omega)
          have q3 : (kk : Int) < (ml : Int) := by omega
          have q4 : (0 : Int) ≤ (kk : Int) := by omega
          have q5 : decide (ml ≤ kk) = false := decide_eq_false (by omega)
          have kb : kk < 16 := by omega
          clear hp hpv lk TW hg hat hpl hvt kl T5W hf
          go_wp2_with fail
          refine wp_region_cells wr [(⟨gl, kk * 4, none⟩, .int .i64 pl.s), (⟨gl, kk * 4 + 1, none⟩, .int .i64 pl.r), (⟨gl, kk * 4 + 2, none⟩, .int .i64 pl.n), (⟨gl, kk * 4 + 3, none⟩, .slice pl.a pl.m pl.cp), (⟨g, i * 4, none⟩, .int .i64 p.s), (⟨g, i * 4 + 1, none⟩, .int .i64 p.r), (⟨g, i * 4 + 2, none⟩, .int .i64 p.n), (⟨g, i * 4 + 3, none⟩, .slice p.a p.m p.cp)] (by kernel_rfl) (by kernel_rfl) (Below.refl _ _) (by simp [AllCells, d0, d1, d2, d3, f0, f1, f2, f3]) ?_
          intro hne qq
          simp only [AllCells, and_true] at qq
          clear d0 d1 d2 d3 f0 f1 f2 f3
          repeat (go_big_quiet_step (first | (go_at_call 26; exact Held.call _ (CV.out _ (Held.below _)))))
          refine wpQuiet_nil ?_
          rintro _ ⟨y, rfl⟩
          have BQ : Hid (Below w4.heap.size w4 y.x) := below_step HW.out y.below
          clear qq hne q1 q2 q3 q4 q5 CV
          go_wp2_with fail
          go_roundw
          case rel => exact ⟨i + 1, kk + 1, by omega, by go_num, by go_num, NK2, BQ⟩
          case measure => simp [intOf]; omega
      · obtain rfl : ma = i := by omega
        obtain rfl : ml = kk := by rw [HK.out, ML.out, List.take_of_length_le (by have h1 := T4.out.len; rw [← LA.out]; simp; omega)]
        clear hlt hi HK
        obtain ⟨w5, e5⟩ : ∃ w5, w5 = wr := ⟨_, rfl⟩
        rw [← e5] at HW
        have E5 := hide e5
        go_upto_region 16 with fail
        rw [← E5.out]
        clear e5 E5
        have B5 : Hid (Below u.heap.size u w5) := below_step B4.out HW.out
        have A5 := hide (A4.out.below HW.out)
        have T6 := hide (T4.out.below HW.out)
        clear A4 T4 HW B4 T5
        have CP : Hid (∀ y : World, Below w5.heap.size w5 y → Calls Try.prog 13 #[.pointer (some ⟨A, 0, none⟩)] y fun e w' => e = .returned (.agg #[.int .i64 br, .int .i64 bn]) ∧ Below y.heap.size y w') := fun y hy => by
          have h1 := promised_any (A5.out.below hy).ac
          rw [TP.out.1, TP.out.2.1] at h1
          exact h1
        obtain ⟨x0, x1⟩ := X1.out.below B5.out
        refine wp_region_cells w5 [(⟨N1, 0, none⟩, .int .i64 br), (⟨N1, 1, none⟩, .int .i64 bn)] (by kernel_rfl) (by kernel_rfl) (Below.refl _ _) (by simp [AllCells, x0, x1]) ?_
        intro hne qq
        simp only [AllCells, and_true] at qq
        clear x0 x1
        repeat (go_big_quiet_step (first | (go_at_call 13; exact Held.call _ (CP.out _ (Held.below _)))))
        refine wpQuiet_nil ?_
        rintro _ ⟨y, rfl⟩
        obtain ⟨w6, e6⟩ : ∃ w6, w6 = y.x := ⟨_, rfl⟩
        have b6 : Below w5.heap.size w5 w6 := by rw [e6]; exact y.below
        rw [← e6]
        have B6 := hide (below_step B5.out b6)
        have A6 := hide (A5.out.below b6)
        have T7 := hide (T6.out.below b6)
        clear e6 qq hne CP b6 A5 T6 B5
        obtain ⟨y0, y1⟩ := X1.out.below B6.out
        obtain ⟨z0, z1⟩ := X2.out.below B6.out
        have N6 : Hid (u.heap.size ≤ w6.heap.size) := B6.out.size
        obtain ⟨lb, hlb⟩ : ∃ lb, lessB lr ln br bn = lb := ⟨_, rfl⟩
        have CL := hide (fun y => lless_lit hlb y)
        have HLB := hide hlb
        clear hlb
        go_wp2_with fail
        refine (CL.out _).mono ?_
        rintro e w7 ⟨rfl, hb7⟩
        have B7 := hide (below_step B6.out hb7)
        have A7 := hide (A6.out.below hb7)
        have T8 := hide (T7.out.below hb7)
        clear hb7 y0 y1 z0 z1
        go_upto_if 114 with fail
        go_cut [] from 115 to 145 (fun wc => Hid (Below u.heap.size u wc) ∧ Hid (AcN wc u.heap.size (fun k => u.heap.size ≤ k) A mb t))
        case first =>
          cases lb
          · go_wp2_with fail
            go_meet
            case rel => exact ⟨B7, A7⟩
          · skip
            have PN : Hid (prepE t lr ln ≠ 0) := fun e => by
              unfold prepE at e
              rw [TP.out.1, TP.out.2.1, HLB.out] at e
              split at e <;> simp at e
            obtain ⟨z0, z1⟩ := X2.out.below B7.out
            go_wp2_with fail
            refine (prepare_any A7.out.ac lr ln 1).mono ?_
            rintro e w8 ⟨a8, m8, c8, l8, rfl, hm8, _⟩
            have ES : prepS t lr ln = t := by simp [prepS, PN.out]
            rw [ES] at hm8
            have M8 := hide (A7.out.move B7.out.size hm8)
            have B8 : Hid (Below u.heap.size u w8) := B7.out.trans M8.out.2
            have A8 := hide M8.out.1
            have T9 : Hid (Vl w8 Ba (fun k => Ba ≤ k) aa ma ca la) := T8.out.chg hm8.1 (fun k hk => ⟨A7.out.ac.noV k hk, .inr (A7.out.ac.noB k hk)⟩)
            obtain ⟨ef, hef⟩ : ∃ ef, ef = prepE t lr ln := ⟨_, rfl⟩
            rw [← hef]
            have f1 : (ef == 0) = false := by rw [hef]; simpa using PN.out
            have f2 : (ef = 0) = False := eq_false (by rw [hef]; exact PN.out)
            have f3 : decide (ef = 0) = false := decide_eq_false (by rw [hef]; exact PN.out)
            clear hm8 M8 ES hef z0 z1 T8
            obtain ⟨z0, z1⟩ := X2.out.below B8.out
            have AN : Hid (accE t (Vv.vt ⟨sl, lr, ln, va, vm, vc, vb⟩) ≠ 0) := fun e => by
              have h1 := (accE_zero e).2.1
              have h2 : lessB lr ln t.pr t.pn = false := h1
              rw [TP.out.1, TP.out.2.1, HLB.out] at h2
              cases h2
            go_wp2_with fail
            refine (accept_any A8.out.ac (fun k hk => Nat.le_trans B8.out.size hk) ⟨sl, lr, ln, va, vm, vc, vb⟩ (QU.out.below B8.out)).mono ?_
            rintro e w9 ⟨rfl, hm9⟩
            have ES : accS t (Vv.vt ⟨sl, lr, ln, va, vm, vc, vb⟩) = t := by simp [accS, AN.out]
            rw [ES] at hm9
            have M9 := hide (A8.out.move B8.out.size hm9)
            have B9 : Hid (Below u.heap.size u w9) := B8.out.trans M9.out.2
            have A9 := hide M9.out.1
            have T10 : Hid (Vl w9 Ba (fun k => Ba ≤ k) aa ma ca la) := T9.out.chg hm9.1 (fun k hk => ⟨A8.out.ac.noV k hk, .inr (A8.out.ac.noB k hk)⟩)
            obtain ⟨eg, heg⟩ : ∃ eg, eg = accE t (Vv.vt ⟨sl, lr, ln, va, vm, vc, vb⟩) := ⟨_, rfl⟩
            rw [← heg]
            have g1 : (eg == 0) = false := by rw [heg]; simpa using AN.out
            have g2 : (eg = 0) = False := eq_false (by rw [heg]; exact AN.out)
            have g3 : decide (eg = 0) = false := decide_eq_false (by rw [heg]; exact AN.out)
            clear hm9 M9 ES heg z0 z1 T9 A8
            obtain ⟨x0, x1⟩ := X1.out.below B9.out
            have AD : Hid (Ac w9.drew (fun k => u.heap.size ≤ k) A mb t) := A9.out.ac.drew
            have CP := hide (promised_any AD.out)
            rw [TP.out.1, TP.out.2.1] at CP
            go_wp2_with fail
            go_region_held3 (fun v => v.cell? ⟨N1, 0, none⟩ = some (.int .i64 br) ∧ v.cell? ⟨N1, 1, none⟩ = some (.int .i64 bn)) (first | go_keep | exact ⟨x0, x1⟩ | exact X11.out | exact X12.out | exact X13.out) ((first
              | (go_at_call 13; refine CP.out.mono ?_; rintro e w11 ⟨rfl, hb11⟩; have B11 : Hid (Below w9.heap.size w9 w11) := (Below.refl _ _).drew.trans hb11; have X11 := hide (X1.out.below (below_step B9.out B11.out)); have CV := hide (votes_any (A9.out.below B11.out).ac); clear hb11)
              | (go_at_call 16; refine CV.out.mono ?_; rintro e w12 ⟨a12, m12, c12, l12, rfl, hb12, ht12, hl12⟩; have B12 := hide (below_step B11.out hb12); have X12 := hide (X1.out.below (below_step B9.out B12.out)); have SX := told_short ht12 hl12 A9.out.ac.ok; have CE := hide (votes_vl ht12.vl (T10.out.below B12.out) (hl12.trans (TP.out.2.2.1.trans LA.out.symm)) SX.1 SX.2); clear hb12 ht12 hl12 SX)
              | (go_at_call 15; refine CE.out.mono ?_; rintro e w13 ⟨rfl, hb13⟩; have B13 := hide (below_step B12.out hb13); have X13 := hide (X1.out.below (below_step B9.out B13.out)); clear hb13)))
            all_goals
              have F1 := hide (below_step B9.out B13.out)
              have F2 := hide (A9.out.below B13.out)
              go_wp2_with fail
              go_meet
              case rel => exact ⟨F1, F2⟩
        case rest =>
          obtain ⟨BC, AC⟩ := hcut
          clear A6 T7 B6 CL HLB N6 A7 T8 B7
          obtain ⟨y0, y1⟩ := X1.out.below BC.out
          go_wp2_with fail
          refine (accept_any AC.out.ac (fun k hk => Nat.le_trans BC.out.size hk) ⟨sl, br, bn, va, vm, vc, vb⟩ (QU.out.below BC.out)).mono ?_
          rintro e w14 ⟨rfl, hm14⟩
          have M14 := hide (AC.out.move BC.out.size hm14)
          have B14 : Hid (Below u.heap.size u w14) := BC.out.trans M14.out.2
          have A14 := hide M14.out.1
          clear hm14 M14 y0 y1
          have NL : Hid (lessB br bn t.pr t.pn = false) := by show _ = _; rw [TP.out.1, TP.out.2.1]; exact lessB_self _ _
          have lo := OK.out.lo
          have hi := OK.out.hi
          have EF : Hid (t.first = s.first) := TP.out.2.2.2
          by_cases hf : vm ≤ 2048
          · have EE : Hid (accE t (Vv.vt ⟨sl, br, bn, va, vm, vc, vb⟩) = if sl < s.first then 80 else if s.first + 16 ≤ sl then 81 else 0) := by
              have h1 : fitsB (Vv.vt ⟨sl, br, bn, va, vm, vc, vb⟩) = true := by simp [fitsB, Vv.vt, HM.out, VL.out, hf]
              show _ = _
              rw [acc_e h1, if_neg (by show ¬ lessB br bn t.pr t.pn = true; rw [NL.out]; decide), EF.out]
              rfl
            by_cases h1 : sl < s.first
            · have e1 : accE t (Vv.vt ⟨sl, br, bn, va, vm, vc, vb⟩) = 80 := by rw [EE.out, if_pos h1]
              have e2 : accS t (Vv.vt ⟨sl, br, bn, va, vm, vc, vb⟩) = t := by simp [accS, e1]
              rw [e1]
              rw [e2] at A14
              have CF := hide (first_any A14.out.ac)
              rw [EF.out] at CF
              clear e1 e2
              go_wp2_with fail
              refine CF.out.mono ?_
              rintro e w15 ⟨rfl, rfl⟩
              go_wp2_with fail
              go_ret
              exact ⟨by simp, below_step BU.out B14.out⟩
            · by_cases h2 : s.first + 16 ≤ sl
              · have e1 : accE t (Vv.vt ⟨sl, br, bn, va, vm, vc, vb⟩) = 81 := by rw [EE.out, if_neg h1, if_pos h2]
                have e2 : accS t (Vv.vt ⟨sl, br, bn, va, vm, vc, vb⟩) = t := by simp [accS, e1]
                rw [e1]
                rw [e2] at A14
                have CF := hide (first_any A14.out.ac)
                rw [EF.out] at CF
                have k1 : s.first < sl := by omega
                have k2 : IntKind.i64.wrap (sl - s.first) = sl - s.first := by rw [IntKind.wrap_i64]; omega
                have k3 : (16 : Int) ≤ sl - s.first := by omega
                clear e1 e2
                go_wp2_with fail
                refine CF.out.mono ?_
                rintro e w15 ⟨rfl, e15⟩
                rw [e15]
                clear e15
                go_wp2_with fail
                refine CF.out.mono ?_
                rintro e w16 ⟨rfl, e16⟩
                rw [e16]
                clear e16
                go_wp2_with fail
                go_ret
                exact ⟨by simp, below_step BU.out B14.out⟩
              · have e1 : accE t (Vv.vt ⟨sl, br, bn, va, vm, vc, vb⟩) = 0 := by rw [EE.out, if_neg h1, if_neg h2]
                have e2 : accS t (Vv.vt ⟨sl, br, bn, va, vm, vc, vb⟩) = { t with pr := br, pn := bn, vs := put t.vs (Vv.vt ⟨sl, br, bn, va, vm, vc, vb⟩) } := by simp [accS, e1]; exact ⟨rfl, rfl⟩
                rw [e1]
                rw [e2] at A14
                have CR := hide (prepare_any A14.out.ac br bn sl)
                have pe : prepE { t with pr := br, pn := bn, vs := put t.vs (Vv.vt ⟨sl, br, bn, va, vm, vc, vb⟩) } br bn = 0 := by simp [prepE, HM.out, lessB_self]
                obtain ⟨rr, hrr⟩ := from_put (v := Vv.vt ⟨sl, br, bn, va, vm, vc, vb⟩) OKT.out.sorted
                have pl : prepL { t with pr := br, pn := bn, vs := put t.vs (Vv.vt ⟨sl, br, bn, va, vm, vc, vb⟩) } br bn sl = Vv.vt ⟨sl, br, bn, va, vm, vc, vb⟩ :: rr := by
                  unfold prepL
                  rw [if_pos pe]
                  exact hrr
                rw [pe, pl] at CR
                clear e1 e2 pe pl hrr
                obtain ⟨x0, x1⟩ := X1.out.below B14.out
                go_wp2_with fail
                refine CR.out.mono ?_
                rintro e w16 ⟨a16, m16, c16, l16, rfl, hm16, ht16, hl16⟩
                have M16' := hide (A14.out.move B14.out.size hm16)
                have B16 : Hid (Below u.heap.size u w16) := B14.out.trans M16'.out.2
                obtain ⟨p, hp, hpv⟩ : ∃ p, l16[0]? = some p ∧ p.vt = Vv.vt ⟨sl, br, bn, va, vm, vc, vb⟩ := by
                  cases l16 with
                  | nil => simp at hl16
                  | cons p r => exact ⟨p, rfl, by simp at hl16; exact hl16.1⟩
                have PI := hide (ht16.vl.ins p (List.mem_of_getElem? hp))
                have PM : Hid (p.m ≤ 140737488355328) := by
                  have h3 := PI.out.1.length
                  have h4 : p.b = vb := congrArg Vt.b hpv
                  have h5 := VL.out
                  have h6 := VM.out
                  show _ ≤ _
                  rw [h4] at h3
                  omega
                have mp : 0 < m16 := by have h3 := ht16.vl.len; have h4 := (List.getElem?_eq_some_iff.1 hp).1; omega
                obtain ⟨g, rfl, _, _, d0, d1, d2, d3⟩ := ht16.vl.at hp
                simp only [Nat.zero_mul, Nat.zero_add] at d0 d1 d2 d3
                have CV : Hid (∀ y : World, Below w16.heap.size w16 y → Calls Try.prog 26 #[.agg #[.int .i64 p.s, .int .i64 p.r, .int .i64 p.n, .slice p.a p.m p.cp], .agg #[.int .i64 sl, .int .i64 br, .int .i64 bn, .slice va vm vc]] y fun e w' => e = .returned (.bool true) ∧ Below y.heap.size y w') := fun y hy => vote_same (q := ⟨sl, br, bn, va, vm, vc, vb⟩) (PI.out.1.below hy) ((QU.out.below B16.out).below hy) PM.out hpv
                have q1 : decide ((0 : Int) < (m16 : Int)) = true := decide_eq_true (by omega)
                have q2 : ((0 : Int) < (m16 : Int)) = True := eq_true (by omega)
                have q3 : decide (0 < m16) = true := decide_eq_true mp
                have q4 : (0 : Int) < (m16 : Int) := by omega
                clear x0 x1 hm16 ht16 hl16 hp hpv M16' CR A14
                obtain ⟨x0, x1⟩ := X1.out.below B16.out
                go_wp2_with fail
                refine wp_region_cells w16 [(⟨g, 0, none⟩, .int .i64 p.s), (⟨g, 1, none⟩, .int .i64 p.r), (⟨g, 2, none⟩, .int .i64 p.n), (⟨g, 3, none⟩, .slice p.a p.m p.cp), (⟨N1, 0, none⟩, .int .i64 br), (⟨N1, 1, none⟩, .int .i64 bn)] (by kernel_rfl) (by kernel_rfl) (Below.refl _ _) (by simp [AllCells, d0, d1, d2, d3, x0, x1]) ?_
                intro hne qq
                simp only [AllCells, and_true] at qq
                clear d0 d1 d2 d3 x0 x1
                repeat (go_big_quiet_step (first | (go_at_call 26; exact Held.call _ (CV.out _ (Held.below _)))))
                refine wpQuiet_nil ?_
                rintro _ ⟨y, rfl⟩
                have BQ : Hid (Below w16.heap.size w16 y.x) := y.below
                clear qq hne CV q1 q2 q3 q4
                go_wp2_with fail
                go_ret
                exact ⟨by simp, below_step BU.out (below_step B16.out BQ.out)⟩
          · have e1 : accE t (Vv.vt ⟨sl, br, bn, va, vm, vc, vb⟩) = 1 := by
              have h1 : fitsB (Vv.vt ⟨sl, br, bn, va, vm, vc, vb⟩) = false := by simp [fitsB, Vv.vt, VL.out]; omega
              simp [accE, h1]
            have hf' : (2048 : Int) < (vm : Int) := by omega
            rw [e1]
            clear e1
            go_wp2_with fail
            go_ret
            exact ⟨by simp, below_step BU.out B14.out⟩
  · have ML : Hid (ml = 0) := by
      have h1 := T3.out.len
      have h2 : (ll.map Vv.vt).length = 0 := by rw [L3.out]; simp [prepL, he]
      simp at h2
      show _ = _
      rw [← h1, h2]
      rfl
    obtain rfl := ML.out
    have ES : Hid (prepS s br bn = s) := by show _ = _; simp [prepS, he]
    have A4 : Hid (AcN w3 u.heap.size (fun k => u.heap.size ≤ k) A mb s) := by have h := A3.out; rw [ES.out] at h; exact h
    obtain ⟨x0, x1⟩ := X1.out.below B3.out
    cases hm : mayB br bn
    · have e1 : prepE s br bn = 1 := by simp [prepE, hm]
      rw [e1]
      have hor : br < 1 ∨ (1 ≤ br ∧ bn < 1) := by
        have := of_decide_eq_false hm
        omega
      clear e1 hm he
      rcases hor with h1 | ⟨h1, h2⟩
      · have q1 : decide (br < 1) = true := decide_eq_true h1
        have q2 : (br < 1) = True := eq_true h1
        go_wp2_with fail
        refine wp_region_cells w3 [(⟨N1, 0, none⟩, .int .i64 br), (⟨N1, 1, none⟩, .int .i64 bn)] (by kernel_rfl) (by kernel_rfl) (Below.refl _ _) (by simp [AllCells, x0, x1]) ?_
        intro hne qq
        simp only [AllCells, and_true] at qq
        clear x0 x1
        repeat (go_big_quiet_step (fail))
        refine wpQuiet_nil ?_
        rintro _ ⟨y, rfl⟩
        have BQ : Hid (Below w3.heap.size w3 y.x) := y.below
        clear qq hne
        go_wp2_with fail
        go_ret
        exact ⟨rfl, FIN.out _ BQ.out⟩
      · have q1 : decide (br < 1) = false := decide_eq_false (by omega)
        have q2 : (br < 1) = False := eq_false (by omega)
        have q3 : decide (bn < 1) = true := decide_eq_true h2
        have q4 : (bn < 1) = True := eq_true h2
        go_wp2_with fail
        refine wp_region_cells w3 [(⟨N1, 0, none⟩, .int .i64 br), (⟨N1, 1, none⟩, .int .i64 bn)] (by kernel_rfl) (by kernel_rfl) (Below.refl _ _) (by simp [AllCells, x0, x1]) ?_
        intro hne qq
        simp only [AllCells, and_true] at qq
        clear x0 x1
        repeat (go_big_quiet_step (fail))
        refine wpQuiet_nil ?_
        rintro _ ⟨y, rfl⟩
        have BQ : Hid (Below w3.heap.size w3 y.x) := y.below
        clear qq hne
        go_wp2_with fail
        go_ret
        exact ⟨rfl, FIN.out _ BQ.out⟩
    · have hl : lessB br bn s.pr s.pn = true := by
        cases hl : lessB br bn s.pr s.pn
        · exact absurd (by simp [prepE, hm, hl]) he
        · rfl
      have e1 : prepE s br bn = 90 := by simp [prepE, hm, hl]
      rw [e1]
      have CL := hide (fun y => lless_lit hl y)
      have CP : Hid (∀ y : World, Below w3.heap.size w3 y → Calls Try.prog 13 #[.pointer (some ⟨A, 0, none⟩)] y fun e w' => e = .returned (.agg #[.int .i64 s.pr, .int .i64 s.pn]) ∧ Below y.heap.size y w') := fun y hy => promised_any (A4.out.below hy).ac
      clear e1 hm hl he
      go_wp2_with fail
      refine wp_region_cells w3 [(⟨N1, 0, none⟩, .int .i64 br), (⟨N1, 1, none⟩, .int .i64 bn)] (by kernel_rfl) (by kernel_rfl) (Below.refl _ _) (by simp [AllCells, x0, x1]) ?_
      intro hne qq
      simp only [AllCells, and_true] at qq
      clear x0 x1
      repeat (go_big_quiet_step (first | (go_at_call 13; exact Held.call _ (CP.out _ (Held.below _))) | (go_at_call 25; exact Held.call _ (CL.out _))))
      refine wpQuiet_nil ?_
      rintro _ ⟨y, rfl⟩
      have BQ : Hid (Below w3.heap.size w3 y.x) := y.below
      clear qq hne
      go_wp2_with fail
      go_ret
      exact ⟨rfl, FIN.out _ BQ.out⟩

set_option maxRecDepth 100000 in
theorem lifted (os : Os) (started : os.Started) (H : Type) (enc : TypeId × Value → H) :
    ReturnsInHanded {} Try.checked os 6 .any (Rows.acceptPromiseSpec.pre6 enc Try.prog Try.f6 Rows.acceptPromiseRow.domain false) (Rows.acceptPromiseSpec.post enc Try.prog Try.f6 false true false false) := by
  refine returnsInHanded_of_change_sized (C := Try.checked) own started (by kernel_rfl) Try.func6
    (ChangeSpec.witness6 (enc := enc) (C := Try.checked) false ⟨#[], #[.slice none 0 0, .agg #[.int .i64 0, .int .i64 0], .int .i64 0, .agg #[.int .i64 0, .int .i64 0], .int .i64 0, .slice none 0 0], []⟩ 8 (by kernel_rfl) (by kernel_rfl) (by kernel_rfl) (by kernel_rfl)) ?_
  intro W base args ds gs before hval0 hW hcnd hsz0 _
  have hsz : (DataW.weightsEach Try.prog (Try.f6.params.toList ++ Rows.acceptPromiseSpec.plain.varTypes Try.prog) (ds ++ gs)).all (· ≤ reachBytes) = true := hsz0
  have hval : ∀ (j : Nat) t v, Try.f6.params[j]? = some t → args[j]? = some v → Value.okWide Try.prog W .any base t v := hval0
  have hW' := hW
  obtain ⟨p, q, hA0, hV, rfl, hfz, hnd⟩ := hW
  have hA : DataW.TrodAll enc Try.prog W 0 (fun _ => true) true Try.f6.params.toList args.toList ds p := hA0
  rw [Try.params6] at hA hval hsz
  obtain ⟨v0, vs0, d0, ds0, p0, q0, hargs, rfl, rfl, h0, r0⟩ := trodAll_cons hA
  obtain ⟨v1, vs1, d1, ds1, p1, q1, rfl, rfl, rfl, h1, r1⟩ := trodAll_cons r0
  obtain ⟨v2, vs2, d2, ds2, p2, q2, rfl, rfl, rfl, h2, r2⟩ := trodAll_cons r1
  obtain ⟨v3, vs3, d3, ds3, p3, q3, rfl, rfl, rfl, h3, r3⟩ := trodAll_cons r2
  obtain ⟨v4, vs4, d4, ds4, p4, q4, rfl, rfl, rfl, h4, r4⟩ := trodAll_cons r3
  obtain ⟨v5, vs5, d5, ds5, p5, q5, rfl, rfl, rfl, h5, r5⟩ := trodAll_cons r4
  obtain ⟨rfl, rfl, rfl⟩ := trodAll_nil r5
  obtain rfl : args = #[v0, v1, v2, v3, v4, v5] := by cases args; simp_all
  obtain ⟨rfl, rfl⟩ := trodVars_none hV
  have lt0 : ∀ x ∈ p0, x.block < W.heap.size := by obtain ⟨m, hm⟩ := h0; exact DataW.trod_lt m _ _ _ hm
  obtain ⟨a, len, cap, os, rfl, ho⟩ := open_ops_held (hval 0 22 v0 rfl rfl) h0 (fun n hn => by have h := List.all_eq_true.1 hsz n (DataW.weights_mem_each (j := 0) rfl rfl n hn); simpa using h)
  have lt1 : ∀ x ∈ p1, x.block < W.heap.size := by obtain ⟨m, hm⟩ := h1; exact DataW.trod_lt m _ _ _ hm
  obtain ⟨br, bn, rfl, hb⟩ := open_ballot (hval 1 30 v1 rfl rfl) h1
  have lt2 : ∀ x ∈ p2, x.block < W.heap.size := by obtain ⟨m, hm⟩ := h2; exact DataW.trod_lt m _ _ _ hm
  obtain ⟨f, rfl, hf⟩ := open_i64 (hval 2 3 v2 rfl rfl) h2
  have lt3 : ∀ x ∈ p3, x.block < W.heap.size := by obtain ⟨m, hm⟩ := h3; exact DataW.trod_lt m _ _ _ hm
  obtain ⟨lr, ln, rfl, hl⟩ := open_ballot (hval 3 30 v3 rfl rfl) h3
  have lt4 : ∀ x ∈ p4, x.block < W.heap.size := by obtain ⟨m, hm⟩ := h4; exact DataW.trod_lt m _ _ _ hm
  obtain ⟨sl, rfl, hs⟩ := open_i64 (hval 4 3 v4 rfl rfl) h4
  have lt5 : ∀ x ∈ p5, x.block < W.heap.size := by obtain ⟨m, hm⟩ := h5; exact DataW.trod_lt m _ _ _ hm
  obtain ⟨va, vm, vc, vb, rfl, hq⟩ := open_sq_sized (hval 5 31 v5 rfl rfl) h5 (fun elems spare e => by have h := hsz; rw [e] at h; exact sized_slice h (j := 5) (t := 31) (e := 5) rfl rfl Try.underlying31)
  clear hA0 hval0
  refine (walk ho br bn f lr ln sl hs.2 hq.1 hq.2).mono fun e W' ⟨he, bel⟩ => ?_
  subst he
  exact ⟨_, rfl, _, _, _, [], _, [], hW', trodAll_mk1 (shut_bool Try.underlying4 _), (trodAll_cons_mk (Below.trod laidOut (by kernel_rfl) (of_decide_eq_true (by kernel_rfl)) h0 bel lt0) (trodAll_cons_mk (Below.trod laidOut (by kernel_rfl) (of_decide_eq_true (by kernel_rfl)) h1 bel lt1) (trodAll_cons_mk (Below.trod laidOut (by kernel_rfl) (of_decide_eq_true (by kernel_rfl)) h2 bel lt2) (trodAll_cons_mk (Below.trod laidOut (by kernel_rfl) (of_decide_eq_true (by kernel_rfl)) h3 bel lt3) (trodAll_cons_mk (Below.trod laidOut (by kernel_rfl) (of_decide_eq_true (by kernel_rfl)) h4 bel lt4) (trodAll_cons_mk (Below.trod laidOut (by kernel_rfl) (of_decide_eq_true (by kernel_rfl)) h5 bel lt5) trodAll_mk0)))))), rfl, bel.frame _, fun h => by cases h⟩

theorem over : Rows.acceptPromiseRow.holds Try.pinned (OpenSpec.ofChange Rows.acceptPromiseSpec) :=
  OpenClaim.holds_of_wide 6 Try.f6 rfl rfl rfl rfl rfl rfl rfl ⟨rfl, rfl, rfl, rfl, rfl⟩ rfl rfl rfl rfl rfl (by kernel_rfl) Try.func6 (by kernel_rfl)
    (of_decide_eq_true (by kernel_rfl)) (by unfold Func.isWrapper; first | (rw [if_pos (by decide +kernel)]; kernel_rfl) | (rw [if_neg (by decide +kernel)]; exact ⟨rfl, rfl⟩))
    (fun os started H enc _ => lifted os started H enc)

theorem proved : Rows.AcceptPromiseSaid := over
#print axioms proved
end AcceptPromise
theorem acceptPromise_holds : Rows.AcceptPromiseSaid := AcceptPromise.proved
end Go.Proofs.Ytdnniokpkamjjaa
