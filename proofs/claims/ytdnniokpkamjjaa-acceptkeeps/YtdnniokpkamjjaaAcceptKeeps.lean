/- AcceptKeeps: what is promised never falls, no vote's ballot is above it, and a vote is followed, for its slot, by one of the same ballot or a greater one alone, or forgotten: for every two lists of calls. No condition. -/
import Derived.Test.YtdnniokpkamjjaaAccKeepMath
import Derived.Test.YtdnniokpkamjjaaAccVote
import Derived.Test.YtdnniokpkamjjaaAccLoad
import Derived.Test.YtdnniokpkamjjaaAccAwake
import Derived.Test.YtdnniokpkamjjaaAccShort
import Derived.Deep.CutBlock
import Derived.Deep.CutRange
namespace Go.Proofs.Ytdnniokpkamjjaa
namespace AcceptKeeps
open Go.ChangeShapes Go.WideShapes Go.ChangeAt Go.RowKit B8 Am
set_option linter.unusedVariables false

set_option maxRecDepth 100000 in
set_option maxHeartbeats 6000000 in
theorem walk {w : World} {a : Option Addr} {len cap : Nat} {os : Nat → Opd} (h : Ops w a len os) {a' : Option Addr} {len' cap' : Nat} {os' : Nat → Opd} (h' : Ops w a' len' os') :
    Calls Try.prog 5 #[.slice a len cap, .slice a' len' cap'] w fun e w' => e = .returned (.bool true) ∧ Below w.heap.size w w' := by
  have RA := hide (ran_any (cap := cap) h)
  have H := hide h'
  have RM := h'.room
  clear h h'
  go_enter Try.func5, Try.ntmps5
  go_wp2_with fail
  refine RA.out.mono ?_
  rintro e w1 ⟨A, mb, s0, rfl, hb1, ha1⟩
  have B1 := hide hb1
  have A1 := hide ha1
  clear hb1 ha1
  go_wp2_with fail
  refine (awake_any _).mono ?_
  rintro e w2 ⟨rfl, hb2⟩
  have B2 := hide (below_step B1.out hb2)
  have A2 := hide (A1.out.below hb2)
  clear hb2 A1 B1
  go_wp2_with fail
  go_loopw [6] (fun i wr => ∃ (k : Nat) (s : As), k ≤ len' ∧ i = .int .i64 k ∧ Hid (Below w.heap.size w wr) ∧ Hid (AcN wr w.heap.size (fun k => w.heap.size ≤ k) A mb s)) (fun i _ => len' - (intOf i).toNat)
  case atStart => exact ⟨0, s0, Nat.zero_le _, rfl, B2, A2⟩
  case round =>
    clear B2 A2
    obtain ⟨k, s, hk, rfl, HB, HA⟩ := hrel
    by_cases hlt : k < len'
    · obtain ⟨ob, off, rfl, oblt, hoc⟩ := H.out.cells (by omega)
      have VO := hide (H.out.each k hlt)
      have HR := hide (hoc k hlt)
      have OB := hide oblt
      generalize os' k = o at *
      obtain ⟨kind, v⟩ := o
      clear hoc oblt
      have i1 : (k : Int) < (len' : Int) := by omega
      have i2 : (0 : Int) ≤ (k : Int) := by omega
      go_wp2_with fail
      refine (votes_any HA.out.ac).mono ?_
      rintro e w4 ⟨ab, mbf, cb, lb, rfl, hb4, ht4, hl4⟩
      obtain ⟨B0, eB0⟩ : ∃ B0, B0 = wr.heap.size := ⟨_, rfl⟩
      rw [← eB0] at ht4
      have BW4 := hide (below_step HB.out hb4)
      have A4 := hide (HA.out.below hb4)
      have V4 := hide ht4.vl
      have LB := hide hl4
      have SH := hide (told_short ht4 hl4 HA.out.ac.ok)
      clear hb4 ht4 hl4 eB0
      go_wp2_with fail
      refine (promised_any A4.out.ac).mono ?_
      rintro e w5 ⟨rfl, hb5⟩
      have BW5 := hide (below_step BW4.out hb5)
      have A5 := hide (A4.out.below hb5)
      have V5 := hide (V4.out.below hb5)
      clear hb5 A4 V4
      go_wp2_with fail
      refine (first_any A5.out.ac).mono ?_
      rintro e w5' ⟨rfl, e5⟩
      rw [e5]
      clear e5 w5'
      obtain ⟨w6, e6⟩ : ∃ w6, w6 = w5.alloc (.cells #[.int .i64 s.pr, .int .i64 s.pn] 30) := ⟨_, rfl⟩
      obtain ⟨N, eN⟩ : ∃ N, N = w5.heap.size := ⟨_, rfl⟩
      have b6 : Below w5.heap.size w5 w6 := by rw [e6]; exact below_alloc (Below.refl _ _) _
      have X6 : Hid (V2 w6 N s.pr s.pn) := by rw [e6, eN]; exact v2_new w5 s.pr s.pn
      have NA : Hid (¬ AM A mb N) := fun hk => by have := A5.out.ac.lt N hk; omega
      have BW6 := hide (below_step BW5.out b6)
      have A6 := hide (A5.out.below b6)
      have V6 := hide (V5.out.below b6)
      have E6 := hide e6
      have EN := hide eN
      clear e6 eN b6 A5 V5
      go_upto_region 8 with fail
      rw [← E6.out, ← EN.out]
      clear E6 EN BW5 BW4
      have hr := rangeAt_same HR.out (BW6.out.block ob OB.out)
      obtain ⟨o0, o1, o2, o3, o4⟩ := opc_cells hr
      clear hr
      go_upto_block 2 with fail
      have NW : Hid (w.heap.size ≤ w6.heap.size) := BW6.out.size
      have STEP : Hid (∀ (y y' : World) (t' : As), Below w6.heap.size w6 y → Mv y (fun k => w.heap.size ≤ k) A mb t' y' → Below w.heap.size w y' ∧ AcN y' w.heap.size (fun k => w.heap.size ≤ k) A mb t' ∧ Vl y' B0 (fun k => B0 ≤ k) ab mbf cb lb ∧ V2 y' N s.pr s.pn) := fun y y' t' hy hm => by
        have ay := A6.out.below hy
        obtain ⟨f1, f2⟩ := ay.move (Nat.le_trans NW.out hy.size) hm
        exact ⟨(below_step BW6.out hy).trans f2, f1, (V6.out.below hy).chg hm.1 (fun k hk => ⟨ay.ac.noV k hk, .inr (ay.ac.noB k hk)⟩), (X6.out.below hy).chg hm.1 NA.out⟩
      go_cut [] from 40 to 69 (fun wc => ∃ t, Hid (Below w.heap.size w wc) ∧ Hid (AcN wc w.heap.size (fun k => w.heap.size ≤ k) A mb t) ∧ Hid (Vl wc B0 (fun k => B0 ≤ k) ab mbf cb lb) ∧ Hid (V2 wc N s.pr s.pn) ∧ Hid (Kept s t))
      case first =>
        by_cases k1 : kind = 1
        · subst k1
          have KP : Hid (Kept s (prepS s v.r v.n)) := kept_prep A6.out.ac.ok _ _
          have C := hide (fun (x : World) (hx : Ac x (fun k => w.heap.size ≤ k) A mb s) => prepare_any hx v.r v.n v.s)
          go_wp2_with fail
          go_region_held3 (fun u => u.cell? ⟨ob, off + k * 5 + 1, none⟩ = some (.int .i64 v.s) ∧ u.cell? ⟨ob, off + k * 5 + 2, none⟩ = some (.int .i64 v.r) ∧ u.cell? ⟨ob, off + k * 5 + 3, none⟩ = some (.int .i64 v.n)) (first | go_keep | exact ⟨o1, o2, o3⟩ | exact ⟨d1, d2, d3⟩) ((first | (go_at_call 21; refine (C.out _ (by exact A6.out.ac.drew)).mono ?_; rintro e w7 ⟨a7, m7, c7, l7, rfl, hmv, _⟩; have ST := hide (STEP.out w6.drew w7 _ (Below.refl _ _).drew hmv); have bb := hmv.1.below (B := w.heap.size) NW.out A6.out.from; have d1 := (bb.cell (p := ⟨ob, off + k * 5 + 1, none⟩) OB.out).trans o1; have d2 := (bb.cell (p := ⟨ob, off + k * 5 + 2, none⟩) OB.out).trans o2; have d3 := (bb.cell (p := ⟨ob, off + k * 5 + 3, none⟩) OB.out).trans o3; clear hmv bb)))
          go_wp2_with fail
          go_meet
          case rel => exact ⟨_, ST.out.1, ST.out.2.1, ST.out.2.2.1, ST.out.2.2.2, KP⟩
        · have z1 : (kind == 1) = false := by simpa using k1
          by_cases k2 : kind = 2
          · subst k2
            have KP : Hid (Kept s (forgS s v.s)) := kept_forg _
            go_wp2_with fail
            refine (forget_any A6.out.ac v.s).mono ?_
            rintro e w7 ⟨rfl, hmv⟩
            have ST := hide (STEP.out w6 w7 _ (Below.refl _ _) hmv)
            clear hmv
            go_wp2_with fail
            go_meet
            case rel => exact ⟨_, ST.out.1, ST.out.2.1, ST.out.2.2.1, ST.out.2.2.2, KP⟩
          · have z2 : (kind == 2) = false := by simpa using k2
            have KP : Hid (Kept s (accS s v.vt)) := kept_acc A6.out.ac.ok _
            go_wp2_with fail
            refine (vote_any kind v _).mono ?_
            rintro e w7 ⟨rfl, hb7⟩
            have B7 := hide hb7
            have BW7 := hide (below_step BW6.out hb7)
            have A7 := hide (A6.out.below hb7)
            clear hb7
            go_wp2_with fail
            refine (accept_any A7.out.ac (fun k hk => Nat.le_trans BW7.out.size hk) v (VO.out.q.below BW7.out)).mono ?_
            rintro e w8 ⟨rfl, hmv⟩
            have ST := hide (STEP.out w7 w8 _ B7.out hmv)
            clear hmv
            go_wp2_with fail
            go_meet
            case rel => exact ⟨_, ST.out.1, ST.out.2.1, ST.out.2.2.1, ST.out.2.2.2, KP⟩
      case rest =>
        clear o0 o1 o2 o3 o4 STEP A6 V6 X6 BW6 NW
        obtain ⟨t, BC, AC, VC, XC, KP⟩ := hcut
        go_wp2_with fail
        refine (votes_any AC.out.ac).mono ?_
        rintro e w10 ⟨aa, ma, ca, la, rfl, hb10, ht10, hl10⟩
        have BW10 := hide (below_step BC.out hb10)
        have A10 := hide (AC.out.below hb10)
        have V10 := hide (VC.out.below hb10)
        have X10 := hide (XC.out.below hb10)
        have T10 := hide ht10.vl
        have LA := hide hl10
        have OKT := hide AC.out.ac.ok
        have M16 : ma ≤ 16 := by
          have h1 := ht10.vl.len
          have h2 := length_le AC.out.ac.ok
          rw [← hl10] at h2
          simp at h2
          omega
        have MB16 : mbf ≤ 9000000000000 := SH.out.1
        clear hb10 ht10 hl10 AC VC XC BC
        have CP : Hid (∀ y : World, Below w10.heap.size w10 y → Calls Try.prog 13 #[.pointer (some ⟨A, 0, none⟩)] y fun e w' => e = .returned (.agg #[.int .i64 t.pr, .int .i64 t.pn]) ∧ Below y.heap.size y w') := fun y hy => promised_any (A10.out.below hy).ac
        have CF : Hid (∀ y : World, Below w10.heap.size w10 y → Calls Try.prog 14 #[.pointer (some ⟨A, 0, none⟩)] y fun e w' => e = .returned (.int .i64 t.first) ∧ Below y.heap.size y w') := fun y hy => (first_any (A10.out.below hy).ac).mono (fun e w' ⟨h1, h2⟩ => ⟨h1, by rw [h2]; exact Below.refl _ _⟩)
        have CL := hide (fun y => lless_lit KP.out.prom y)
        obtain ⟨x0, x1⟩ := X10.out
        have q1 : decide (t.first < s.first) = false := decide_eq_false (by have := KP.out.first; omega)
        have q2 : (t.first < s.first) = False := eq_false (by have := KP.out.first; omega)
        have q3 : decide ((16 : Int) < (ma : Int)) = false := decide_eq_false (by omega)
        have q4 : ((16 : Int) < (ma : Int)) = False := eq_false (by omega)
        go_wp2_with fail
        refine wp_region_cells w10 [(⟨N, 0, none⟩, .int .i64 s.pr), (⟨N, 1, none⟩, .int .i64 s.pn)] (by kernel_rfl) (by kernel_rfl) (Below.refl _ _) (by simp [AllCells, x0, x1]) ?_
        intro hne qq
        simp only [AllCells, and_true] at qq
        clear x0 x1
        repeat (go_big_quiet_step (first | (go_at_call 13; exact Held.call _ (CP.out _ (Held.below _))) | (go_at_call 14; exact Held.call _ (CF.out _ (Held.below _))) | (go_at_call 25; exact Held.call _ (CL.out _))))
        refine wpQuiet_nil ?_
        rintro _ ⟨y, rfl⟩
        obtain ⟨w11, e11⟩ : ∃ w11, w11 = y.x := ⟨_, rfl⟩
        have B11 : Hid (Below w10.heap.size w10 w11) := by rw [e11]; exact y.below
        rw [← e11]
        clear e11 qq hne q1 q2 q3 q4 X10 CL
        go_wp2_with fail
        go_loopw [11] (fun i wq => ∃ q : Nat, q ≤ ma ∧ i = .int .i64 q ∧ Hid (Below w10.heap.size w10 wq)) (fun i _ => ma - (intOf i).toNat)
        case atStart => exact ⟨0, Nat.zero_le _, rfl, B11⟩
        case round =>
          clear B11
          obtain ⟨q, hq, rfl, HQ⟩ := hrel
          have TQ := hide (T10.out.below HQ.out)
          by_cases hql : q < ma
          · have j1 : (q : Int) < (ma : Int) := by omega
            have j2 : (0 : Int) ≤ (q : Int) := by omega
            have lk : q < la.length := by have := T10.out.len; omega
            obtain ⟨p, hp⟩ : ∃ p, la[q]? = some p := ⟨la[q], by simp [lk]⟩
            have hpt : p.vt ∈ t.vs := by rw [← LA.out]; exact List.mem_map.2 ⟨p, List.mem_of_getElem? hp, rfl⟩
            have hwin := OKT.out.win _ hpt
            have hbel : lessB t.pr t.pn p.r p.n = false := OKT.out.below _ hpt
            have hlo := OKT.out.lo
            have hhi := OKT.out.hi
            have w1' : t.first ≤ p.s := hwin.1
            have w2' : p.s < t.first + 16 := hwin.2
            have CL := hide (fun y => lless_lit hbel y)
            have q1 : decide (p.s < t.first) = false := decide_eq_false (by omega)
            have q2 : (p.s < t.first) = False := eq_false (by omega)
            have q3 : IntKind.i64.wrap (p.s - t.first) = p.s - t.first := by rw [IntKind.wrap_i64]; omega
            have q4 : decide ((16 : Int) ≤ p.s - t.first) = false := decide_eq_false (by omega)
            have q5 : ((16 : Int) ≤ p.s - t.first) = False := eq_false (by omega)
            obtain ⟨g, rfl, _, hg, d0, d1, d2, d3⟩ := TQ.out.at hp
            rcases Nat.eq_zero_or_pos q with hz | hz
            · subst hz
              simp only [Nat.zero_mul, Nat.zero_add] at d0 d1 d2
              clear hp hpt hwin hbel w1' w2' hlo hhi lk hg d3
              go_wp2_with fail
              refine wp_region_cells w10 [(⟨g, 0, none⟩, .int .i64 p.s), (⟨g, 1, none⟩, .int .i64 p.r), (⟨g, 2, none⟩, .int .i64 p.n)] (by kernel_rfl) (by kernel_rfl) HQ.out (by simp [AllCells, d0, d1, d2]) ?_
              intro hne qq
              simp only [AllCells, and_true] at qq
              clear d0 d1 d2
              repeat (go_big_quiet_step (first | (go_at_call 13; exact Held.call _ (CP.out _ (Held.below _))) | (go_at_call 14; exact Held.call _ (CF.out _ (Held.below _))) | (go_at_call 25; exact Held.call _ (CL.out _))))
              refine wpQuiet_nil ?_
              rintro _ ⟨y, rfl⟩
              have BQ : Hid (Below w10.heap.size w10 y.x) := y.below
              clear qq hne CL q1 q2 q3 q4 q5
              go_wp2_with fail
              go_roundw
              case rel => exact ⟨1, by omega, by go_num, BQ⟩
              case measure => simp [intOf]; omega
            · obtain ⟨z, ez⟩ : ∃ z, q = z + 1 := ⟨q - 1, by omega⟩
              have lz : z < la.length := by omega
              obtain ⟨p', hp'⟩ : ∃ p', la[z]? = some p' := ⟨la[z], by simp [lz]⟩
              have srt : p'.s < p.s := by
                have h1 := OKT.out.sorted
                rw [← LA.out, List.pairwise_iff_getElem] at h1
                have h2 := h1 z q (by simpa using lz) (by simpa using lk) (by omega)
                have e1 : la[z] = p' := (List.getElem?_eq_some_iff.1 hp').2
                have e2 : la[q] = p := (List.getElem?_eq_some_iff.1 hp).2
                simpa [e1, e2, Vv.vt] using h2
              have q6 : decide ((0 : Int) < (q : Int)) = true := decide_eq_true (by omega)
              have q7 : ((0 : Int) < (q : Int)) = True := eq_true (by omega)
              have q8 : IntKind.i64.wrap ((q : Int) - 1) = (z : Int) := by rw [IntKind.wrap_i64]; omega
              have q9 : decide (p.s ≤ p'.s) = false := decide_eq_false (by omega)
              have q10 : (p.s ≤ p'.s) = False := eq_false (by omega)
              have q11 : (z : Int) < (ma : Int) := by omega
              have q12 : (0 : Int) ≤ (z : Int) := by omega
              have q13 : decide (0 < q) = true := decide_eq_true hz
              obtain ⟨g', e', _, _, f0, _, _, _⟩ := TQ.out.at hp'
              obtain rfl : g = g' := by simpa using e'
              clear hp hpt hwin hbel w1' w2' hlo hhi lk hg d3 hp' lz srt e' ez hz
              go_wp2_with fail
              refine wp_region_cells w10 [(⟨g, q * 4, none⟩, .int .i64 p.s), (⟨g, q * 4 + 1, none⟩, .int .i64 p.r), (⟨g, q * 4 + 2, none⟩, .int .i64 p.n), (⟨g, z * 4, none⟩, .int .i64 p'.s)] (by kernel_rfl) (by kernel_rfl) HQ.out (by simp [AllCells, d0, d1, d2, f0]) ?_
              intro hne qq
              simp only [AllCells, and_true] at qq
              clear d0 d1 d2 f0
              repeat (go_big_quiet_step (first | (go_at_call 13; exact Held.call _ (CP.out _ (Held.below _))) | (go_at_call 14; exact Held.call _ (CF.out _ (Held.below _))) | (go_at_call 25; exact Held.call _ (CL.out _))))
              refine wpQuiet_nil ?_
              rintro _ ⟨y, rfl⟩
              have BQ : Hid (Below w10.heap.size w10 y.x) := y.below
              clear qq hne CL q1 q2 q3 q4 q5 q6 q7 q8 q9 q10 q11 q12 q13
              go_wp2_with fail
              go_roundw
              case rel => exact ⟨q + 1, by omega, by go_num, BQ⟩
              case measure => simp [intOf]; omega
          · obtain rfl : ma = q := by omega
            clear hql hq TQ CP
            obtain ⟨w12, e12⟩ : ∃ w12, w12 = wr := ⟨_, rfl⟩
            rw [← e12] at HQ
            have E12 := hide e12
            go_upto_region 22 with fail
            rw [← E12.out]
            clear e12 E12
            go_wp2_with fail
            go_loopw [12, 13, 14] (fun i _ _ wq => ∃ q : Nat, q ≤ mbf ∧ i = .int .i64 q ∧ Hid (Below w10.heap.size w10 wq)) (fun i _ _ _ => mbf - (intOf i).toNat)
            case atStart => exact ⟨0, Nat.zero_le _, rfl, HQ⟩
            case round =>
              clear HQ
              obtain ⟨q, hq, rfl, HQ⟩ := hrel
              by_cases hql : q < mbf
              · have j1 : (q : Int) < (mbf : Int) := by omega
                have j2 : (0 : Int) ≤ (q : Int) := by omega
                have lk : q < lb.length := by have := V10.out.len; omega
                obtain ⟨b, hb⟩ : ∃ b, lb[q]? = some b := ⟨lb[q], by simp [lk]⟩
                have VQ := hide (V10.out.below HQ.out)
                have HBK := hide hb
                have HEV : Hid ((decide (b.s < t.first) || (la.map Vv.vt).any (matchB b.vt)) = true) := by
                  have hbt : b.vt ∈ s.vs := by rw [← LB.out]; exact List.mem_map.2 ⟨b, List.mem_of_getElem? hb, rfl⟩
                  show _ = _
                  rcases KP.out.each _ hbt with h | ⟨v, hv, hm⟩
                  · rw [decide_eq_true (show b.s < t.first from h), Bool.true_or]
                  · rw [LA.out, List.any_eq_true.2 ⟨v, hv, hm⟩, Bool.or_true]
                obtain ⟨gb, rfl, _, hg, d0, d1, d2, d3⟩ := VQ.out.at hb
                clear hb lk VQ hg d3
                go_wp2_with fail
                refine wp_region_cells w10 [(⟨gb, q * 4, none⟩, .int .i64 b.s)] (by kernel_rfl) (by kernel_rfl) HQ.out (by simp [AllCells, d0]) ?_
                intro hne qq
                simp only [AllCells, and_true] at qq
                clear d0 d1 d2
                repeat (go_big_quiet_step (first | (go_at_call 14; exact Held.call _ (CF.out _ (Held.below _)))))
                refine wpQuiet_nil ?_
                rintro _ ⟨y, rfl⟩
                obtain ⟨w13, e13⟩ : ∃ w13, w13 = y.x := ⟨_, rfl⟩
                have B13 : Hid (Below w10.heap.size w10 w13) := by rw [e13]; exact y.below
                rw [← e13]
                clear e13 qq hne HQ
                go_wp2_with fail
                go_loopw [13, 14] (fun tv i wq => ∃ (j : Nat) (bb : Bool), j ≤ ma ∧ i = .int .i64 j ∧ tv = .bool bb ∧ Hid (bb = (decide (b.s < t.first) || ((la.take j).map Vv.vt).any (matchB b.vt))) ∧ Hid (Below w10.heap.size w10 wq)) (fun _ i _ => ma - (intOf i).toNat)
                case atStart => exact ⟨0, _, Nat.zero_le _, rfl, rfl, by show _ = _; simp, B13⟩
                case round =>
                  clear B13
                  obtain ⟨j, bb, hj, rfl, rfl, HBB, HJ⟩ := hrel
                  by_cases hjl : j < ma
                  · have k1 : (j : Int) < (ma : Int) := by omega
                    have k2 : (0 : Int) ≤ (j : Int) := by omega
                    have lj : j < la.length := by have := T10.out.len; omega
                    obtain ⟨p, hp⟩ : ∃ p, la[j]? = some p := ⟨la[j], by simp [lj]⟩
                    have TJ := hide (T10.out.below HJ.out)
                    have VJ := hide (V10.out.below HJ.out)
                    have NXT : Hid ((decide (b.s < t.first) || ((la.take (j + 1)).map Vv.vt).any (matchB b.vt)) = (bb || matchB b.vt p.vt)) := by
                      show _ = _
                      rw [HBB.out, List.take_succ_eq_append_getElem lj, (List.getElem?_eq_some_iff.1 hp).2, List.map_append, List.any_append, ← Bool.or_assoc]
                      simp
                    obtain ⟨g, rfl, _, _, d0, d1, d2, _⟩ := TJ.out.at hp
                    obtain ⟨g', e', _, _, f0, f1, f2, _⟩ := VJ.out.at HBK.out
                    obtain rfl : gb = g' := by simpa using e'
                    clear hp lj TJ VJ e'
                    cases bb
                    · by_cases hsl : p.s = b.s
                      · have n1 : (p.s == b.s) = true := by simp [hsl]
                        have n2 : (p.s = b.s) = True := eq_true hsl
                        have n3 : decide (p.s = b.s) = true := decide_eq_true hsl
                        obtain ⟨lx, hlx⟩ : ∃ lx, lessB p.r p.n b.r b.n = lx := ⟨_, rfl⟩
                        have CL := hide (fun y => lless_lit hlx y)
                        have MV : Hid (matchB b.vt p.vt = !lx) := by show _ = _; rw [match_eq hsl, hlx]
                        clear hlx hsl
                        cases lx
                        · go_wp2_with fail
                          refine wp_region_cells w10 [(⟨g, j * 4, none⟩, .int .i64 p.s), (⟨g, j * 4 + 1, none⟩, .int .i64 p.r), (⟨g, j * 4 + 2, none⟩, .int .i64 p.n), (⟨gb, q * 4, none⟩, .int .i64 b.s), (⟨gb, q * 4 + 1, none⟩, .int .i64 b.r), (⟨gb, q * 4 + 2, none⟩, .int .i64 b.n)] (by kernel_rfl) (by kernel_rfl) HJ.out (by simp [AllCells, d0, d1, d2, f0, f1, f2]) ?_
                          intro hne qq
                          simp only [AllCells, and_true] at qq
                          clear d0 d1 d2 f0 f1 f2
                          repeat (go_big_quiet_step (first | (go_at_call 25; exact Held.call _ (CL.out _))))
                          refine wpQuiet_nil ?_
                          rintro _ ⟨y, rfl⟩
                          have BQ : Hid (Below w10.heap.size w10 y.x) := y.below
                          clear qq hne n1 n2 n3 CL
                          go_wp2_with fail
                          go_roundw
                          case rel => exact ⟨j + 1, true, by omega, by go_num, rfl, by show _ = _; rw [NXT.out, MV.out]; rfl, BQ⟩
                          case measure => simp [intOf]; omega
                        · go_wp2_with fail
                          refine wp_region_cells w10 [(⟨g, j * 4, none⟩, .int .i64 p.s), (⟨g, j * 4 + 1, none⟩, .int .i64 p.r), (⟨g, j * 4 + 2, none⟩, .int .i64 p.n), (⟨gb, q * 4, none⟩, .int .i64 b.s), (⟨gb, q * 4 + 1, none⟩, .int .i64 b.r), (⟨gb, q * 4 + 2, none⟩, .int .i64 b.n)] (by kernel_rfl) (by kernel_rfl) HJ.out (by simp [AllCells, d0, d1, d2, f0, f1, f2]) ?_
                          intro hne qq
                          simp only [AllCells, and_true] at qq
                          clear d0 d1 d2 f0 f1 f2
                          repeat (go_big_quiet_step (first | (go_at_call 25; exact Held.call _ (CL.out _))))
                          refine wpQuiet_nil ?_
                          rintro _ ⟨y, rfl⟩
                          have BQ : Hid (Below w10.heap.size w10 y.x) := y.below
                          clear qq hne n1 n2 n3 CL
                          go_wp2_with fail
                          go_roundw
                          case rel => exact ⟨j + 1, false, by omega, by go_num, rfl, by show _ = _; rw [NXT.out, MV.out]; rfl, BQ⟩
                          case measure => simp [intOf]; omega
                      · have n1 : (p.s == b.s) = false := by simpa using hsl
                        have n2 : (p.s = b.s) = False := eq_false hsl
                        have n3 : decide (p.s = b.s) = false := decide_eq_false hsl
                        have MV : Hid (matchB b.vt p.vt = false) := match_ne hsl
                        clear hsl
                        go_wp2_with fail
                        refine wp_region_cells w10 [(⟨g, j * 4, none⟩, .int .i64 p.s), (⟨gb, q * 4, none⟩, .int .i64 b.s)] (by kernel_rfl) (by kernel_rfl) HJ.out (by simp [AllCells, d0, f0]) ?_
                        intro hne qq
                        simp only [AllCells, and_true] at qq
                        clear d0 d1 d2 f0 f1 f2
                        repeat (go_big_quiet_step (fail))
                        refine wpQuiet_nil ?_
                        rintro _ ⟨y, rfl⟩
                        have BQ : Hid (Below w10.heap.size w10 y.x) := y.below
                        clear qq hne n1 n2 n3
                        go_wp2_with fail
                        go_roundw
                        case rel => exact ⟨j + 1, false, by omega, by go_num, rfl, by show _ = _; rw [NXT.out, MV.out]; rfl, BQ⟩
                        case measure => simp [intOf]; omega
                    · go_wp2_with fail
                      refine wp_region_cells w10 [] (by kernel_rfl) (by kernel_rfl) HJ.out trivial ?_
                      intro hne qq
                      clear d0 d1 d2 f0 f1 f2
                      repeat (go_big_quiet_step (fail))
                      refine wpQuiet_nil ?_
                      rintro _ ⟨y, rfl⟩
                      have BQ : Hid (Below w10.heap.size w10 y.x) := y.below
                      clear qq hne
                      go_wp2_with fail
                      go_roundw
                      case rel => exact ⟨j + 1, true, by omega, by go_num, rfl, by show _ = _; rw [NXT.out]; rfl, BQ⟩
                      case measure => simp [intOf]; omega
                  · obtain rfl : ma = j := by omega
                    obtain rfl : bb = true := by
                      rw [HBB.out, List.take_of_length_le (by have := T10.out.len; omega)]
                      exact HEV.out
                    clear hjl hj HBB
                    go_wp2_with fail
                    go_roundw
                    case rel => exact ⟨q + 1, by omega, by go_num, HJ⟩
                    case measure => simp [intOf]; omega
              · obtain rfl : mbf = q := by omega
                clear hql hq
                have BF : Hid (Below w.heap.size w wr) := below_step BW10.out HQ.out
                have AF := hide (A10.out.below HQ.out)
                go_wp2_with fail
                go_roundw
                case rel => exact ⟨k + 1, t, by omega, by go_num, BF, AF⟩
                case measure => simp [intOf]; omega
    · obtain rfl : k = len' := by omega
      clear hlt hk
      go_wp2_with fail
      go_ret
      exact ⟨rfl, HB.out⟩

set_option maxRecDepth 100000 in
theorem lifted (os : Os) (started : os.Started) (H : Type) (enc : TypeId × Value → H) :
    ReturnsInHanded {} Try.checked os 5 .any (Rows.acceptKeepsSpec.pre6 enc Try.prog Try.f5 Rows.acceptKeepsRow.domain false) (Rows.acceptKeepsSpec.post enc Try.prog Try.f5 false true false false) := by
  refine returnsInHanded_of_change_sized (C := Try.checked) own started (by kernel_rfl) Try.func5
    (ChangeSpec.witness6 (enc := enc) (C := Try.checked) false ⟨#[], #[.slice none 0 0, .slice none 0 0], []⟩ 8 (by kernel_rfl) (by kernel_rfl) (by kernel_rfl) (by kernel_rfl)) ?_
  intro W base args ds gs before hval0 hW hcnd hsz0 _
  have hsz : (DataW.weightsEach Try.prog (Try.f5.params.toList ++ Rows.acceptKeepsSpec.plain.varTypes Try.prog) (ds ++ gs)).all (· ≤ reachBytes) = true := hsz0
  have hval : ∀ (j : Nat) t v, Try.f5.params[j]? = some t → args[j]? = some v → Value.okWide Try.prog W .any base t v := hval0
  have hW' := hW
  obtain ⟨p, q, hA0, hV, rfl, hfz, hnd⟩ := hW
  have hA : DataW.TrodAll enc Try.prog W 0 (fun _ => true) true Try.f5.params.toList args.toList ds p := hA0
  rw [Try.params5] at hA hval hsz
  obtain ⟨v0, vs0, d0, ds0, p0, q0, hargs, rfl, rfl, h0, r0⟩ := trodAll_cons hA
  obtain ⟨v1, vs1, d1, ds1, p1, q1, rfl, rfl, rfl, h1, r1⟩ := trodAll_cons r0
  obtain ⟨rfl, rfl, rfl⟩ := trodAll_nil r1
  obtain rfl : args = #[v0, v1] := by cases args; simp_all
  obtain ⟨rfl, rfl⟩ := trodVars_none hV
  have lt0 : ∀ x ∈ p0, x.block < W.heap.size := by obtain ⟨m, hm⟩ := h0; exact DataW.trod_lt m _ _ _ hm
  obtain ⟨a, len, cap, os, rfl, ho⟩ := open_ops_held (hval 0 22 v0 rfl rfl) h0 (fun n hn => by have h := List.all_eq_true.1 hsz n (DataW.weights_mem_each (j := 0) rfl rfl n hn); simpa using h)
  have lt1 : ∀ x ∈ p1, x.block < W.heap.size := by obtain ⟨m, hm⟩ := h1; exact DataW.trod_lt m _ _ _ hm
  obtain ⟨a', len', cap', os', rfl, ho'⟩ := open_ops_held (hval 1 22 v1 rfl rfl) h1 (fun n hn => by have h := List.all_eq_true.1 hsz n (DataW.weights_mem_each (j := 1) rfl rfl n hn); simpa using h)
  clear hA0 hval0
  refine (walk ho ho').mono fun e W' ⟨he, bel⟩ => ?_
  subst he
  exact ⟨_, rfl, _, _, _, [], _, [], hW', trodAll_mk1 (shut_bool Try.underlying4 _), (trodAll_cons_mk (Below.trod laidOut (by kernel_rfl) (of_decide_eq_true (by kernel_rfl)) h0 bel lt0) (trodAll_cons_mk (Below.trod laidOut (by kernel_rfl) (of_decide_eq_true (by kernel_rfl)) h1 bel lt1) trodAll_mk0)), rfl, bel.frame _, fun h => by cases h⟩

theorem over : Rows.acceptKeepsRow.holds Try.pinned (OpenSpec.ofChange Rows.acceptKeepsSpec) :=
  OpenClaim.holds_of_wide 5 Try.f5 rfl rfl rfl rfl rfl rfl rfl ⟨rfl, rfl, rfl, rfl, rfl⟩ rfl rfl rfl rfl rfl (by kernel_rfl) Try.func5 (by kernel_rfl)
    (of_decide_eq_true (by kernel_rfl)) (by unfold Func.isWrapper; first | (rw [if_pos (by decide +kernel)]; kernel_rfl) | (rw [if_neg (by decide +kernel)]; exact ⟨rfl, rfl⟩))
    (fun os started H enc _ => lifted os started H enc)

theorem proved : Rows.AcceptKeepsSaid := over
#print axioms proved
end AcceptKeeps
theorem acceptKeeps_holds : Rows.AcceptKeepsSaid := AcceptKeeps.proved
end Go.Proofs.Ytdnniokpkamjjaa
