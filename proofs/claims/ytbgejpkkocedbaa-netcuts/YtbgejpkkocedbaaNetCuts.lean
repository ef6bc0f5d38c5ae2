/- NetCuts: what is sent between two that are cut is lost, both ways, till they are healed; all others go on: for every list of calls ahead of it. No condition. -/
import Derived.Test.YtbgejpkkocedbaaNetRan
import Derived.BigQuiet
import Derived.Deep.LoopGhost
namespace Go.Proofs.Ytbgejpkkocedbaa
namespace NetCuts
open Go.ChangeShapes Go.WideShapes Go.ChangeAt Go.RowKit B8 Nm
set_option linter.unusedVariables false

/-- a number turned into a node -/
def nod (m : Nat) (x : Int) : Int := 1 + (x % 18446744073709551616) % (m : Int)
theorem u64_id {m : Nat} (h2 : m ≤ 5) : IntKind.u64.wrap (m : Int) = (m : Int) := by simp [IntKind.wrap, IntKind.bits, IntKind.signed]; omega
theorem nod_wrap {m : Nat} (h1 : 1 ≤ m) (h2 : m ≤ 5) (x : Int) : wrap64 (1 + wrap64 ((IntKind.u64.wrap x).tmod (m : Int))) = nod m x ∧ IntKind.u64.wrap ((IntKind.u64.wrap x).tmod (m : Int)) = (IntKind.u64.wrap x).tmod (m : Int) ∧ 1 ≤ nod m x ∧ nod m x ≤ m := by
  have e1 : IntKind.u64.wrap x = x % 18446744073709551616 := by simp [IntKind.wrap, IntKind.bits, IntKind.signed]
  have e3 : 0 ≤ x % 18446744073709551616 := by omega
  rw [e1, Int.tmod_eq_emod_of_nonneg e3, wrapU]
  unfold nod wrap64
  have e4 : 0 ≤ x % 18446744073709551616 % (m : Int) := Int.emod_nonneg _ (by omega)
  have e5 : x % 18446744073709551616 % (m : Int) < m := Int.emod_lt_of_pos _ (by omega)
  omega
theorem has_yes {s : Ns} {x : Int} (h1 : 1 ≤ x) (h2 : x ≤ s.n) : hasB s x = true := by simp [hasB]; omega
theorem send_long {s : Ns} {f t : Int} {bs : List Int} (h : 16384 < bs.length) : sendE s f t bs = 1 := by
  have : badB s f t bs.length = true := by simp [badB, h]
  simp [sendE, this]
theorem bad_no {s : Ns} {f t : Int} (hf : hasB s f = true) (ht : hasB s t = true) {n : Nat} (hn : n ≤ 16384) : badB s f t n = false := by simp [badB, hf, ht]; exact hn
theorem send_cut {s : Ns} {f t : Int} {bs : List Int} (hf : hasB s f = true) (ht : hasB s t = true) (hn : bs.length ≤ 16384) (h : apartB s f t = true) : sendE s f t bs = 0 ∧ sendS s f t bs = s := by
  simp [sendE, sendS, bad_no hf ht hn, h]
theorem send_go {s : Ns} {f t : Int} {bs : List Int} (hf : hasB s f = true) (ht : hasB s t = true) (hn : bs.length ≤ 16384) (h : apartB s f t = false) (hl : s.ps.length < 256) : sendE s f t bs = 0 ∧ sendS s f t bs = { s with ps := s.ps ++ [⟨f, t, bs⟩] } := by
  have : ¬ 256 ≤ s.ps.length := by omega
  simp [sendE, sendS, bad_no hf ht hn, h, this]
set_option maxRecDepth 100000 in
set_option maxHeartbeats 1000000 in
theorem walk {w : World} {a : Option Addr} {len cap : Nat} {os : Nat → Opd} (h : Ops w a len os) (b x y z : Int) {ab : Option Addr} {n cp : Nat} {bs : List Int} (q : Sq w ab n cp bs) :
    Calls Try.prog 5 #[.int .i64 b, .slice a len cap, .int .i64 x, .int .i64 y, .int .i64 z, .slice ab n cp] w fun e w' => e = .returned (.bool true) ∧ Below w.heap.size w w' := by
  have KM : Hid (len < maxLen) := by have := h.room; show _ < _; unfold maxLen; omega
  have RA := hide (ran_any (cap := cap) h b)
  have Q := hide q
  have hrb := rlen_wrap b
  have hnb := hrb.1
  have RB : Hid (1 ≤ rlen b ∧ rlen b ≤ 5) := hrb.2
  have ex := nod_wrap RB.out.1 RB.out.2 x
  have ey := nod_wrap RB.out.1 RB.out.2 y
  have ez := nod_wrap RB.out.1 RB.out.2 z
  have hu := u64_id RB.out.2
  have hz1 : ((rlen b : Int) = 0) = False := by simp; have := RB.out.1; omega
  have hz3 : (rlen b = 0) = False := by simp; have := RB.out.1; omega
  have hz2 : ((rlen b : Int) == 0) = false := by simp; have := RB.out.1; omega
  generalize rlen b = rl at *
  have ex1 := ex.1
  have ey1 := ey.1
  have ez1 := ez.1
  have ex2 := ex.2.1
  have ey2 := ey.2.1
  have ez2 := ez.2.1
  have EX := hide ex.2.2
  have EY := hide ey.2.2
  have EZ := hide ez.2.2
  clear h q hrb ex ey ez
  generalize nod rl x = X at *
  generalize nod rl y = Y at *
  generalize nod rl z = Z at *
  go_enter Try.func5, Try.ntmps5
  go_wp2_with fail
  refine RA.out.mono ?_
  rintro e w1 ⟨D, s, rfl, hb1, hn1, hs1⟩
  have B1 := hide hb1
  have N1 := hide hn1
  have SN := hide hs1
  clear hb1 hn1 hs1
  go_wp2_with fail
  refine (awake_any _).mono ?_
  rintro e w2 ⟨rfl, hb2⟩
  have B2 := hide (below_step B1.out hb2)
  have N2 := hide (N1.out.below hb2)
  clear hb2 B1 N1
  go_upto_region 5 with fail
  go_cut [2, 3, 4] (fun u2 u3 u4 w3 => u2 = .int .i64 X ∧ u3 = .int .i64 Y ∧ u4 = .int .i64 Z ∧ ∃ nq, w3 = w2.drewN nq)
  case first =>
    go_quiet (fail)
    go_wp2_with fail
    go_meet
    case rel => exact ⟨by rw [ex1], by rw [ey1], by rw [ez1], _, rfl⟩
  case rest =>
    obtain ⟨rfl, rfl, rfl, nq, rfl⟩ := hcut
    obtain ⟨w3, e3⟩ : ∃ w3, w3 = w2.drewN nq := ⟨_, rfl⟩
    have bq : Below w2.heap.size w2 (w2.drewN nq) := ⟨rfl, rfl, rfl, Nat.le_refl _, fun _ _ => rfl⟩
    have B3 : Hid (Below w.heap.size w w3) := by rw [e3]; exact below_step B2.out bq
    have N3 : Hid (NtN w3 w.heap.size D len s) := by rw [e3]; exact N2.out.below bq
    rw [← e3]
    clear e3 bq B2 N2 ex1 ey1 ez1 ex2 ey2 ez2 hu hz1 hz2 hz3 hnb RA
    have Q3 := hide (Q.out.below B3.out)
    obtain ⟨L, hn, rfl, hL⟩ := N3.out
    have LL := hide hL
    have K3 := hide hn
    clear hn hL
    by_cases hbig : 16384 < n
    · have hb2 : (16384 : Int) < (n : Int) := by omega
      have CS := hide (send_any K3.out X Y Q3.out)
      rw [send_long (by rw [Q.out.length]; exact hbig)] at CS
      clear hbig
      go_wp2_with fail
      refine CS.out.mono ?_
      rintro e w4 ⟨rfl, hmv⟩
      have M4 := hide (mv_next rfl LL.out B3.out.size hmv (Nat.le_refl _))
      clear hmv
      go_wp2_with fail
      go_ret
      exact ⟨rfl, B3.out.trans M4.out.2⟩
    · have hb2 : (n : Int) ≤ 16384 := by omega
      have QB : Hid (bs.length ≤ 16384) := by show _ ≤ _; rw [Q.out.length]; omega
      clear hbig
      go_wp2_with fail
      refine (heal_any K3.out).mono ?_
      rintro e w4 ⟨rfl, hmv⟩
      have M4 := hide (mv_next rfl LL.out B3.out.size hmv (Nat.le_refl _))
      have B4 : Hid (Below w.heap.size w w4) := B3.out.trans M4.out.2
      have N4 := hide M4.out.1
      generalize L.N = D at N4 ⊢
      clear hmv M4 N3 B3 K3 LL Q3
      go_wp2_with fail
      go_loopg [15] s.ps.length (fun gk u wr => ∃ (s : Ns), Hid (s.ps.length = gk) ∧ Hid (Below w.heap.size w wr) ∧ Hid (NtN wr w.heap.size D len s) ∧ Hid (s.cuts = []) ∧ Hid (s.n = rl))
      case atStart => exact ⟨healS s, rfl, B4, N4, rfl, SN⟩
      case round =>
        clear N4 B4 SN
        obtain ⟨s, HG, HB, HD, HC, SN⟩ := hrel
        obtain ⟨L, hn, rfl, hL⟩ := HD.out
        have LL := hide hL
        have K3 := hide hn
        have CL := hide (len_net K3.out)
        clear hn hL
        rw [HG.out] at CL
        by_cases h0 : gk = 0
        · subst h0
          have CC := hide (cut_any K3.out KM.out X Y)
          have HX : Hid (hasB s X = true) := has_yes EX.out.1 (by rw [SN.out]; exact EX.out.2)
          have HY : Hid (hasB s Y = true) := has_yes EY.out.1 (by rw [SN.out]; exact EY.out.2)
          by_cases hxy : X = Y
          · subst hxy
            rw [show cutE s X X = 1 by simp [cutE]] at CC
            go_wp2_with fail
            refine CL.out.mono ?_
            rintro e w5 ⟨rfl, rfl⟩
            go_wp2_with fail
            refine CC.out.mono ?_
            rintro e w6 ⟨rfl, hmv⟩
            have M6 := hide (mv_next rfl LL.out HB.out.size hmv (Nat.le_refl _))
            clear hmv
            go_wp2_with fail
            go_ret
            exact ⟨rfl, HB.out.trans M6.out.2⟩
          · obtain ⟨s1, es1⟩ : ∃ s1 : Ns, s1 = { s with cuts := [(X, Y)] } := ⟨_, rfl⟩
            have cE : cutE s X Y = 0 := by simp [cutE, HX.out, HY.out, hxy]
            have cS : cutS s X Y = s1 := by rw [es1]; simp [cutS, cE, HC.out]
            rw [cE, cS] at CC
            have n1 : Hid (s1.n = rl) := by rw [es1]; exact SN.out
            have l1 : Hid (s1.ps.length = 0) := by rw [es1]; exact HG.out
            have X1 : Hid (hasB s1 X = true) := has_yes EX.out.1 (by rw [n1.out]; exact EX.out.2)
            have Y1 : Hid (hasB s1 Y = true) := has_yes EY.out.1 (by rw [n1.out]; exact EY.out.2)
            have Z1 : Hid (hasB s1 Z = true) := has_yes EZ.out.1 (by rw [n1.out]; exact EZ.out.2)
            have aXY : apartB s1 X Y = true := by rw [es1]; simp [apartB]
            have aYX : apartB s1 Y X = true := by rw [es1]; simp [apartB]
            have aXX : apartB s1 X X = false := by
              rw [es1]; simp [apartB]
              exact fun e => hxy e.symm
            have aXZ : Hid (Z ≠ X → Z ≠ Y → apartB s1 X Z = false) := fun h1 h2 => by
              rw [es1]; simp [apartB]
              exact ⟨fun e => h2 e.symm, fun e => absurd e.symm h1⟩
            have fXY := send_cut X1.out Y1.out QB.out aXY
            have fYX := send_cut Y1.out X1.out QB.out aYX
            have fXX := send_go X1.out X1.out QB.out aXX (by rw [l1.out]; omega)
            have FX := hide fXX
            have F1 := hide fXY
            have F2 := hide fYX
            have x1 : (X == Y) = false := by simp [hxy]
            have x2 : (X = Y) = False := by simp [hxy]
            clear cE cS aXY aYX aXX hxy es1 fXY fYX fXX HX HY
            go_wp2_with fail
            refine CL.out.mono ?_
            rintro e w5 ⟨rfl, rfl⟩
            go_wp2_with fail
            refine CC.out.mono ?_
            rintro e w6 ⟨rfl, hmv⟩
            have M6 := hide (mv_next rfl LL.out HB.out.size hmv (Nat.le_refl _))
            have B6 : Hid (Below w.heap.size w w6) := HB.out.trans M6.out.2
            obtain ⟨L6, hn6, hp6, hl6⟩ := M6.out.1
            have C6 := hide (send_any hn6 X Y (Q.out.below B6.out))
            rw [hp6, F1.out.1, F1.out.2] at C6
            have LL6 := hide hl6
            clear hmv hn6 hl6 M6
            go_wp2_with fail
            refine C6.out.mono ?_
            rintro e w7 ⟨rfl, hmv⟩
            have M7 := hide (mv_next hp6 LL6.out B6.out.size hmv (Nat.le_refl _))
            have B7 : Hid (Below w.heap.size w w7) := B6.out.trans M7.out.2
            obtain ⟨L7, hn7, hp7, hl7⟩ := M7.out.1
            have C7 := hide (send_any hn7 Y X (Q.out.below B7.out))
            rw [hp7, F2.out.1, F2.out.2] at C7
            have LL7 := hide hl7
            clear hmv hn7 hl7 M7
            go_wp2_with fail
            refine C7.out.mono ?_
            rintro e w8 ⟨rfl, hmv⟩
            have M8 := hide (mv_next hp7 LL7.out B7.out.size hmv (Nat.le_refl _))
            have B8' : Hid (Below w.heap.size w w8) := B7.out.trans M8.out.2
            obtain ⟨L8, hn8, hp8, hl8⟩ := M8.out.1
            have CN := hide (len_net hn8)
            rw [hp8, l1.out] at CN
            have C8 := hide (send_any hn8 X X (Q.out.below B8'.out))
            rw [hp8, FX.out.1, FX.out.2] at C8
            have LL8 := hide hl8
            clear hmv hn8 hl8 M8
            go_wp2_with fail
            refine CN.out.mono ?_
            rintro e w9 ⟨rfl, rfl⟩
            go_wp2_with fail
            refine C8.out.mono ?_
            rintro e wa ⟨rfl, hmv⟩
            have Ma := hide (mv_next hp8 LL8.out B8'.out.size hmv (Nat.le_refl _))
            have Ba : Hid (Below w.heap.size w wa) := B8'.out.trans Ma.out.2
            obtain ⟨s2, es2⟩ : ∃ s2 : Ns, s2 = { s1 with ps := s1.ps ++ [⟨X, X, bs⟩] } := ⟨_, rfl⟩
            rw [← es2] at Ma
            have n2 : Hid (s2.n = rl) := by rw [es2]; exact n1.out
            have l2 : Hid (s2.ps.length = 1) := by rw [es2]; show _ = _; simp [l1.out]
            have AZ : Hid (Z ≠ X → Z ≠ Y → apartB s2 X Z = false) := by rw [es2]; exact aXZ.out
            have Na := hide Ma.out.1
            generalize L.N = D at Na ⊢
            clear hmv Ma es2 hp6 hp7 hp8 C8 CN C7 C6 CC CL LL LL6 LL7 LL8 K3 aXZ B8' B7 B6 x1 x2 l1 FX F1 F2
            go_upto_region 21 with fail
            go_cut [128] (fun u wb => wb = wa ∧ ∃ bq : Bool, u = .bool bq ∧ Hid (bq = true → Z ≠ X ∧ Z ≠ Y))
            case first =>
              by_cases zx : Z = X
              · have y1 : (Z == X) = true := by simp [zx]
                have y2 : (Z = X) = True := by simp [zx]
                clear zx
                go_wp2_with fail
                go_meet
                case rel => exact ⟨rfl, false, rfl, fun h => by cases h⟩
              · have y1 : (Z == X) = false := by simp [zx]
                have y2 : (Z = X) = False := by simp [zx]
                have ZX := hide zx
                by_cases zy : Z = Y
                · have y3 : (Z == Y) = true := by simp [zy]
                  have y4 : (Z = Y) = True := by simp [zy]
                  clear zx zy
                  go_wp2_with fail
                  go_meet
                  case rel => exact ⟨rfl, false, by simp [bne, y3], fun h => by cases h⟩
                · have y3 : (Z == Y) = false := by simp [zy]
                  have y4 : (Z = Y) = False := by simp [zy]
                  have ZY := hide zy
                  clear zx zy
                  go_wp2_with fail
                  go_meet
                  case rel => exact ⟨rfl, true, by simp [bne, y1, y3], fun _ => ⟨ZX.out, ZY.out⟩⟩
            case rest =>
            obtain ⟨rfl, bq, rfl, HQ⟩ := hcut
            go_upto_if 128 with fail
            go_cut [19, 20] (fun u v wb => u = .int .i64 0 ∧ ∃ (q : Nat) (s3 : Ns), q ≤ 2 ∧ v = .int .i64 q ∧ Hid (Below w.heap.size w wb) ∧ Hid (NtN wb w.heap.size D (len + 1) s3) ∧ Hid (s3.n = rl) ∧ Hid (s3.ps.length = q))
            case first =>
              cases bq with
              | false =>
                go_wp2_with fail
                go_meet
                case rel => exact ⟨rfl, 1, s2, by omega, rfl, Ba, Na, n2, l2⟩
              | true =>
                have fg := hide (send_go (s := s2) (has_yes EX.out.1 (by rw [n2.out]; exact EX.out.2)) (has_yes EZ.out.1 (by rw [n2.out]; exact EZ.out.2)) QB.out (AZ.out (HQ.out rfl).1 (HQ.out rfl).2) (by rw [l2.out]; omega))
                obtain ⟨La, hna, rfl, hla⟩ := Na.out
                have Ca := hide (send_any hna X Z (Q.out.below Ba.out))
                rw [fg.out.1, fg.out.2] at Ca
                have LLa := hide hla
                clear hna hla fg
                go_wp2_with fail
                refine Ca.out.mono ?_
                rintro e wb ⟨rfl, hmv⟩
                have Mb := hide (mv_next rfl LLa.out Ba.out.size hmv (Nat.le_refl _))
                clear hmv
                go_wp2_with fail
                go_meet
                case rel => exact ⟨rfl, 2, _, by omega, rfl, Ba.out.trans Mb.out.2, Mb.out.1, n2.out, by show _ = _; simp [l2.out]⟩
            case rest =>
              clear Na Ba n2 l2 AZ
              obtain ⟨rfl, q, s3, hq2, rfl, Bb, Nb, n3, l3⟩ := hcut
              obtain ⟨Lb, hnb, rfl, hlb⟩ := Nb.out
              have LLb := hide hlb
              have Kb := hide hnb
              have CLb := hide (len_net Kb.out)
              rw [l3.out] at CLb
              have x1 : IntKind.i64.wrap ((q : Int) + 1) = (q : Int) + 1 := by rw [IntKind.wrap_i64]; omega
              clear hnb hlb
              go_wp2_with fail
              refine CLb.out.mono ?_
              rintro e wc ⟨rfl, rfl⟩
              go_wp2_with fail
              refine (heal_any Kb.out).mono ?_
              rintro e wd ⟨rfl, hmv⟩
              have Md := hide (mv_next rfl LLb.out Bb.out.size hmv (Nat.le_refl _))
              have Bd : Hid (Below w.heap.size w wd) := Bb.out.trans Md.out.2
              obtain ⟨Ld, hnd, hpd, hld⟩ := Md.out.1
              have Cd := hide (send_any hnd Y X (Q.out.below Bd.out))
              have fd := hide (send_go (s := healS s3) (has_yes EY.out.1 (by rw [show (healS s3).n = rl from n3.out]; exact EY.out.2)) (has_yes EX.out.1 (by rw [show (healS s3).n = rl from n3.out]; exact EX.out.2)) QB.out (by simp [apartB, healS]) (by show s3.ps.length < 256; rw [l3.out]; omega))
              rw [hpd, fd.out.1, fd.out.2] at Cd
              have LLd := hide hld
              clear hmv hnd hld Md fd
              go_wp2_with fail
              refine Cd.out.mono ?_
              rintro e we ⟨rfl, hmv⟩
              have Me := hide (mv_next hpd LLd.out Bd.out.size hmv (Nat.le_refl _))
              obtain ⟨Le, hne, hpe, hle⟩ := Me.out.1
              have Ce := hide (len_net hne)
              rw [hpe, show ((healS s3).ps ++ [(⟨Y, X, bs⟩ : Pk)]).length = q + 1 by simp [healS, l3.out]] at Ce
              clear hmv hne hle
              go_wp2_with fail
              refine Ce.out.mono ?_
              rintro e wf ⟨rfl, rfl⟩
              go_wp2_with fail
              go_ret
              exact ⟨rfl, Bd.out.trans Me.out.2⟩
        · have z0 : (0 : Int) < (gk : Int) := by omega
          have CD := hide (drop_any K3.out 0)
          have r0 : reachE s 0 = 0 := by unfold reachE; rw [if_neg (by rw [HG.out]; omega)]
          rw [r0] at CD
          have G1 : Hid ((takeS s 0).ps.length = gk - 1) := by show _ = _; unfold takeS; rw [if_pos r0]; show (s.ps.eraseIdx (0 : Int).toNat).length = gk - 1; rw [List.length_eraseIdx_of_lt (by rw [HG.out]; simp; omega), HG.out]
          have C1 : Hid ((takeS s 0).cuts = []) := by show _ = _; unfold takeS; rw [if_pos r0]; exact HC.out
          have x1 : IntKind.i64.wrap ((gk : Int) - 1) = ((gk - 1 : Nat) : Int) := by rw [IntKind.wrap_i64]; have := K3.out.ok.most; rw [HG.out] at this; omega
          have LT : Hid (gk - 1 < gk) := by show _ < _; omega
          obtain ⟨gp, ep⟩ : ∃ gp, gp = gk - 1 := ⟨_, rfl⟩
          rw [← ep] at G1 x1 LT
          clear r0 h0 ep
          go_wp2_with fail
          refine CL.out.mono ?_
          rintro e w5 ⟨rfl, rfl⟩
          go_wp2_with fail
          refine CL.out.mono ?_
          rintro e w5 ⟨rfl, rfl⟩
          go_wp2_with fail
          refine CD.out.mono ?_
          rintro e w6 ⟨rfl, hmv⟩
          have M6 := hide (mv_next rfl LL.out HB.out.size hmv.mv (Nat.le_refl _))
          obtain ⟨L6, hn6, hp6, hl6⟩ := M6.out.1
          have C6 := hide (len_net hn6)
          rw [hp6, G1.out] at C6
          clear hmv hn6 hl6
          go_wp2_with fail
          refine C6.out.mono ?_
          rintro e w7 ⟨rfl, rfl⟩
          go_wp2_with fail
          go_roundg gp
          case measure => exact LT.out
          case rel => exact ⟨takeS s 0, G1, HB.out.trans M6.out.2, M6.out.1, C1, (takeS_n s 0).trans SN.out⟩

set_option maxRecDepth 100000 in
theorem lifted (os : Os) (started : os.Started) (H : Type) (enc : TypeId × Value → H) :
    ReturnsInHanded {} Try.checked os 5 .any (Rows.netCutsSpec.pre6 enc Try.prog Try.f5 Rows.netCutsRow.domain false) (Rows.netCutsSpec.post enc Try.prog Try.f5 false true false false) := by
  refine returnsInHanded_of_change_sized (C := Try.checked) own started (by kernel_rfl) Try.func5
    (ChangeSpec.witness6 (enc := enc) (C := Try.checked) false ⟨#[], #[.int .i64 0, .slice none 0 0, .int .i64 0, .int .i64 0, .int .i64 0, .slice none 0 0], []⟩ 8 (by kernel_rfl) (by kernel_rfl) (by kernel_rfl) (by kernel_rfl)) ?_
  intro W base args ds gs before hval0 hW hcnd hsz0 _
  have hsz : (DataW.weightsEach Try.prog (Try.f5.params.toList ++ Rows.netCutsSpec.plain.varTypes Try.prog) (ds ++ gs)).all (· ≤ reachBytes) = true := hsz0
  have hval : ∀ (j : Nat) t v, Try.f5.params[j]? = some t → args[j]? = some v → Value.okWide Try.prog W .any base t v := hval0
  have hW' := hW
  obtain ⟨p, q, hA0, hV, rfl, hfz, hnd⟩ := hW
  have hA : DataW.TrodAll enc Try.prog W 0 (fun _ => true) true Try.f5.params.toList args.toList ds p := hA0
  rw [Try.params5] at hA hval hsz
  obtain ⟨v0, vs0, d0, ds0, p0, q0, hargs, rfl, rfl, h0, r0⟩ := trodAll_cons hA
  obtain ⟨v1, vs1, d1, ds1, p1, q1, rfl, rfl, rfl, h1, r1⟩ := trodAll_cons r0
  obtain ⟨v2, vs2, d2, ds2, p2, q2, rfl, rfl, rfl, h2, r2⟩ := trodAll_cons r1
  obtain ⟨v3, vs3, d3, ds3, p3, q3, rfl, rfl, rfl, h3, r3⟩ := trodAll_cons r2
  obtain ⟨v4, vs4, d4, ds4, p4, q4, rfl, rfl, rfl, h4, r4⟩ := trodAll_cons r3
  obtain ⟨v5, vs5, d5, ds5, p5, q5, rfl, rfl, rfl, h5, r5⟩ := trodAll_cons r4
  obtain ⟨rfl, rfl, rfl⟩ := trodAll_nil r5
  obtain rfl : args = #[v0, v1, v2, v3, v4, v5] := by cases args; simp_all
  obtain ⟨rfl, rfl⟩ := trodVars_none hV
  have lt0 : ∀ x ∈ p0, x.block < W.heap.size := by obtain ⟨m, hm⟩ := h0; exact DataW.trod_lt m _ _ _ hm
  obtain ⟨b, rfl, bb⟩ := open_i64 (hval 0 3 v0 rfl rfl) h0
  have lt1 : ∀ x ∈ p1, x.block < W.heap.size := by obtain ⟨m, hm⟩ := h1; exact DataW.trod_lt m _ _ _ hm
  obtain ⟨a, len, cap, os, rfl, ho⟩ := open_ops_held (hval 1 22 v1 rfl rfl) h1 (fun n hn => by have h := List.all_eq_true.1 hsz n (DataW.weights_mem_each (j := 1) rfl rfl n hn); simpa using h)
  have lt2 : ∀ x ∈ p2, x.block < W.heap.size := by obtain ⟨m, hm⟩ := h2; exact DataW.trod_lt m _ _ _ hm
  obtain ⟨x, rfl, xb⟩ := open_i64 (hval 2 3 v2 rfl rfl) h2
  have lt3 : ∀ x ∈ p3, x.block < W.heap.size := by obtain ⟨m, hm⟩ := h3; exact DataW.trod_lt m _ _ _ hm
  obtain ⟨y, rfl, yb⟩ := open_i64 (hval 3 3 v3 rfl rfl) h3
  have lt4 : ∀ x ∈ p4, x.block < W.heap.size := by obtain ⟨m, hm⟩ := h4; exact DataW.trod_lt m _ _ _ hm
  obtain ⟨z, rfl, zb⟩ := open_i64 (hval 4 3 v4 rfl rfl) h4
  have lt5 : ∀ x ∈ p5, x.block < W.heap.size := by obtain ⟨m, hm⟩ := h5; exact DataW.trod_lt m _ _ _ hm
  obtain ⟨ab, n, cp, bs, rfl, hq⟩ := open_sq_sized (hval 5 31 v5 rfl rfl) h5 (fun elems spare e => by have h := hsz; rw [e] at h; exact sized_slice h (j := 5) (t := 31) (e := 5) rfl rfl Try.underlying31)
  clear hA0 hval0
  refine (walk ho b x y z hq.1).mono fun e W' ⟨he, bel⟩ => ?_
  subst he
  exact ⟨_, rfl, _, _, _, [], _, [], hW', trodAll_mk1 (shut_bool Try.underlying4 _), (trodAll_cons_mk (Below.trod laidOut (by kernel_rfl) (of_decide_eq_true (by kernel_rfl)) h0 bel lt0) (trodAll_cons_mk (Below.trod laidOut (by kernel_rfl) (of_decide_eq_true (by kernel_rfl)) h1 bel lt1) (trodAll_cons_mk (Below.trod laidOut (by kernel_rfl) (of_decide_eq_true (by kernel_rfl)) h2 bel lt2) (trodAll_cons_mk (Below.trod laidOut (by kernel_rfl) (of_decide_eq_true (by kernel_rfl)) h3 bel lt3) (trodAll_cons_mk (Below.trod laidOut (by kernel_rfl) (of_decide_eq_true (by kernel_rfl)) h4 bel lt4) (trodAll_cons_mk (Below.trod laidOut (by kernel_rfl) (of_decide_eq_true (by kernel_rfl)) h5 bel lt5) trodAll_mk0)))))), rfl, bel.frame _, fun h => by cases h⟩

theorem over : Rows.netCutsRow.holds Try.pinned (OpenSpec.ofChange Rows.netCutsSpec) :=
  OpenClaim.holds_of_wide 5 Try.f5 rfl rfl rfl rfl rfl rfl rfl ⟨rfl, rfl, rfl, rfl, rfl⟩ rfl rfl rfl rfl rfl (by kernel_rfl) Try.func5 (by kernel_rfl)
    (of_decide_eq_true (by kernel_rfl)) (by unfold Func.isWrapper; first | (rw [if_pos (by decide +kernel)]; kernel_rfl) | (rw [if_neg (by decide +kernel)]; exact ⟨rfl, rfl⟩))
    (fun os started H enc _ => lifted os started H enc)

theorem proved : Rows.NetCutsSaid := over
#print axioms proved
end NetCuts
theorem netCuts_holds : Rows.NetCutsSaid := NetCuts.proved
end Go.Proofs.Ytbgejpkkocedbaa
