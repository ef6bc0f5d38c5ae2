/- AcceptLast: the vote that is told for a slot is the last one that was accepted for it, as long as it is not forgotten; and one that was accepted for each slot alone: for every list of calls. No condition. -/
import Derived.Test.YtdnniokpkamjjabAccLastMath
import Derived.Test.YtdnniokpkamjjabAccRan
import Derived.Test.YtdnniokpkamjjabAccVote
import Derived.Test.YtdnniokpkamjjabAccAwake
import Derived.Test.YtdnniokpkamjjabAccShort
import Derived.Deep.CutBlock
import Derived.Deep.CutRange
namespace Go.Proofs.Ytdnniokpkamjjab
namespace AcceptLast
open Go.ChangeShapes Go.WideShapes Go.ChangeAt Go.RowKit B8 Am
set_option linter.unusedVariables false

def V5 (u : World) (N : Nat) (k : Int) (p : Vv) : Prop := u.cell? ⟨N, 0, none⟩ = some (.int .i64 k) ∧ u.cell? ⟨N, 1, none⟩ = some (.int .i64 p.s) ∧ u.cell? ⟨N, 2, none⟩ = some (.int .i64 p.r) ∧ u.cell? ⟨N, 3, none⟩ = some (.int .i64 p.n) ∧ u.cell? ⟨N, 4, none⟩ = some (.slice p.a p.m p.cp)
theorem V5.below {u u' : World} {N : Nat} {k : Int} {p : Vv} (h : V5 u N k p) (hb : Below u.heap.size u u') : V5 u' N k p := by
  have hN : N < u.heap.size := World.block_lt_of_cell? _ _ h.1
  exact ⟨(hb.cell hN).trans h.1, (hb.cell hN).trans h.2.1, (hb.cell hN).trans h.2.2.1, (hb.cell hN).trans h.2.2.2.1, (hb.cell hN).trans h.2.2.2.2⟩
theorem V5.chg {u u' : World} {N : Nat} {k : Int} {p : Vv} {M : Nat → Prop} (h : V5 u N k p) (hc : Chg M u u') (hn : ¬ M N) : V5 u' N k p := by
  have hl := World.block_lt_of_cell? _ _ h.1
  have c : ∀ o, u'.cell? ⟨N, o, none⟩ = u.cell? ⟨N, o, none⟩ := fun o => World.cell?_of_block (a := ⟨N, o, none⟩) (hc.block N hl hn)
  unfold V5
  rw [c, c, c, c, c]
  exact h
theorem v5_new (w : World) (k : Int) (p : Vv) : V5 (w.alloc (.cells #[.int .i64 k, .int .i64 p.s, .int .i64 p.r, .int .i64 p.n, .slice p.a p.m p.cp] 31)) w.heap.size k p := by
  unfold V5
  simp
/-- a state of the law: the acceptor, and the list of what was accepted -/
structure St (w wr : World) (A mb : Nat) (s : As) (a : Option Addr) (m c : Nat) (l : List Vv) : Prop where
  b : Below w.heap.size w wr
  ac : AcN wr w.heap.size (fun k => w.heap.size ≤ k ∧ (Value.slice a m c).ownBlock ≠ some k) A mb s
  vl : Vl wr w.heap.size (fun k => k < w.heap.size) a m c l
section
variable {w wr w' : World} {A mb : Nat} {s t : As} {a : Option Addr} {m c : Nat} {l : List Vv}
theorem St.below (h : St w wr A mb s a m c l) (hb : Below wr.heap.size wr w') : St w w' A mb s a m c l := ⟨below_step h.b hb, h.ac.below hb, h.vl.below hb⟩
theorem St.hP (h : St w wr A mb s a m c l) : ∀ k, wr.heap.size ≤ k → w.heap.size ≤ k ∧ (Value.slice a m c).ownBlock ≠ some k := fun k hk => ⟨Nat.le_trans h.b.size hk, fun e => by have := (h.vl.row.lt k e).2; omega⟩
theorem St.move (h : St w wr A mb s a m c l) (hm : Mv wr (fun k => w.heap.size ≤ k ∧ (Value.slice a m c).ownBlock ≠ some k) A mb t w') : St w w' A mb t a m c l := by
  obtain ⟨h1, h2⟩ := h.ac.move h.b.size hm
  exact ⟨h.b.trans h2, h1, h.vl.chg hm.1 (fun k hk => ⟨h.ac.ac.noV k hk, .inr (h.ac.ac.noB k hk)⟩)⟩
theorem St.push (h : St w wr A mb s a m c l) (hm : m ≤ 4000000000000) {p : Vv} (hp : p.In wr (fun k => k < w.heap.size)) (ty : TypeId) :
    ∃ g cp w', (Builtin.append_ #[26, 26] ty #[.slice a m c, .slice (some ⟨wr.heap.size, 0, none⟩) 1 1]).run Try.prog (wr.alloc (.cells #[.int .i64 p.s, .int .i64 p.r, .int .i64 p.n, .slice p.a p.m p.cp] 38)) = .ok (.slice (some ⟨g, 0, none⟩) (m + 1) cp) w' ∧ St w w' A mb s (some ⟨g, 0, none⟩) (m + 1) cp (l ++ [p]) := by
  obtain ⟨g, cp, w', hr, ho, hc, hb, hl⟩ := vl_add h.vl hm h.b.size hp ty
  have hv : Vl w' w.heap.size (fun k => k < w.heap.size) (some ⟨g, 0, none⟩) (m + 1) cp (l ++ [p]) := vl_added h.vl hp ho hc (fun q hq h0 ad e e2 => by
    have h1 := (h.vl.row.lt _ e2).1
    have h2 : ad.block < w.heap.size := by
      rcases hq with hq | rfl
      · exact (h.vl.ins q hq).2 h0 ad e
      · exact hp.2 h0 ad e
    omega)
  have nA : ∀ k, (Value.slice a m c).ownBlock = some k → ¬ AM A mb k := fun k hk ha => own_isV h.vl.row hk (h.ac.ac.noV k ha)
  have a0 : Ac wr (fun k => (w.heap.size ≤ k ∧ (Value.slice a m c).ownBlock ≠ some k) ∧ k < wr.heap.size) A mb s := h.ac.ac.mono (fun k hk hl => ⟨hk, hl⟩)
  have a1 : Ac w' (fun k => (w.heap.size ≤ k ∧ (Value.slice a m c).ownBlock ≠ some k) ∧ k < wr.heap.size) A mb s :=
    a0.same (hc.block _ h.ac.ac.ltA (fun hm => nA _ hm (.inl rfl))) (hc.block _ h.ac.ac.ltM (fun hm => nA _ hm (.inr rfl))) (fun q hq => hq.same (fun h0 ad e => hc.block _ (hq.lt h0 ad e) (hq.2 h0 ad e).1.2))
  refine ⟨g, cp, w', hr, h.b.trans hb, ⟨a1.mono (fun k hk _ => ⟨hk.1.1, fun e => ?_⟩), h.ac.hA, h.ac.hM⟩, hv⟩
  have eg : g = k := by simpa [Value.ownBlock] using e
  subst eg
  rcases hl with hl | hl
  · exact hk.1.2 hl
  · have := hk.2
    omega
end
set_option maxRecDepth 100000 in
set_option maxHeartbeats 6000000 in
theorem walk {w : World} {a : Option Addr} {len cap : Nat} {os : Nat → Opd} (h : Ops w a len os) :
    Calls Try.prog 3 #[.slice a len cap] w fun e w' => e = .returned (.bool true) ∧ Below w.heap.size w w' := by
  have H := hide h
  have RM := h.room
  have NY := hide (new_any w)
  clear h
  go_enter Try.func3, Try.ntmps3
  go_wp2_with fail
  refine NY.out.mono ?_
  rintro e w1 ⟨rfl, hb, ha⟩
  obtain ⟨A, eA⟩ : ∃ A, A = w.heap.size + 1 := ⟨_, rfl⟩
  obtain ⟨mb, em⟩ : ∃ mb, mb = w.heap.size := ⟨_, rfl⟩
  have S1 : Hid (St w w1 A mb newS none 0 0 []) := ⟨hb, ⟨by rw [eA, em]; exact ha _, by omega, by omega⟩, vl_nil _ _ _⟩
  rw [← eA]
  clear hb ha eA em
  go_wp2_with fail
  refine (awake_any _).mono ?_
  rintro e w2 ⟨rfl, hb2⟩
  have S2 := hide (S1.out.below hb2)
  clear hb2 S1
  go_wp2_with fail
  go_loopw [4, 5] (fun tl i wr => ∃ (k : Nat) (s : As) (a1 : Option Addr) (m1 c1 : Nat) (ls : List Vv), k ≤ len ∧ i = .int .i64 k ∧ tl = .slice a1 m1 c1 ∧ Hid (St w wr A mb s a1 m1 c1 ls) ∧ Hid (LastI s (ls.map Vv.vt)) ∧ Hid (m1 ≤ k)) (fun _ i _ => len - (intOf i).toNat)
  case atStart => exact ⟨0, _, none, 0, 0, [], Nat.zero_le _, rfl, rfl, S2, last_new, Nat.le_refl _⟩
  case round =>
    clear S2
    obtain ⟨k, s, a1, m1, c1, ls, hk, rfl, rfl, HS, HL, HM⟩ := hrel
    by_cases hlt : k < len
    · obtain ⟨ob, off, rfl, oblt, hoc⟩ := H.out.cells (by omega)
      have VO := hide (H.out.each k hlt)
      have hr := rangeAt_same (hoc k hlt) (HS.out.b.block ob oblt)
      generalize os k = o at *
      obtain ⟨kind, v⟩ := o
      obtain ⟨o0, o1, o2, o3, o4⟩ := opc_cells hr
      clear hr hoc oblt
      have i1 : (k : Int) < (len : Int) := by omega
      have i2 : (0 : Int) ≤ (k : Int) := by omega
      obtain ⟨N, eN⟩ : ∃ N, N = wr.heap.size := ⟨_, rfl⟩
      obtain ⟨u, eu⟩ : ∃ u, u = wr.alloc (.cells #[.int .i64 kind, .int .i64 v.s, .int .i64 v.r, .int .i64 v.n, .slice v.a v.m v.cp] 31) := ⟨_, rfl⟩
      have bu : Below wr.heap.size wr u := by rw [eu]; exact below_alloc (Below.refl _ _) _
      have XU : Hid (V5 u N kind v) := by rw [eu, eN]; exact v5_new wr kind v
      have SU := hide (HS.out.below bu)
      have NA : Hid (¬ AM A mb N) := fun hk => by have := HS.out.ac.ac.lt N hk; omega
      have EU := hide eu
      have EN := hide eN
      clear eu eN bu
      go_upto_region 9 with fail
      rw [← EU.out, ← EN.out]
      clear o0 o1 o2 o3 o4 EU EN HS
      obtain ⟨x0, x1, x2, x3, x4⟩ := XU.out
      have VQ : Hid (v.In u (fun k => k < w.heap.size)) := (VO.out.inn (w' := w) (Nat.le_refl _)).below SU.out.b
      have m1k : m1 ≤ k := HM.out
      go_upto_block 2 with fail
      go_cut [4] from 33 to 56 (fun tl wc => ∃ (t : As) (a2 : Option Addr) (m2 c2 : Nat) (l2 : List Vv), tl = .slice a2 m2 c2 ∧ Hid (St w wc A mb t a2 m2 c2 l2) ∧ Hid (LastI t (l2.map Vv.vt)) ∧ Hid (m2 ≤ k + 1))
      case first =>
        by_cases k1 : kind = 1
        · subst k1
          go_wp2_with fail
          refine (prepare_any SU.out.ac.ac v.r v.n v.s).mono ?_
          rintro e w4 ⟨a4, m4, c4, l4, rfl, hmv, _⟩
          have ST := hide (SU.out.move hmv)
          clear hmv
          go_wp2_with fail
          go_meet
          case rel => exact ⟨_, a1, m1, c1, ls, rfl, ST, last_prep HL.out _ _, Nat.le_succ_of_le HM.out⟩
        · have z1 : (kind == 1) = false := by simpa using k1
          by_cases k2 : kind = 2
          · subst k2
            go_wp2_with fail
            refine (forget_any SU.out.ac.ac v.s).mono ?_
            rintro e w4 ⟨rfl, hmv⟩
            have ST := hide (SU.out.move hmv)
            clear hmv
            go_wp2_with fail
            go_meet
            case rel => exact ⟨_, a1, m1, c1, ls, rfl, ST, last_forg HL.out _, Nat.le_succ_of_le HM.out⟩
          · have z2 : (kind == 2) = false := by simpa using k2
            go_wp2_with fail
            refine (vote_any kind v _).mono ?_
            rintro e w3 ⟨rfl, hb3⟩
            have S3 := hide (SU.out.below hb3)
            have X3 := hide (XU.out.below hb3)
            have V3 := hide (VQ.out.below hb3)
            clear hb3 x0 x1 x2 x3 x4
            go_wp2_with fail
            refine (accept_any S3.out.ac.ac S3.out.hP v V3.out.1).mono ?_
            rintro e w4 ⟨rfl, hmv⟩
            have S4 := hide (S3.out.move hmv)
            have X4 : Hid (V5 w4 N kind v) := X3.out.chg hmv.1 NA.out
            have V4' : Hid (v.In w4 (fun k => k < w.heap.size)) := V3.out.chg hmv.1 (fun k hk => .inr (S3.out.ac.ac.noB k hk))
            clear hmv
            by_cases he : accE s v.vt = 0
            · have LY := hide (last_yes HL.out he)
              rw [he]
              obtain ⟨x0, x1, x2, x3, x4⟩ := X4.out
              clear he
              go_wp2_with fail
              refine (vote_any kind v _).mono ?_
              rintro e w5 ⟨rfl, hb5⟩
              have S5 := hide (S4.out.below hb5)
              have V5' := hide (V4'.out.below hb5)
              obtain ⟨g, cq, w6, hr6, hs6⟩ := S5.out.push (by omega) V5'.out 26
              have S6 := hide hs6
              have L6 : Hid (LastI (accS s v.vt) ((ls ++ [v]).map Vv.vt)) := by show LastI _ _; rw [List.map_append]; exact LY.out
              clear hb5 hs6 x0 x1 x2 x3 x4
              go_wp2_with (at_builtin; refine wp_append_run _ rfl _ _ 26 rfl _ _ hr6 ?_)
              go_meet
              case rel => exact ⟨_, _, m1 + 1, cq, ls ++ [v], rfl, S6, L6, Nat.succ_le_succ HM.out⟩
            · have LN := hide (last_no HL.out he)
              obtain ⟨er, her⟩ : ∃ er, er = accE s v.vt := ⟨_, rfl⟩
              rw [← her]
              have f1 : (er == 0) = false := by rw [her]; simpa using he
              have f2 : (er = 0) = False := eq_false (by rw [her]; exact he)
              clear he her
              go_wp2_with fail
              go_meet
              case rel => exact ⟨_, a1, m1, c1, ls, rfl, S4, LN, Nat.le_succ_of_le HM.out⟩
      case rest =>
        clear x0 x1 x2 x3 x4 SU XU VQ HL HM m1k
        obtain ⟨t, a2, m2, c2, l2, rfl, SC, LC, MC⟩ := hcut
        have M2 : m2 ≤ 4000000000000 := by have := MC.out; omega
        go_wp2_with fail
        refine (votes_any SC.out.ac.ac).mono ?_
        rintro e w10 ⟨av, mv, cv, lv, rfl, hb10, ht10, hl10⟩
        have S10 := hide (SC.out.below hb10)
        have T10 := hide ht10.vl
        have LV := hide hl10
        have OKT := hide SC.out.ac.ac.ok
        have SHV := hide (told_short ht10 hl10 SC.out.ac.ac.ok)
        have M16 : mv ≤ 16 := by
          have h1 := ht10.vl.len
          have h2 := length_le SC.out.ac.ac.ok
          rw [← hl10] at h2
          simp at h2
          omega
        obtain ⟨Bv, eBv⟩ : ∃ Bv, Bv = wc.heap.size := ⟨_, rfl⟩
        rw [← eBv] at T10
        clear hb10 ht10 hl10 SC eBv
        have L2 := hide S10.out.vl.len
        go_wp2_with fail
        go_loopw [8, 9, 10] (fun i _ _ wq => ∃ q : Nat, q ≤ mv ∧ i = .int .i64 q ∧ Hid (Below w10.heap.size w10 wq)) (fun i _ _ _ => mv - (intOf i).toNat)
        case atStart => exact ⟨0, Nat.zero_le _, rfl, Below.refl _ _⟩
        case round =>
          obtain ⟨q, hq, rfl, HQ⟩ := hrel
          by_cases hql : q < mv
          · have j1 : (q : Int) < (mv : Int) := by omega
            have j2 : (0 : Int) ≤ (q : Int) := by omega
            have lk : q < lv.length := by have := T10.out.len; omega
            obtain ⟨p, hp⟩ : ∃ p, lv[q]? = some p := ⟨lv[q], by simp [lk]⟩
            have hpt : p.vt ∈ t.vs := by rw [← LV.out]; exact List.mem_map.2 ⟨p, List.mem_of_getElem? hp, rfl⟩
            obtain ⟨j0, hj0, hlast⟩ := LC.out.has _ hpt
            have J0 := hide hj0
            have jl : j0 < m2 := by have h1 := (List.getElem?_eq_some_iff.1 hj0).1; have h2 := L2.out; simp at h1; omega
            have IX : Hid (lastIx (l2.map Vv.vt) p.s m2 = (j0 : Int)) := lastIx_of hj0 hlast m2 jl (by have h2 := L2.out; simp; omega)
            have HP := hide hp
            have PMM := hide (SHV.out.2 p (List.mem_of_getElem? hp))
            clear hp hpt hj0 hlast lk
            go_wp2_with fail
            go_loopw [9, 10] (fun ta i wq => ∃ j : Nat, j ≤ m2 ∧ i = .int .i64 j ∧ ta = .int .i64 (lastIx (l2.map Vv.vt) p.s j) ∧ Hid (Below w10.heap.size w10 wq)) (fun _ i _ => m2 - (intOf i).toNat)
            case atStart => exact ⟨0, Nat.zero_le _, rfl, rfl, HQ⟩
            case round =>
              clear HQ
              obtain ⟨j, hj, rfl, rfl, HJ⟩ := hrel
              by_cases hjl : j < m2
              · have k1 : (j : Int) < (m2 : Int) := by omega
                have k2 : (0 : Int) ≤ (j : Int) := by omega
                have lj : j < l2.length := by have := L2.out; omega
                obtain ⟨v2, hv2⟩ : ∃ v2, l2[j]? = some v2 := ⟨l2[j], by simp [lj]⟩
                have TJ := hide (T10.out.below HJ.out)
                have VJ := hide (S10.out.vl.below HJ.out)
                have gd : ((l2.map Vv.vt).getD j ⟨0, 0, 0, []⟩).s = v2.s := by simp [List.getD, hv2]; rfl
                obtain ⟨g, rfl, _, _, d0, _, _, _⟩ := TJ.out.at HP.out
                obtain ⟨g2, rfl, _, _, f0, _, _, _⟩ := VJ.out.at hv2
                by_cases hs : v2.s = p.s
                · have NX : Hid (lastIx (l2.map Vv.vt) p.s (j + 1) = (j : Int)) := by show _ = _; unfold lastIx; rw [gd, if_pos hs]
                  have n1 : (v2.s == p.s) = true := by simp [hs]
                  have n2 : (v2.s = p.s) = True := eq_true hs
                  clear hs gd hv2 lj TJ VJ
                  generalize lastIx (l2.map Vv.vt) p.s j = xa at *
                  go_wp2_with fail
                  go_quiet (fail)
                  go_wp2_with fail
                  go_roundw
                  case rel => exact ⟨j + 1, by omega, by go_num, by rw [NX.out], below_drewN HJ.out _⟩
                  case measure => simp [intOf]; omega
                · have NX : Hid (lastIx (l2.map Vv.vt) p.s (j + 1) = lastIx (l2.map Vv.vt) p.s j) := by show _ = _; rw [show lastIx (l2.map Vv.vt) p.s (j + 1) = if ((l2.map Vv.vt).getD j ⟨0, 0, 0, []⟩).s = p.s then (j : Int) else lastIx (l2.map Vv.vt) p.s j from rfl, gd, if_neg hs]
                  have n1 : (v2.s == p.s) = false := by simpa using hs
                  have n2 : (v2.s = p.s) = False := eq_false hs
                  clear hs gd hv2 lj TJ VJ
                  go_wp2_with fail
                  go_quiet (fail)
                  go_wp2_with fail
                  go_roundw
                  case rel => exact ⟨j + 1, by omega, by go_num, by rw [NX.out], below_drewN HJ.out _⟩
                  case measure => simp [intOf]; omega
              · obtain rfl : m2 = j := by omega
                rw [IX.out]
                clear hjl hj
                obtain ⟨w11, e11⟩ : ∃ w11, w11 = wr := ⟨_, rfl⟩
                rw [← e11] at HJ
                have E11 := hide e11
                go_upto_region 26 with fail
                rw [← E11.out]
                clear e11 E11
                obtain ⟨v2, hv2, hvt⟩ : ∃ v2, l2[j0]? = some v2 ∧ v2.vt = p.vt := by
                  have h1 := J0.out
                  rw [List.getElem?_map] at h1
                  cases hx : l2[j0]? with
                  | none => rw [hx] at h1; simp at h1
                  | some v2 => rw [hx] at h1; exact ⟨v2, rfl, by simpa using h1⟩
                have TJ := hide (T10.out.below HJ.out)
                have VJ := hide (S10.out.vl.below HJ.out)
                have PI := hide (TJ.out.ins p (List.mem_of_getElem? HP.out))
                have PJ := hide (VJ.out.ins v2 (List.mem_of_getElem? hv2))
                have PM : Hid (v2.m ≤ 140737488355328) := by
                  have h2 := PI.out.1.length
                  have h3 := PJ.out.1.length
                  have h4 : v2.b = p.b := congrArg Vt.b hvt
                  have h5 := PMM.out
                  show _ ≤ _
                  rw [h4] at h3
                  omega
                have CV : Hid (∀ y : World, Below w11.heap.size w11 y → Calls Try.prog 11 #[.agg #[.int .i64 v2.s, .int .i64 v2.r, .int .i64 v2.n, .slice v2.a v2.m v2.cp], .agg #[.int .i64 p.s, .int .i64 p.r, .int .i64 p.n, .slice p.a p.m p.cp]] y fun e w' => e = .returned (.bool true) ∧ Below y.heap.size y w') := fun y hy => vote_same (PJ.out.1.below hy) (PI.out.1.below hy) PM.out hvt
                obtain ⟨g, rfl, _, _, d0, d1, d2, d3⟩ := TJ.out.at HP.out
                obtain ⟨g2, rfl, _, _, f0, f1, f2, f3⟩ := VJ.out.at hv2
                have q1 : decide ((j0 : Int) < 0) = false := decide_eq_false (by omega)
                have q2 : ((j0 : Int) < 0) = False := eq_false (by omega)
                have q3 : (j0 : Int) < (m2 : Int) := by omega
                have q4 : (0 : Int) ≤ (j0 : Int) := by omega
                clear hv2 hvt TJ VJ
                refine wp_region_cells w11 [(⟨g2, j0 * 4, none⟩, .int .i64 v2.s), (⟨g2, j0 * 4 + 1, none⟩, .int .i64 v2.r), (⟨g2, j0 * 4 + 2, none⟩, .int .i64 v2.n), (⟨g2, j0 * 4 + 3, none⟩, .slice v2.a v2.m v2.cp), (⟨g, q * 4, none⟩, .int .i64 p.s), (⟨g, q * 4 + 1, none⟩, .int .i64 p.r), (⟨g, q * 4 + 2, none⟩, .int .i64 p.n), (⟨g, q * 4 + 3, none⟩, .slice p.a p.m p.cp)] (by kernel_rfl) (by kernel_rfl) (Below.refl _ _) (by simp [AllCells, d0, d1, d2, d3, f0, f1, f2, f3]) ?_
                intro hne qq
                simp only [AllCells, and_true] at qq
                clear d0 d1 d2 d3 f0 f1 f2 f3
                repeat (go_big_quiet_step (first | (go_at_call 11; exact Held.call _ (CV.out _ (Held.below _)))))
                refine wpQuiet_nil ?_
                rintro _ ⟨y, rfl⟩
                have BQ : Hid (Below w10.heap.size w10 y.x) := below_step HJ.out y.below
                clear qq hne CV q1 q2 q3 q4
                go_wp2_with fail
                go_roundw
                case rel => exact ⟨q + 1, by omega, by go_num, BQ⟩
                case measure => simp [intOf]; omega
          · obtain rfl : mv = q := by omega
            clear hql hq
            obtain ⟨w12, e12⟩ : ∃ w12, w12 = wr := ⟨_, rfl⟩
            rw [← e12] at HQ
            have E12 := hide e12
            go_upto_region 28 with fail
            rw [← E12.out]
            clear e12 E12
            have CF : Hid (∀ y : World, Below w10.heap.size w10 y → Calls Try.prog 12 #[.pointer (some ⟨A, 0, none⟩)] y fun e w' => e = .returned (.int .i64 t.first) ∧ Below y.heap.size y w') := fun y hy => (first_any (S10.out.ac.below hy).ac).mono (fun e w' ⟨h1, h2⟩ => ⟨h1, by rw [h2]; exact Below.refl _ _⟩)
            go_wp2_with fail
            go_loopw [11, 12, 13] (fun i _ _ wq => ∃ q : Nat, q ≤ m2 ∧ i = .int .i64 q ∧ Hid (Below w10.heap.size w10 wq)) (fun i _ _ _ => m2 - (intOf i).toNat)
            case atStart => exact ⟨0, Nat.zero_le _, rfl, HQ⟩
            case round =>
              clear HQ
              obtain ⟨q, hq, rfl, HQ⟩ := hrel
              by_cases hql : q < m2
              · have j1 : (q : Int) < (m2 : Int) := by omega
                have j2 : (0 : Int) ≤ (q : Int) := by omega
                have lk : q < l2.length := by have := L2.out; omega
                obtain ⟨b, hb⟩ : ∃ b, l2[q]? = some b := ⟨l2[q], by simp [lk]⟩
                have VQ := hide (S10.out.vl.below HQ.out)
                have HBK := hide hb
                have HEV : Hid ((decide (b.s < t.first) || lv.any (fun v => decide (v.s = b.s))) = true) := by
                  have hbt : b.vt ∈ l2.map Vv.vt := List.mem_map.2 ⟨b, List.mem_of_getElem? hb, rfl⟩
                  show _ = _
                  rcases LC.out.all _ hbt with h | ⟨v, hv, hm⟩
                  · rw [decide_eq_true (show b.s < t.first from h), Bool.true_or]
                  · rw [← LV.out] at hv
                    obtain ⟨v', hv', rfl⟩ := List.mem_map.1 hv
                    rw [List.any_eq_true.2 ⟨v', hv', decide_eq_true hm⟩, Bool.or_true]
                obtain ⟨gb, rfl, _, hg, d0, d1, d2, d3⟩ := VQ.out.at hb
                clear hb lk VQ hg d3
                go_wp2_with fail
                refine wp_region_cells w10 [(⟨gb, q * 4, none⟩, .int .i64 b.s)] (by kernel_rfl) (by kernel_rfl) HQ.out (by simp [AllCells, d0]) ?_
                intro hne qq
                simp only [AllCells, and_true] at qq
                clear d0 d1 d2
                repeat (go_big_quiet_step (first | (go_at_call 12; exact Held.call _ (CF.out _ (Held.below _)))))
                refine wpQuiet_nil ?_
                rintro _ ⟨y, rfl⟩
                obtain ⟨w13, e13⟩ : ∃ w13, w13 = y.x := ⟨_, rfl⟩
                have B13 : Hid (Below w10.heap.size w10 w13) := by rw [e13]; exact y.below
                rw [← e13]
                clear e13 qq hne HQ
                go_wp2_with fail
                go_loopw [12, 13] (fun tv i wq => ∃ (j : Nat) (bb : Bool), j ≤ mv ∧ i = .int .i64 j ∧ tv = .bool bb ∧ Hid (bb = (decide (b.s < t.first) || (lv.take j).any (fun v => decide (v.s = b.s)))) ∧ Hid (Below w10.heap.size w10 wq)) (fun _ i _ => mv - (intOf i).toNat)
                case atStart => exact ⟨0, _, Nat.zero_le _, rfl, rfl, by show _ = _; simp, B13⟩
                case round =>
                  clear B13
                  obtain ⟨j, bb, hj, rfl, rfl, HBB, HJ⟩ := hrel
                  by_cases hjl : j < mv
                  · have k1 : (j : Int) < (mv : Int) := by omega
                    have k2 : (0 : Int) ≤ (j : Int) := by omega
                    have lj : j < lv.length := by have := T10.out.len; omega
                    obtain ⟨p, hp⟩ : ∃ p, lv[j]? = some p := ⟨lv[j], by simp [lj]⟩
                    have TJ := hide (T10.out.below HJ.out)
                    have VJ := hide (S10.out.vl.below HJ.out)
                    have NXT : Hid ((decide (b.s < t.first) || (lv.take (j + 1)).any (fun v => decide (v.s = b.s))) = (bb || decide (p.s = b.s))) := by
                      show _ = _
                      rw [HBB.out, List.take_succ_eq_append_getElem lj, (List.getElem?_eq_some_iff.1 hp).2, List.any_append, ← Bool.or_assoc]
                      simp
                    obtain ⟨g, rfl, _, _, d0, d1, d2, _⟩ := TJ.out.at hp
                    obtain ⟨g', e', _, _, f0, f1, f2, _⟩ := VJ.out.at HBK.out
                    obtain rfl : gb = g' := by simpa using e'
                    clear hp lj TJ VJ e'
                    cases bb
                    · by_cases hsl : p.s = b.s
                      · have n1 : (p.s == b.s) = true := by simp [hsl]
                        have n2 : (p.s = b.s) = True := eq_true hsl
                        have n3 : decide (p.s = b.s) = true := decide_eq_true hsl
                        rw [n3] at NXT
                        clear hsl
                        go_wp2_with fail
                        refine wp_region_cells w10 [(⟨g, j * 4, none⟩, .int .i64 p.s), (⟨gb, q * 4, none⟩, .int .i64 b.s)] (by kernel_rfl) (by kernel_rfl) HJ.out (by simp [AllCells, d0, f0]) ?_
                        intro hne qq
                        simp only [AllCells, and_true] at qq
                        clear d0 d1 d2 f0 f1 f2
                        repeat (go_big_quiet_step (fail))
                        refine wpQuiet_nil ?_
                        rintro _ ⟨y, rfl⟩
                        have BQ : Hid (Below w10.heap.size w10 y.x) := y.below
                        clear qq hne n1 n2 n3
                        go_wp2_with fail
                        go_roundw
                        case rel => exact ⟨j + 1, true, by omega, by go_num, rfl, by show _ = _; rw [NXT.out]; rfl, BQ⟩
                        case measure => simp [intOf]; omega
                      · have n1 : (p.s == b.s) = false := by simpa using hsl
                        have n2 : (p.s = b.s) = False := eq_false hsl
                        have n3 : decide (p.s = b.s) = false := decide_eq_false hsl
                        rw [n3] at NXT
                        clear hsl
                        go_wp2_with fail
                        refine wp_region_cells w10 [(⟨g, j * 4, none⟩, .int .i64 p.s), (⟨gb, q * 4, none⟩, .int .i64 b.s)] (by kernel_rfl) (by kernel_rfl) HJ.out (by simp [AllCells, d0, f0]) ?_
                        intro hne qq
                        simp only [AllCells, and_true] at qq
                        clear d0 d1 d2 f0 f1 f2
                        repeat (go_big_quiet_step (fail))
                        refine wpQuiet_nil ?_
                        rintro _ ⟨y, rfl⟩
                        have BQ : Hid (Below w10.heap.size w10 y.x) := y.below
                        clear qq hne n1 n2 n3
                        go_wp2_with fail
                        go_roundw
                        case rel => exact ⟨j + 1, false, by omega, by go_num, rfl, by show _ = _; rw [NXT.out]; rfl, BQ⟩
                        case measure => simp [intOf]; omega
                    · go_wp2_with fail
                      refine wp_region_cells w10 [] (by kernel_rfl) (by kernel_rfl) HJ.out trivial ?_
                      intro hne qq
                      clear d0 d1 d2 f0 f1 f2
                      repeat (go_big_quiet_step (fail))
                      refine wpQuiet_nil ?_
                      rintro _ ⟨y, rfl⟩
                      have BQ : Hid (Below w10.heap.size w10 y.x) := y.below
                      clear qq hne
                      go_wp2_with fail
                      go_roundw
                      case rel => exact ⟨j + 1, true, by omega, by go_num, rfl, by show _ = _; rw [NXT.out]; rfl, BQ⟩
                      case measure => simp [intOf]; omega
                  · obtain rfl : mv = j := by omega
                    obtain rfl : bb = true := by
                      rw [HBB.out, List.take_of_length_le (by have := T10.out.len; omega)]
                      exact HEV.out
                    clear hjl hj HBB
                    go_wp2_with fail
                    go_roundw
                    case rel => exact ⟨q + 1, by omega, by go_num, HJ⟩
                    case measure => simp [intOf]; omega
              · obtain rfl : m2 = q := by omega
                clear hql hq
                have SF := hide (S10.out.below HQ.out)
                go_wp2_with fail
                go_roundw
                case rel => exact ⟨k + 1, t, a2, m2, c2, l2, by omega, by go_num, rfl, SF, LC, MC⟩
                case measure => simp [intOf]; omega
    · obtain rfl : k = len := by omega
      clear hlt hk
      go_wp2_with fail
      go_ret
      exact ⟨rfl, HS.out.b⟩

set_option maxRecDepth 100000 in
theorem lifted (os : Os) (started : os.Started) (H : Type) (enc : TypeId × Value → H) :
    ReturnsInHanded {} Try.checked os 3 .any (Rows.acceptLastSpec.pre6 enc Try.prog Try.f3 Rows.acceptLastRow.domain false) (Rows.acceptLastSpec.post enc Try.prog Try.f3 false true false false) := by
  refine returnsInHanded_of_change_sized (C := Try.checked) own started (by kernel_rfl) Try.func3
    (ChangeSpec.witness6 (enc := enc) (C := Try.checked) false ⟨#[], #[.slice none 0 0], []⟩ 8 (by kernel_rfl) (by kernel_rfl) (by kernel_rfl) (by kernel_rfl)) ?_
  intro W base args ds gs before hval0 hW hcnd hsz0 _
  have hsz : (DataW.weightsEach Try.prog (Try.f3.params.toList ++ Rows.acceptLastSpec.plain.varTypes Try.prog) (ds ++ gs)).all (· ≤ reachBytes) = true := hsz0
  have hval : ∀ (j : Nat) t v, Try.f3.params[j]? = some t → args[j]? = some v → Value.okWide Try.prog W .any base t v := hval0
  have hW' := hW
  obtain ⟨p, q, hA0, hV, rfl, hfz, hnd⟩ := hW
  have hA : DataW.TrodAll enc Try.prog W 0 (fun _ => true) true Try.f3.params.toList args.toList ds p := hA0
  rw [Try.params3] at hA hval hsz
  obtain ⟨v0, vs0, d0, ds0, p0, q0, hargs, rfl, rfl, h0, r0⟩ := trodAll_cons hA
  obtain ⟨rfl, rfl, rfl⟩ := trodAll_nil r0
  obtain rfl : args = #[v0] := by cases args; simp_all
  obtain ⟨rfl, rfl⟩ := trodVars_none hV
  have lt0 : ∀ x ∈ p0, x.block < W.heap.size := by obtain ⟨m, hm⟩ := h0; exact DataW.trod_lt m _ _ _ hm
  obtain ⟨a, len, cap, os, rfl, ho⟩ := open_ops_held (hval 0 22 v0 rfl rfl) h0 (fun n hn => by have h := List.all_eq_true.1 hsz n (DataW.weights_mem_each (j := 0) rfl rfl n hn); simpa using h)
  clear hA0 hval0
  refine (walk ho).mono fun e W' ⟨he, bel⟩ => ?_
  subst he
  exact ⟨_, rfl, _, _, _, [], _, [], hW', trodAll_mk1 (shut_bool Try.underlying4 _), (trodAll_cons_mk (Below.trod laidOut (by kernel_rfl) (of_decide_eq_true (by kernel_rfl)) h0 bel lt0) trodAll_mk0), rfl, bel.frame _, fun h => by cases h⟩

theorem over : Rows.acceptLastRow.holds Try.pinned (OpenSpec.ofChange Rows.acceptLastSpec) :=
  OpenClaim.holds_of_wide 3 Try.f3 rfl rfl rfl rfl rfl rfl rfl ⟨rfl, rfl, rfl, rfl, rfl⟩ rfl rfl rfl rfl rfl (by kernel_rfl) Try.func3 (by kernel_rfl)
    (of_decide_eq_true (by kernel_rfl)) (by unfold Func.isWrapper; first | (rw [if_pos (by decide +kernel)]; kernel_rfl) | (rw [if_neg (by decide +kernel)]; exact ⟨rfl, rfl⟩))
    (fun os started H enc _ => lifted os started H enc)

theorem proved : Rows.AcceptLastSaid := over
#print axioms proved
end AcceptLast
theorem acceptLast_holds : Rows.AcceptLastSaid := AcceptLast.proved
end Go.Proofs.Ytdnniokpkamjjab
