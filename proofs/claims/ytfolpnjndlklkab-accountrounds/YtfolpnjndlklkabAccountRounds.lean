/- AccountRounds: a report counts in its round alone, and once; when all have counted, Base is the total; no condition. -/
import Derived.Deep.Cut
import Derived.Deep.CutRange
import Derived.Deep.QuietTactic
import Derived.Test.YtfolpnjndlklkabAcoWide
import Derived.Laws.Tables
namespace Go.Proofs.Ytfolpnjndlklkab
namespace AccountRounds
open Go.ChangeShapes Go.WideShapes Go.ChangeAt Go.RowKit Ao
set_option linter.unusedVariables false

theorem freeze_start {A : Ac} {r : Int} (he : freezeE A r = 0) : Right (freezeA A r) ∧ (freezeA A r).hs = A.hs ∧ (freezeA A r).base = A.base ∧ (freezeA A r).lk = A.lk ∧ ¬ (freezeA A r).rd = 0 := by
  obtain ⟨hr, hn⟩ := freeze_ok he
  refine ⟨right_freeze he, ?_⟩
  unfold freezeA
  rw [if_pos he]
  by_cases h0 : A.rd = 0
  · rw [if_pos h0]
    refine ⟨rfl, rfl, rfl, ?_⟩
    show ¬ r = 0
    simp [numB] at hn
    omega
  · rw [if_neg h0]
    exact ⟨rfl, rfl, rfl, h0⟩
theorem report_wrong {X : Ac} {x : Hd} {t : List Hd} {r net : Int} (hr : Right X) (hh : X.hs = x :: t) (hne : ¬ X.rd = r) : reportE X x.nd x.ls r net = 152 := by
  unfold reportE
  rw [if_pos ((right_iff X).2 hr), hh, find_head (b := 0)]
  simp only
  rw [if_pos trivial, if_pos (Or.inr hne)]
/-- what is known of the frozen account behind k reports -/
structure Rd (A X : Ac) (R : Int) (k : Nat) : Prop where
  right : Right X
  w : AcW X
  hs : X.hs = A.hs.drop k
  rd : X.rd = R
  lk : X.lk = A.lk
theorem Rd.next {A X : Ac} {R : Int} {k : Nat} {x : Hd} {net : Int} (h : Rd A X R k) (hx : A.hs[k]? = some x) (hR : ¬ R = 0) (h1 : net ≤ x.up) (h2 : 0 ≤ x.dn + net) :
    X.hs = x :: A.hs.drop (k + 1) ∧ reportE X x.nd x.ls X.rd net = 0 ∧ reportA X x.nd x.ls X.rd net = { X with base := X.base + net, hs := A.hs.drop (k + 1) } ∧ reportE { X with base := X.base + net, hs := A.hs.drop (k + 1) } x.nd x.ls X.rd net = 151 ∧ Rd A { X with base := X.base + net, hs := A.hs.drop (k + 1) } R (k + 1) := by
  have hk : k < A.hs.length := (List.getElem?_eq_some_iff.1 hx).1
  have e : X.hs = x :: A.hs.drop (k + 1) := by
    rw [h.hs, List.drop_eq_getElem_cons hk]
    congr 1
    rw [List.getElem?_eq_getElem hk] at hx
    exact Option.some.inj hx
  obtain ⟨e1, e2, e3, e4⟩ := report_head h.right e (by rw [h.rd]; exact hR) h1 h2
  rw [e3] at e4
  have hr2 := right_report e2
  have hw2 := acw_report (node := x.nd) (lease := x.ls) (r := X.rd) (net := net) h.w
  rw [e3] at hr2 hw2
  exact ⟨e, e2, e3, e4, ⟨hr2, hw2, rfl, h.rd, h.lk⟩⟩
set_option maxRecDepth 100000 in
set_option maxHeartbeats 8000000 in
theorem walk {w : World} {a an : Option Addr} {n c nn cn : Nat} {A : Ac} {r : Int} {nets : List Int} (h : Hs w a n A.hs) (hw : AcW A) (hr : I64 r) (hn : Rl ienc 1 8 w an nn nets) (hni : ∀ x ∈ nets, I64 x) :
    Calls Try.prog 3 #[acval A a n c, .int .i64 r, .slice an nn cn] w fun e w' => e = .returned (.bool true) ∧ Below w.heap.size w w' := by
  have H := hide h
  have HW := hide hw
  have N := hide hn
  have NI := hide hni
  have AWA : Hid (∀ g, w.heap.size ≤ g → Aw g a n) := fun g hg => aw_rl h hg
  have AWN : Hid (∀ g, w.heap.size ≤ g → Aw g an nn) := fun g hg => aw_rl hn hg
  have hlen := h.len
  have hnlen := hn.len
  have hnroom := hn.room
  obtain ⟨B, eB⟩ : ∃ B, B = freezeA A r := ⟨_, rfl⟩
  have EB := hide eB.symm
  by_cases he : freezeE A r = 0
  · obtain ⟨b1, b2, b3, b4, b5⟩ := freeze_start he
    have hwB : AcW (freezeA A r) := acw_freeze hw hr
    rw [← eB] at b1 b2 b3 b4 b5 hwB
    have hlen5 : n ≤ 5 := by have := hs_length b1.hs; rw [b2] at this; omega
    obtain ⟨R, eR⟩ : ∃ R, R = B.rd := ⟨_, rfl⟩
    have R0 : Hid (Rd A B R 0) := ⟨b1, hwB, by rw [b2]; rfl, eR.symm, b4⟩
    have RN : Hid (¬ R = 0) := by show ¬ R = 0; rw [eR]; exact b5
    have EE := hide he
    have BB := hide b3
    have HL5 := hide hlen5
    have HLN := hide hlen
    have HNN := hide hnlen
    have HNR := hide hnroom
    clear h hw hr hn hni eB he b1 b2 b3 b4 b5 hwB eR hlen5 hlen hnlen hnroom
    unfold acval
    go_enter Try.func3, Try.ntmps3
    go_wp2_with fail
    obtain ⟨w1, ew, hb1, ha1⟩ := one_new w A a n c
    rw [← ew]
    have HB1 := hide hb1
    have HA := hide ha1
    replace H := hide (H.out.below hb1)
    replace N := hide (N.out.below hb1)
    clear hb1 ha1 ew
    have HL : Hid (w.heap.size < w1.heap.size) := HA.out.lt
    refine (awake_any _).mono ?_
    rintro e w2 ⟨rfl, hb⟩
    have HB2 : Hid (Below w.heap.size w w2) := HB1.out.trans (hb.mono HB1.out.size)
    replace H := hide (H.out.below hb)
    replace N := hide (N.out.below hb)
    replace HA := hide (HA.out.below hb)
    replace HL := hide (Nat.lt_of_lt_of_le HL.out hb.size)
    clear hb HB1
    obtain ⟨z0, z1, z2, z3, z4, z5, z6, z7, z8, z9⟩ := HA.out.at_
    have zl : w.heap.size < w2.heap.size := HA.out.lt
    go_wp2_with fail
    clear z0 z1 z2 z3 z4 z5 z6 z7 z8 z9 zl
    refine (freeze_x H.out HW.out EB.out EE.out).mono ?_
    rintro e w3 ⟨a2, n2, c2, rfl, hh, hb, hf, hc⟩
    have HB3 : Hid (Below w.heap.size w w3) := HB2.out.trans (hb.mono HB2.out.size)
    replace H := hide (H.out.below hb)
    replace N := hide (N.out.below hb)
    replace HA := hide (HA.out.below hb)
    replace HL := hide (Nat.lt_of_lt_of_le HL.out hb.size)
    have HH := hide hh
    have HC := hide hc
    clear hb HB2 hh hc
    have HFR := hide hf
    clear hf
    have HL1 := HL
    obtain ⟨z0, z1, z2, z3, z4, z5, z6, z7, z8, z9⟩ := HA.out.at_
    have zl : w.heap.size < w3.heap.size := HA.out.lt
    go_wp2_with fail
    clear z0 z1 z2 z3 z4 z5 z6 z7 z8 z9 zl
    obtain ⟨w4, ew, hbu, hau⟩ := one_new w3 B a2 n2 c2
    rw [← ew]
    have HB4 : Hid (Below w.heap.size w w4) := HB3.out.trans (hbu.mono HB3.out.size)
    replace H := hide (H.out.below hbu)
    replace N := hide (N.out.below hbu)
    replace HH := hide (HH.out.below hbu)
    replace HA := hide (HA.out.below hbu)
    obtain ⟨q1, eq⟩ : ∃ q1, q1 = w3.heap.size := ⟨_, rfl⟩
    have HXN : Hid (w.heap.size < q1) := by show w.heap.size < q1; rw [eq]; exact HL.out
    replace HL := hide (Nat.lt_of_lt_of_le HL.out hbu.size)
    rw [← eq] at hau
    try rw [← eq]
    have HX := hide hau
    have HXS : w4.heap.size = q1 + 1 := by rw [ew, eq]; simp
    clear ew hbu hau eq HB3
    have HQ1 : Hid (q1 < w4.heap.size) := HX.out.lt
    have HLX : Hid (w.heap.size < w4.heap.size) := HL.out
    have HO : Hid ((w4.alloc (.cells #[.int .i64 A.base] 3)).cell? ⟨w4.heap.size, 0, none⟩ = some (.int .i64 A.base)) := by show _ = _; rw [cell_of_row _ _ _ _ _ _ (heap_alloc_new w4 _)]; rfl
    have OF := hide (of_one HO.out HW.out.base)
    have hbo : Below w4.heap.size w4 (w4.alloc (.cells #[.int .i64 A.base] 3)) := Below.alloc (Below.refl _ _) (Nat.le_refl _) _
    obtain ⟨u0, eu0⟩ : ∃ u, u = w4.alloc (.cells #[.int .i64 A.base] 3) := ⟨_, rfl⟩
    have hu0 : w4.heap.size < u0.heap.size := by rw [eu0]; simp
    rw [← eu0] at OF hbo
    have EU0 := hide eu0
    rw [HXS] at OF
    clear eu0 HO HXS
    obtain ⟨z0, z1, z2, z3, z4, z5, z6, z7, z8, z9⟩ := HA.out.at_
    have zl : w.heap.size < w4.heap.size := HA.out.lt
    go_wp2_with fail
    clear z0 z1 z2 z3 z4 z5 z6 z7 z8 z9 zl
    rw [← EU0.out]
    refine OF.out.mono ?_
    rintro e u1 ⟨rfl, hb1⟩
    clear OF EU0 hu0
    obtain ⟨u2, eu2, hb2, hw2⟩ := wb_new u1 A.base
    have hB : Below w4.heap.size w4 u2 := hbo.trans ((hb1.trans (hb2.mono hb1.size)).mono hbo.size)
    have HB : Hid (Below w.heap.size w u2) := HB4.out.trans (hB.mono HB4.out.size)
    replace H := hide (H.out.below hB)
    replace N := hide (N.out.below hB)
    replace HA := hide (HA.out.below hB)
    replace HX := hide (HX.out.below hB)
    replace HH := hide (HH.out.below hB)
    replace HL := hide (Nat.lt_of_lt_of_le HL.out hB.size)
    obtain ⟨q2, eq2⟩ : ∃ q, q = u1.heap.size := ⟨_, rfl⟩
    have HQ2 : Hid (w.heap.size < q2 ∧ ¬ q2 = q1) := by
      have l1 := HXN.out
      have l3 : w4.heap.size ≤ u1.heap.size := Nat.le_trans hbo.size hb1.size
      exact ⟨by have := HLX.out; omega, by have := HQ1.out; omega⟩
    rw [← eq2] at hw2
    have HWD : Hid (Wb u2 q2 B.base) := by show Wb u2 q2 B.base; rw [BB.out]; exact hw2
    go_upto_region 8 with fail
    rw [← eu2]
    try rw [← eq2]
    clear hbo hb1 hb2 hw2 hB eu2 eq2 HB4
    go_loopw [10, 11, 12, 13, 14, 15, 16, 17, 18] (fun iv _ _ _ _ _ _ _ _ wr => ∃ (k : Nat) (X : Ac) (ax : Option Addr) (nx cx : Nat), k ≤ n ∧ iv = .int .i64 k ∧ Hid (Rd A X R k) ∧ Hid (Below w.heap.size w wr) ∧ Hid (Ab wr w.heap.size A a n c) ∧ Hid (Hs wr a n A.hs) ∧ Hid (Rl ienc 1 8 wr an nn nets) ∧ Hid (Ab wr q1 X ax nx cx) ∧ Hid (Hs wr ax nx X.hs) ∧ Hid (Cp ax nx cx) ∧ Hid (Wb wr q2 X.base)) (fun iv _ _ _ _ _ _ _ _ _ => n - (intOf iv).toNat)
    case atStart => exact ⟨0, B, a2, n2, c2, Nat.zero_le _, rfl, R0.out, HB.out, HA.out, H.out, N.out, HX.out, HH.out, HC.out, HWD.out⟩
    case round =>
      clear H N HA HX HH HC HWD HB R0 EB EE BB HFR
      obtain ⟨k, X, ax, nx, cx, hk, rfl, HR, HB, HA, H, N, HX, HXS, HC, HWD⟩ := hrel
      have HXN := HXN
      by_cases hlt : k < n
      · obtain ⟨hb_, off, x, rfl, hx, hbl, M⟩ := hs_at H.out hlt
        have HX0 := hide hx
        have XW : Hid (HdW x) := HW.out.hs x (List.mem_of_getElem? hx)
        have XP : Hid (x.nd ≤ 5 ∧ 1 ≤ x.ls ∧ 0 ≤ x.up ∧ 0 ≤ x.dn) := by
          have e := HR.out.hs
          have hk2 : k < A.hs.length := (List.getElem?_eq_some_iff.1 hx).1
          exact hd_facts (hs_mem HR.out.right.hs x (by rw [e, List.drop_eq_getElem_cons hk2]; rw [List.getElem?_eq_getElem hk2] at hx; rw [Option.some.inj hx]; exact List.mem_cons_self ..)).2
        have i1 : (k : Int) < (n : Int) := by omega
        have i2 : (0 : Int) ≤ (k : Int) := by omega
        obtain ⟨m0, m1, m2, m3⟩ := M
        clear hx hbl
        obtain ⟨z0, z1, z2, z3, z4, z5, z6, z7, z8, z9⟩ := HA.out.at_
        have zl := HA.out.lt
        go_upto_region 12 with fail
        obtain ⟨v1, ev1, hbv, hkv⟩ := hk_new wr x
        rw [← ev1]
        obtain ⟨q3, eq3⟩ : ∃ q, q = wr.heap.size := ⟨_, rfl⟩
        rw [← eq3] at hkv
        try rw [← eq3]
        replace HB : Hid (Below w.heap.size w v1) := HB.out.trans (hbv.mono HB.out.size)
        have HQ3 : Hid (q1 < q3 ∧ q2 < q3 ∧ w.heap.size < q3) := by
          have g1 := HX.out.lt
          have g2 := HWD.out.lt
          have g3 := HA.out.lt
          exact ⟨by omega, by omega, by omega⟩
        replace HA := hide (HA.out.below hbv)
        replace H := hide (H.out.below hbv)
        replace N := hide (N.out.below hbv)
        replace HX := hide (HX.out.below hbv)
        replace HXS := hide (HXS.out.below hbv)
        replace HWD := hide (HWD.out.below hbv)
        have HKX := hide hkv
        clear ev1 eq3 hbv hkv z0 z1 z2 z3 z4 z5 z6 z7 z8 z9 zl m0 m1 m2 m3
        go_upto_if 55 with fail
        go_cut [12] from 55 to 66 (fun v wc => ∃ net : Int, v = .int .i64 net ∧ Hid (I64 net ∧ net ≤ x.up ∧ 0 ≤ x.dn + net) ∧ Hid (Below v1.heap.size v1 wc))
        case first =>
          have xw := XW.out
          have xp := XP.out
          obtain ⟨g0, g1, g2, g3⟩ := HKX.out.at_
          have gl := HKX.out.lt
          by_cases hnk : k < nn
          · obtain ⟨nb, noff, p, rfl, hp, _, hcell⟩ := N.out.at_ hnk
            have pw : I64 p := NI.out p (List.mem_of_getElem? hp)
            have c0 : v1.cell? ⟨nb, noff + k, none⟩ = some (.int .i64 p) := by have := hcell 0 _ rfl; simpa using this
            have j1 : (k : Int) < (nn : Int) := by omega
            have kn : IntKind.i64.wrap (-x.dn) = -x.dn := by have := xw.dn; rw [IntKind.wrap_i64]; unfold I64 at this; omega
            clear hp hcell
            have F : Hid (I64 (max (-x.dn) (min p x.up)) ∧ max (-x.dn) (min p x.up) ≤ x.up ∧ 0 ≤ x.dn + max (-x.dn) (min p x.up)) := by
              show _ ∧ _ ∧ _
              have := xw.up
              have := xw.dn
              unfold I64 at *
              omega
            clear xw xp pw
            go_wp2_with fail
            go_quiet (fail)
            go_wp2_with fail
            go_meet
            case rel =>
              refine ⟨max (-x.dn) (min p x.up), ?_, F.out, below_drewN (Below.refl _ _) _⟩
              first | rfl | trivial | simp
          · have j1 : ¬ (k : Int) < (nn : Int) := by omega
            have F : Hid (I64 0 ∧ 0 ≤ x.up ∧ 0 ≤ x.dn + 0) := ⟨⟨by omega, by omega⟩, xp.2.2.1, by omega⟩
            go_wp2_with fail
            go_meet
            case rel =>
              refine ⟨0, ?_, F.out, Below.refl _ _⟩
              first | rfl | trivial | simp
        case rest =>
          obtain ⟨net, rfl, HNET, BV⟩ := hcut
          rename_i wc
          have hbc := BV.out
          replace HB : Hid (Below w.heap.size w wc) := HB.out.trans (hbc.mono HB.out.size)
          replace HA := hide (HA.out.below hbc)
          replace H := hide (H.out.below hbc)
          replace N := hide (N.out.below hbc)
          replace HX := hide (HX.out.below hbc)
          replace HXS := hide (HXS.out.below hbc)
          replace HWD := hide (HWD.out.below hbc)
          replace HKX := hide (HKX.out.below hbc)
          clear hbc BV
          obtain ⟨e0, e1, e2, e3, HR2⟩ := HR.out.next HX0.out RN.out HNET.out.2.1 HNET.out.2.2
          have E0 := hide e0
          have E1 := hide e1
          have E2 := hide e2
          have E3 := hide e3
          have HR3 := hide HR2
          obtain ⟨r1, er1⟩ : ∃ r, r = IntKind.i64.wrap (X.rd + 1) := ⟨_, rfl⟩
          have R1 := hide er1.symm
          have hr1 : ¬ X.rd = r1 := by
            have := HR.out.w.rd
            rw [er1, IntKind.wrap_i64]; unfold I64 at this; omega
          have e4 := report_wrong (net := net) HR.out.right e0 hr1
          have E4 := hide e4
          obtain ⟨F, eF⟩ : ∃ F, F = reportA X x.nd x.ls r1 net := ⟨_, rfl⟩
          have EF := hide eF.symm
          obtain ⟨Z, eZ⟩ : ∃ F, F = reportA { X with base := X.base + net, hs := A.hs.drop (k + 1) } x.nd x.ls X.rd net := ⟨_, rfl⟩
          have EZ := hide eZ.symm
          have HRW := hide HR.out.w
          clear e0 e1 e2 e3 e4 HR2 er1 hr1 eF eZ
          obtain ⟨y0, y1, y2, y3, y4, y5, y6, y7, y8, y9⟩ := HX.out.at_
          have yl : q1 < wc.heap.size := HX.out.lt
          obtain ⟨g0, g1, g2, g3⟩ := HKX.out.at_
          have gl : q3 < wc.heap.size := HKX.out.lt
          have r1f := R1.out
          go_wp2_with fail
          clear r1f
          clear y0 y1 y2 y3 y4 y5 y6 y7 y8 y9 yl g0 g1 g2 g3 gl
          refine (report_x HXS.out HRW.out HC.out EF.out E4.out).mono ?_
          rintro e w10 ⟨a3, n3, c3, rfl, _, hb, _, _⟩
          replace HB : Hid (Below w.heap.size w w10) := HB.out.trans (hb.mono HB.out.size)
          replace HA := hide (HA.out.below hb)
          replace H := hide (H.out.below hb)
          replace N := hide (N.out.below hb)
          replace HX := hide (HX.out.below hb)
          replace HXS := hide (HXS.out.below hb)
          replace HWD := hide (HWD.out.below hb)
          replace HKX := hide (HKX.out.below hb)
          clear hb
          obtain ⟨y0, y1, y2, y3, y4, y5, y6, y7, y8, y9⟩ := HX.out.at_
          have yl : q1 < w10.heap.size := HX.out.lt
          obtain ⟨g0, g1, g2, g3⟩ := HKX.out.at_
          have gl : q3 < w10.heap.size := HKX.out.lt
          go_wp2_with fail
          clear y0 y1 y2 y3 y4 y5 y6 y7 y8 y9 yl g0 g1 g2 g3 gl
          obtain ⟨w11, ew, hbu, hau⟩ := one_new w10 F a3 n3 c3
          rw [← ew]
          replace HB : Hid (Below w.heap.size w w11) := HB.out.trans (hbu.mono HB.out.size)
          replace HA := hide (HA.out.below hbu)
          replace H := hide (H.out.below hbu)
          replace N := hide (N.out.below hbu)
          replace HX := hide (HX.out.below hbu)
          replace HXS := hide (HXS.out.below hbu)
          replace HWD := hide (HWD.out.below hbu)
          replace HKX := hide (HKX.out.below hbu)
          clear ew hbu hau
          have HQL : Hid (q1 < w11.heap.size ∧ q2 < w11.heap.size ∧ w.heap.size < w11.heap.size) := ⟨HX.out.lt, HWD.out.lt, HA.out.lt⟩
          refine (report_x HXS.out HRW.out HC.out E2.out E1.out).mono ?_
          rintro e w12 ⟨a4, n4, c4, rfl, hy, hb, hf, hcy⟩
          replace HB : Hid (Below w.heap.size w w12) := HB.out.trans (hb.mono HB.out.size)
          replace HA := hide (HA.out.below hb)
          replace H := hide (H.out.below hb)
          replace N := hide (N.out.below hb)
          replace HX := hide (HX.out.below hb)
          replace HXS := hide (HXS.out.below hb)
          replace HWD := hide (HWD.out.below hb)
          replace HKX := hide (HKX.out.below hb)
          have HY := hide hy
          have HCY := hide hcy
          have AW1 : Hid (Aw q1 a4 n4) := aw_new hf HQL.out.1
          have AW2 : Hid (Aw q2 a4 n4) := aw_new hf HQL.out.2.1
          clear hb hy hf hcy
          obtain ⟨y0, y1, y2, y3, y4, y5, y6, y7, y8, y9⟩ := HX.out.at_
          have yl : q1 < w12.heap.size := HX.out.lt
          obtain ⟨g0, g1, g2, g3⟩ := HKX.out.at_
          have gl : q3 < w12.heap.size := HKX.out.lt
          go_wp2_with fail
          clear y0 y1 y2 y3 y4 y5 y6 y7 y8 y9 yl g0 g1 g2 g3 gl
          have HX12 : Hid (q1 < w12.heap.size ∧ q2 < w12.heap.size) := ⟨HX.out.lt, HWD.out.lt⟩
          obtain ⟨w13, ew, hbu, hau⟩ := one_new w12 { X with base := X.base + net, hs := A.hs.drop (k + 1) } a4 n4 c4
          rw [← ew]
          replace HB : Hid (Below w.heap.size w w13) := HB.out.trans (hbu.mono HB.out.size)
          replace HA := hide (HA.out.below hbu)
          replace H := hide (H.out.below hbu)
          replace N := hide (N.out.below hbu)
          replace HX := hide (HX.out.below hbu)
          replace HXS := hide (HXS.out.below hbu)
          replace HWD := hide (HWD.out.below hbu)
          replace HKX := hide (HKX.out.below hbu)
          replace HY := hide (HY.out.below hbu)
          obtain ⟨q5, eq5⟩ : ∃ q, q = w12.heap.size := ⟨_, rfl⟩
          have HQ5 : Hid (q1 < q5 ∧ q2 < q5) := by
            show q1 < q5 ∧ q2 < q5
            have := HX12.out
            omega
          rw [← eq5] at hau
          try rw [← eq5]
          have HYB := hide hau
          clear ew hbu hau eq5
          refine (report_x HY.out HR3.out.w HCY.out EZ.out E3.out).mono ?_
          rintro e w14 ⟨a5, n5, c5, rfl, _, hb, _, _⟩
          replace HB : Hid (Below w.heap.size w w14) := HB.out.trans (hb.mono HB.out.size)
          replace HA := hide (HA.out.below hb)
          replace H := hide (H.out.below hb)
          replace N := hide (N.out.below hb)
          replace HX := hide (HX.out.below hb)
          replace HXS := hide (HXS.out.below hb)
          replace HWD := hide (HWD.out.below hb)
          replace HKX := hide (HKX.out.below hb)
          replace HY := hide (HY.out.below hb)
          replace HYB := hide (HYB.out.below hb)
          clear hb
          obtain ⟨s0, s1⟩ := HWD.out.at_
          have sl : q2 < w14.heap.size := HWD.out.lt
          go_upto_region 19 with fail
          obtain ⟨w15, ew, hbu, hau⟩ := one_new w14 Z a5 n5 c5
          rw [← ew]
          clear s0 s1 sl
          replace HB : Hid (Below w.heap.size w w15) := HB.out.trans (hbu.mono HB.out.size)
          replace HA := hide (HA.out.below hbu)
          replace H := hide (H.out.below hbu)
          replace N := hide (N.out.below hbu)
          replace HX := hide (HX.out.below hbu)
          replace HXS := hide (HXS.out.below hbu)
          replace HWD := hide (HWD.out.below hbu)
          replace HKX := hide (HKX.out.below hbu)
          replace HY := hide (HY.out.below hbu)
          replace HYB := hide (HYB.out.below hbu)
          clear ew hbu hau
          obtain ⟨s0, s1⟩ := HWD.out.at_
          go_wp2_with fail
          clear s0 s1
          refine (plus_w (z := X.base) _ (by have := HRW.out.base; unfold I64 at this; omega) (by have := HRW.out.base; unfold I64 at this; omega) HNET.out.1).mono ?_
          rintro e w16 ⟨rfl, hb⟩
          replace HB : Hid (Below w.heap.size w w16) := HB.out.trans (hb.mono HB.out.size)
          replace HA := hide (HA.out.below hb)
          replace H := hide (H.out.below hb)
          replace N := hide (N.out.below hb)
          replace HX := hide (HX.out.below hb)
          replace HXS := hide (HXS.out.below hb)
          replace HWD := hide (HWD.out.below hb)
          replace HKX := hide (HKX.out.below hb)
          replace HY := hide (HY.out.below hb)
          replace HYB := hide (HYB.out.below hb)
          clear hb
          obtain ⟨s0, s1⟩ := HWD.out.at_
          have sl : q2 < w16.heap.size := HWD.out.lt
          have sf := HWD.out.fz
          go_upto_region 20 with fail
          clear s0 s1 sl sf
          obtain ⟨W, eW⟩ : ∃ W, W = (w16.setCell ⟨q2, 0, none⟩ (.int .i64 (hiOf (X.base + net)))).setCell ⟨q2, 1, none⟩ (.int .u64 (loOf (X.base + net))) := ⟨_, rfl⟩
          rw [← eW]
          have g1 := HQ2.out.1
          have g2 := HQ2.out.2
          have g5 := HQ5.out
          have hq1 := HXN.out
          have FWD : Hid (Wb W q2 (X.base + net)) := by show Wb _ _ _; rw [eW]; exact HWD.out.put _
          have FB : Hid (Below w.heap.size w W) := by show Below _ _ _; rw [eW]; exact (HB.out.setCell (p := ⟨q2, 0, none⟩) (show w.heap.size ≤ q2 by omega) _).setCell (p := ⟨q2, 1, none⟩) (show w.heap.size ≤ q2 by omega) _
          have FA : Hid (Ab W w.heap.size A (some ⟨hb_, off, none⟩) n c) := by show Ab _ _ _ _ _ _; rw [eW]; exact (HA.out.put_far (by omega)).put_far (by omega)
          have FX : Hid (Ab W q1 X ax nx cx) := by show Ab _ _ _ _ _ _; rw [eW]; exact (HX.out.put_far (by omega)).put_far (by omega)
          have FYB : Hid (Ab W q5 { X with base := X.base + net, hs := A.hs.drop (k + 1) } a4 n4 c4) := by show Ab _ _ _ _ _ _; rw [eW]; exact (HYB.out.put_far (by omega)).put_far (by omega)
          have FH : Hid (Hs W (some ⟨hb_, off, none⟩) n A.hs) := by show Rl _ _ _ _ _ _ _; rw [eW]; exact rl_put (rl_put H.out (AWA.out q2 (by omega))) (AWA.out q2 (by omega))
          have FN : Hid (Rl ienc 1 8 W an nn nets) := by show Rl _ _ _ _ _ _ _; rw [eW]; exact rl_put (rl_put N.out (AWN.out q2 (by omega))) (AWN.out q2 (by omega))
          have FY : Hid (Hs W a4 n4 (A.hs.drop (k + 1))) := by show Rl _ _ _ _ _ _ _; rw [eW]; exact rl_put (rl_put HY.out AW2.out) AW2.out
          clear eW HWD HB HA HX HYB H N HY HKX HXS
          obtain ⟨t0, t1, t2, t3, t4, t5, t6, t7, t8, t9⟩ := FYB.out.at_
          have tl : q5 < W.heap.size := FYB.out.lt
          have g6 : ¬ q1 = q5 := by omega
          have hl5 := HL5.out
          go_wp2_with (refine wpList_store_row rfl 28 (.tmp 7) (.tmp 117) rfl (q1) #[.string X.key, .int .i64 X.lo, .int .i64 X.hi, .int .i64 (X.base + net), .int .i64 X.rd, .slice a4 n4 c4, .int .i64 X.lk.c, .int .i64 X.lk.s, .int .i64 X.lk.h, .int .i64 X.lk.n] rfl rfl 28 #[.string X.key, .int .i64 X.lo, .int .i64 X.hi, .int .i64 X.base, .int .i64 X.rd, .slice ax nx cx, .int .i64 X.lk.c, .int .i64 X.lk.s, .int .i64 X.lk.h, .int .i64 X.lk.n] FX.out.row ac_info rfl (by simp [Value.oneCell']) ?_)
          clear t0 t1 t2 t3 t4 t5 t6 t7 t8 t9 tl
          go_roundw
          case rel =>
            exact ⟨k + 1, { X with base := X.base + net, hs := A.hs.drop (k + 1) }, a4, n4, c4, by omega, by go_num, HR3.out, below_setRow FB.out (by omega) _, FA.out.row_far (by omega), rl_row FH.out (AWA.out q1 (by omega)), rl_row FN.out (AWN.out q1 (by omega)), Ab.row_self (B := { X with base := X.base + net, hs := A.hs.drop (k + 1) }) FX.out, rl_row FY.out AW1.out, HCY.out, FWD.out.row_far (by omega)⟩
          case measure => simp [intOf]; omega
      · obtain rfl : k = n := by omega
        have hX : X.hs = [] := by rw [HR.out.hs]; exact List.drop_of_length_le (by have := HLN.out; omega)
        have hT : totalB X = decide (A.lk.c = 0) := by unfold totalB; rw [(right_iff X).2 HR.out.right, hX, HR.out.lk]; rfl
        have HRW := hide HR.out.w
        obtain ⟨s0, s1⟩ := HWD.out.at_
        have sl := HWD.out.lt
        obtain ⟨z0, z1, z2, z3, z4, z5, z6, z7, z8, z9⟩ := HA.out.at_
        have zl := HA.out.lt
        go_wp2_with fail
        clear s0 s1 sl z0 z1 z2 z3 z4 z5 z6 z7 z8 z9 zl
        refine (int_yes X.base _ HRW.out.base.1 HRW.out.base.2).mono ?_
        rintro e w20 ⟨rfl, hb⟩
        replace HB : Hid (Below w.heap.size w w20) := HB.out.trans (hb.mono HB.out.size)
        replace HA := hide (HA.out.below hb)
        replace HX := hide (HX.out.below hb)
        replace HXS := hide (HXS.out.below hb)
        clear hb HWD
        obtain ⟨y0, y1, y2, y3, y4, y5, y6, y7, y8, y9⟩ := HX.out.at_
        have yl : q1 < w20.heap.size := HX.out.lt
        by_cases hc : A.lk.c = 0
        · have T1 : Hid (totalB X = true) := by show _ = _; rw [hT, hc]; rfl
          have T2 : Hid (totalV X = X.base) := by show _ = _; unfold totalV; rw [if_pos T1.out]
          have CC := hide hc
          clear hT hX hc
          go_wp2_with fail
          clear y0 y1 y2 y3 y4 y5 y6 y7 y8 y9 yl
          refine (total_x HXS.out HRW.out T2.out T1.out).mono ?_
          rintro e w21 ⟨rfl, hb⟩
          replace HB : Hid (Below w.heap.size w w21) := HB.out.trans (hb.mono HB.out.size)
          replace HA := hide (HA.out.below hb)
          replace HX := hide (HX.out.below hb)
          clear hb
          obtain ⟨y0, y1, y2, y3, y4, y5, y6, y7, y8, y9⟩ := HX.out.at_
          obtain ⟨z0, z1, z2, z3, z4, z5, z6, z7, z8, z9⟩ := HA.out.at_
          rw [CC.out] at z6
          go_wp2_with fail
          go_returns
          exact ⟨rfl, HB.out⟩
        · have T1 : Hid (totalB X = false) := by show _ = _; rw [hT, decide_eq_false hc]
          have T2 : Hid (totalV X = 0) := by show _ = _; unfold totalV; rw [T1.out]; rfl
          have CC : Hid (¬ A.lk.c = 0) := hc
          clear hT hX hc
          go_wp2_with fail
          clear y0 y1 y2 y3 y4 y5 y6 y7 y8 y9 yl
          refine (total_x HXS.out HRW.out T2.out T1.out).mono ?_
          rintro e w21 ⟨rfl, hb⟩
          replace HB : Hid (Below w.heap.size w w21) := HB.out.trans (hb.mono HB.out.size)
          replace HA := hide (HA.out.below hb)
          clear hb
          obtain ⟨z0, z1, z2, z3, z4, z5, z6, z7, z8, z9⟩ := HA.out.at_
          have cc1 : ¬ A.lk.c = 0 := CC.out
          have cc2 : (A.lk.c == 0) = false := by simpa using CC.out
          go_wp2_with fail
          go_returns
          exact ⟨rfl, HB.out⟩
  · obtain ⟨E, eE⟩ : ∃ E, E = freezeE A r := ⟨_, rfl⟩
    have EE := hide eE.symm
    have hB0 : B = ac0 := by rw [eB]; unfold freezeA; rw [if_neg he]
    have B0 := hide hB0
    have NE : Hid (¬ E = 0) := by show ¬ E = 0; rw [eE]; exact he
    clear h hw hr hn hni eB he eE hB0 hlen hnlen hnroom
    unfold acval
    go_enter Try.func3, Try.ntmps3
    go_wp2_with fail
    obtain ⟨w1, ew, hb1, ha1⟩ := one_new w A a n c
    rw [← ew]
    have HB1 := hide hb1
    have HA := hide ha1
    replace H := hide (H.out.below hb1)
    clear hb1 ha1 ew
    have HL : Hid (w.heap.size < w1.heap.size) := HA.out.lt
    refine (awake_any _).mono ?_
    rintro e w2 ⟨rfl, hb⟩
    have HB2 : Hid (Below w.heap.size w w2) := HB1.out.trans (hb.mono HB1.out.size)
    replace H := hide (H.out.below hb)
    replace HA := hide (HA.out.below hb)
    replace HL := hide (Nat.lt_of_lt_of_le HL.out hb.size)
    clear hb HB1
    obtain ⟨z0, z1, z2, z3, z4, z5, z6, z7, z8, z9⟩ := HA.out.at_
    have zl : w.heap.size < w2.heap.size := HA.out.lt
    go_wp2_with fail
    clear z0 z1 z2 z3 z4 z5 z6 z7 z8 z9 zl
    refine (freeze_x H.out HW.out EB.out EE.out).mono ?_
    rintro e w3 ⟨a2, n2, c2, rfl, hh, hb, _, hc⟩
    have HB3 : Hid (Below w.heap.size w w3) := HB2.out.trans (hb.mono HB2.out.size)
    replace H := hide (H.out.below hb)
    replace HA := hide (HA.out.below hb)
    replace HL := hide (Nat.lt_of_lt_of_le HL.out hb.size)
    have HH := hide hh
    clear hb HB2 hh
    clear hc
    have ne := NE.out
    have ne2 : (E == 0) = false := by simpa using NE.out
    obtain ⟨z0, z1, z2, z3, z4, z5, z6, z7, z8, z9⟩ := HA.out.at_
    have zl : w.heap.size < w3.heap.size := HA.out.lt
    go_wp2_with fail
    clear z0 z1 z2 z3 z4 z5 z6 z7 z8 z9 zl
    obtain ⟨w4, ew, hbu, hau⟩ := one_new w3 B a2 n2 c2
    rw [← ew]
    have HB4 : Hid (Below w.heap.size w w4) := HB3.out.trans (hbu.mono HB3.out.size)
    replace H := hide (H.out.below hbu)
    replace HH := hide (HH.out.below hbu)
    replace HA := hide (HA.out.below hbu)
    obtain ⟨q1, eq⟩ : ∃ q1, q1 = w3.heap.size := ⟨_, rfl⟩
    have HXN : Hid (w.heap.size < q1) := by show w.heap.size < q1; rw [eq]; exact HL.out
    replace HL := hide (Nat.lt_of_lt_of_le HL.out hbu.size)
    rw [← eq] at hau
    try rw [← eq]
    have HX := hide hau
    clear ew hbu hau eq HB3
    refine (same_none HH.out B0.out).mono ?_
    rintro e w5 ⟨rfl, hb⟩
    have HB5 : Hid (Below w.heap.size w w5) := HB4.out.trans (hb.mono HB4.out.size)
    replace H := hide (H.out.below hb)
    replace HH := hide (HH.out.below hb)
    replace HA := hide (HA.out.below hb)
    replace HX := hide (HX.out.below hb)
    replace HL := hide (Nat.lt_of_lt_of_le HL.out hb.size)
    clear hb HB4
    obtain ⟨z0, z1, z2, z3, z4, z5, z6, z7, z8, z9⟩ := HA.out.at_
    have zl : w.heap.size < w5.heap.size := HA.out.lt
    go_wp2_with fail
    clear z0 z1 z2 z3 z4 z5 z6 z7 z8 z9 zl
    go_returns
    exact ⟨rfl, HB5.out⟩

set_option maxRecDepth 100000 in
theorem lifted (os : Os) (started : os.Started) (H : Type) (enc : TypeId × Value → H) :
    ReturnsInHanded {} Try.checked os 3 .any (Rows.accountRoundsSpec.pre6 enc Try.prog Try.f3 Rows.accountRoundsRow.domain false) (Rows.accountRoundsSpec.post enc Try.prog Try.f3 false true false false) := by
  refine returnsInHanded_of_change_sized (C := Try.checked) own started (by kernel_rfl) Try.func3
    (ChangeSpec.witness6 (enc := enc) (C := Try.checked) false ⟨#[], #[.agg #[.string ByteArray.empty, .int .i64 0, .int .i64 0, .int .i64 0, .int .i64 0, .slice none 0 0, .int .i64 0, .int .i64 0, .int .i64 0, .int .i64 0], .int .i64 0, .slice none 0 0], []⟩ 8 (by kernel_rfl) (by kernel_rfl) (by kernel_rfl) (by kernel_rfl)) ?_
  intro W base args ds gs before hval0 hW hcnd hsz0 _
  have hsz : (DataW.weightsEach Try.prog (Try.f3.params.toList ++ Rows.accountRoundsSpec.plain.varTypes Try.prog) (ds ++ gs)).all (· ≤ reachBytes) = true := hsz0
  have hval : ∀ (j : Nat) t v, Try.f3.params[j]? = some t → args[j]? = some v → Value.okWide Try.prog W .any base t v := hval0
  have hW' := hW
  obtain ⟨p, q, hA0, hV, rfl, hfz, hnd⟩ := hW
  have hA : DataW.TrodAll enc Try.prog W 0 (fun _ => true) true Try.f3.params.toList args.toList ds p := hA0
  rw [Try.params3] at hA hval hsz
  obtain ⟨v0, vs0, d0, ds0, p0, q0, hargs, rfl, rfl, h0, r0⟩ := trodAll_cons hA
  obtain ⟨v1, vs1, d1, ds1, p1, q1, rfl, rfl, rfl, h1, r1⟩ := trodAll_cons r0
  obtain ⟨v2, vs2, d2, ds2, p2, q2, rfl, rfl, rfl, h2, r2⟩ := trodAll_cons r1
  obtain ⟨rfl, rfl, rfl⟩ := trodAll_nil r2
  obtain rfl : args = #[v0, v1, v2] := by cases args; simp_all
  obtain ⟨rfl, rfl⟩ := trodVars_none hV
  have lt0 : ∀ x ∈ p0, x.block < W.heap.size := by obtain ⟨m, hm⟩ := h0; exact DataW.trod_lt m _ _ _ hm
  obtain ⟨a, n, c, A, rfl, k0, kw0, kc0⟩ := open_account_held (hval 0 28 v0 rfl rfl) h0 (fun n hn => by have h := List.all_eq_true.1 hsz n (DataW.weights_mem_each (j := 0) rfl rfl n hn); simpa using h)
  have lt1 : ∀ x ∈ p1, x.block < W.heap.size := by obtain ⟨m, hm⟩ := h1; exact DataW.trod_lt m _ _ _ hm
  obtain ⟨r, rfl, kr⟩ := open_i64 (hval 1 3 v1 rfl rfl) h1
  have lt2 : ∀ x ∈ p2, x.block < W.heap.size := by obtain ⟨m, hm⟩ := h2; exact DataW.trod_lt m _ _ _ hm
  obtain ⟨an, nn, cn, nets, rfl, kn, kni⟩ := open_ints_held (hval 2 29 v2 rfl rfl) h2 (fun n hn => by have h := List.all_eq_true.1 hsz n (DataW.weights_mem_each (j := 2) rfl rfl n hn); simpa using h)
  clear hA0 hval0
  refine (walk k0 kw0 kr kn kni).mono fun e W' ⟨he, bel⟩ => ?_
  subst he
  exact ⟨_, rfl, _, _, _, [], _, [], hW', trodAll_mk1 (shut_bool Try.underlying4 _), (trodAll_cons_mk (Below.trod laidOut (by kernel_rfl) (of_decide_eq_true (by kernel_rfl)) h0 bel lt0) (trodAll_cons_mk (Below.trod laidOut (by kernel_rfl) (of_decide_eq_true (by kernel_rfl)) h1 bel lt1) (trodAll_cons_mk (Below.trod laidOut (by kernel_rfl) (of_decide_eq_true (by kernel_rfl)) h2 bel lt2) trodAll_mk0))), rfl, bel.frame _, fun h => by cases h⟩

theorem over : Rows.accountRoundsRow.holds Try.pinned (OpenSpec.ofChange Rows.accountRoundsSpec) :=
  OpenClaim.holds_of_wide 3 Try.f3 rfl rfl rfl rfl rfl rfl rfl ⟨rfl, rfl, rfl, rfl, rfl⟩ rfl rfl rfl rfl rfl (by kernel_rfl) Try.func3 (by kernel_rfl)
    (of_decide_eq_true (by kernel_rfl)) (by unfold Func.isWrapper; first | (rw [if_pos (by decide +kernel)]; kernel_rfl) | (rw [if_neg (by decide +kernel)]; exact ⟨rfl, rfl⟩))
    (fun os started H enc _ => lifted os started H enc)

theorem proved : Rows.AccountRoundsSaid := over
#print axioms proved
end AccountRounds
theorem accountRounds_holds : Rows.AccountRoundsSaid := AccountRounds.proved
end Go.Proofs.Ytfolpnjndlklkab
