/- What the document's Open returns. No condition. -/
import Derived.Test.YtjhkenmlaammnaaChoRefBest
import Derived.Test.YtjhkenmlaammnaaChoRefRight
import Derived.BigQuiet
namespace Go.Proofs.Ytjhkenmlaammnaa
open Go.ChangeShapes Go.WideShapes Go.ChangeAt Go.RowKit Go.Shelf B8 Am Cz
set_option linter.unusedVariables false

theorem rless_litc {a b c d : Int} {x : Bool} (h : lessB a b c d = x) (w : World) :
    Calls Try.prog 34 #[.agg #[.int .i64 a, .int .i64 b], .agg #[.int .i64 c, .int .i64 d]] w fun e w' => e = .returned (.bool x) ∧ Below w.heap.size w w' :=
  h ▸ (rless_any a b c d w).mono fun e w' ⟨he, hw⟩ => ⟨he, by rw [hw]; exact below_alloc (below_alloc (Below.refl _ _) _) _⟩
theorem best_take {l : List Ca} {k : Nat} {p : Ca} {cur : Option Vv} (hp : l[k]? = some p) (h : ((l.map Ca.v).take k).foldl pickP none = cur) : ((l.map Ca.v).take (k + 1)).foldl pickP none = pickP cur p.v := by
  rw [take_snoc (p := p.v) (by simp [hp]), List.foldl_append, h]
  rfl
set_option maxRecDepth 100000 in
set_option maxHeartbeats 4000000 in
theorem ropen_any {w : World} {a : Option Addr} {m c : Nat} {l : List Pp} (h : Ps w a m l) (n f : Int) :
    Calls Try.prog 9 #[.int .i64 n, .int .i64 f, .slice a m c] w (OpenP w n f (l.map Pp.pr)) := by
  have H := hide h
  have rm := h.room
  have LN : Hid ((l.map Pp.pr).length = m) := by show _ = _; rw [List.length_map]; exact h.len
  clear h
  cases hr : rightB n (l.map Pp.pr) with
  | false =>
    have E : Hid (openE n f (l.map Pp.pr) = 21) := by show _ = _; unfold openE; rw [hr]; simp
    have CR := hide (rright_lit (c := c) H.out hr)
    clear hr
    go_enter Try.func9, Try.ntmps9
    go_wp2_with fail
    refine CR.out.mono ?_
    rintro e w1 ⟨rfl, hb1⟩
    have B1 := hide hb1
    clear hb1
    go_wp2_with fail
    go_returns
    exact open_bad B1.out E.out (by decide)
  | true =>
    have EO := hide (openE_of (f := f) hr)
    have CR := hide (rright_lit (c := c) H.out hr)
    have HR := hide hr
    have hn := (right_iff.1 hr).1
    have TG := hide (top_le hr)
    have T0 := hide (top_nonneg (l.map Pp.pr))
    have m5 : m ≤ 5 := by rw [← LN.out]; exact right_len hr
    clear hr
    by_cases f1 : f < 1
    · have E : Hid (openE n f (l.map Pp.pr) = 1) := by show _ = _; rw [EO.out, if_pos (.inl f1)]
      go_enter Try.func9, Try.ntmps9
      go_wp2_with fail
      refine CR.out.mono ?_
      rintro e w1 ⟨rfl, hb1⟩
      have B1 := hide hb1
      clear hb1
      go_wp2_with fail
      go_returns
      exact open_bad B1.out E.out (by decide)
    · by_cases f2 : 1099511627776 < f
      · have E : Hid (openE n f (l.map Pp.pr) = 1) := by show _ = _; rw [EO.out, if_pos (.inr f2)]
        go_enter Try.func9, Try.ntmps9
        go_wp2_with fail
        refine CR.out.mono ?_
        rintro e w1 ⟨rfl, hb1⟩
        have B1 := hide hb1
        clear hb1
        go_wp2_with fail
        go_returns
        exact open_bad B1.out E.out (by decide)
      · by_cases q1 : 2 * (m : Int) ≤ n
        · have E : Hid (openE n f (l.map Pp.pr) = 91) := by show _ = _; rw [EO.out, if_neg (by omega), if_pos (by rw [LN.out]; omega)]
          go_enter Try.func9, Try.ntmps9
          go_wp2_with fail
          refine CR.out.mono ?_
          rintro e w1 ⟨rfl, hb1⟩
          have B1 := hide hb1
          clear hb1
          go_wp2_with fail
          go_returns
          exact open_bad B1.out E.out (by decide)
        · have CG : Hid (∀ w1, Below w.heap.size w w1 → Calls Try.prog 33 #[.slice a m c] w1 fun e w' => e = .returned (.int .i64 (topV (l.map Pp.pr))) ∧ w' = w1) := fun w1 hb1 => rgreatest_any (H.out.below hb1)
          by_cases q2 : f + 1024 ≤ topV (l.map Pp.pr)
          · have E : Hid (openE n f (l.map Pp.pr) = 81) := by show _ = _; rw [EO.out, if_neg (by omega), if_neg (by rw [LN.out]; omega), if_pos q2]
            have t1 := TG.out
            have t0 := T0.out
            generalize topV (l.map Pp.pr) = tp at q2 CG t1 t0
            go_enter Try.func9, Try.ntmps9
            go_wp2_with fail
            refine CR.out.mono ?_
            rintro e w1 ⟨rfl, hb1⟩
            have B1 := hide hb1
            clear hb1
            go_wp2_with fail
            refine (CG.out _ B1.out).mono ?_
            rintro e w2 ⟨rfl, rfl⟩
            go_wp2_with fail
            go_returns
            exact open_bad B1.out E.out (by decide)
          · have E : Hid (openE n f (l.map Pp.pr) = 0) := by show _ = _; rw [EO.out, if_neg (by omega), if_neg (by rw [LN.out]; omega), if_neg q2]
            have ER : Hid (openR n f (l.map Pp.pr) = openL f (l.map Pp.pr)) := by show _ = _; unfold openR; rw [if_pos E.out]
            have t1 := TG.out
            have t0 := T0.out
            obtain ⟨tp, etp⟩ : ∃ tp, tp = topV (l.map Pp.pr) := ⟨_, rfl⟩
            rw [← etp] at q2 CG t1 t0
            have ETP := hide etp
            clear etp EO
            go_enter Try.func9, Try.ntmps9
            go_wp2_with fail
            refine CR.out.mono ?_
            rintro e w1 ⟨rfl, hb1⟩
            have B1 := hide hb1
            clear hb1
            go_wp2_with fail
            refine (CG.out _ B1.out).mono ?_
            rintro e w2 ⟨rfl, rfl⟩
            clear CR CG
            go_wp2_with fail
            go_loopw [9, 10, 11, 12, 13, 14] (fun t sv _ _ _ _ wr => ∃ (k : Nat) (a1 : Option Addr) (c1 : Nat) (le : List Ev), f + (k : Int) ≤ max f (tp + 1) ∧ sv = .int .i64 (f + (k : Int)) ∧ t = .slice a1 k c1 ∧ Hid (Below w.heap.size w wr) ∧ Hid (Es wr w.heap.size a1 k c1 le) ∧ Hid (le.map Ev.ev = (List.range k).map (fun (i : Nat) => (f + (i : Int), valV (l.map Pp.pr) (f + (i : Int)))))) (fun _ sv _ _ _ _ _ => (tp + 1 - intOf sv).toNat)
            case atStart => exact ⟨0, none, 0, [], by simp; omega, by simp, rfl, B1, es_nil _ _, rfl⟩
            case round =>
              obtain ⟨k, a1, c1, le, hk, rfl, rfl, HB, HE, HL⟩ := hrel
              by_cases hlt : f + (k : Int) ≤ tp
              · have hk2 : k ≤ 2000 := by omega
                obtain ⟨sl, esl⟩ : ∃ sl, sl = f + (k : Int) := ⟨_, rfl⟩
                have ESL := hide esl
                have sb1 : 1 ≤ sl := by omega
                have sb2 : sl ≤ 1099511627776 := by omega
                rw [← esl] at hlt ⊢
                clear esl
                obtain ⟨u0, eu0⟩ : ∃ u0, u0 = wr := ⟨_, rfl⟩
                obtain ⟨u, eu⟩ : ∃ u, u = (wr.alloc (.cells #[.int .i64 sl, .slice none 0 0] 39)).alloc (.cells #[.int .i64 0, .int .i64 0] 43) := ⟨_, rfl⟩
                have BU : Hid (Below u0.heap.size u0 u) := by rw [eu, eu0]; exact below_alloc (below_alloc (Below.refl _ _) _) _
                have RU : Hid (Rb u u0.heap.size u0.heap.size (u0.heap.size + 1) sl none ⟨sl, none, 0, 0, []⟩) := by
                  rw [eu, eu0]
                  refine ⟨?_, ?_, ⟨⟨wfs_nil, rfl, by show 0 ≤ _; omega⟩, World.ownsRow_nil _ _ _ _⟩, rfl, rfl⟩
                  · rw [Below.heap_alloc _ _ _ (by simp)]
                    exact heap_alloc_new wr _
                  · have := heap_alloc_new (wr.alloc (.cells #[.int .i64 sl, .slice none 0 0] 39)) (.cells #[.int .i64 0, .int .i64 0] 43)
                    show _ = some (Obj.cells #[.int .i64 0, .int .i64 0] 43 (0, 0))
                    simpa using this
                have CF := hide (for_any (c := c) (H.out.below (below_step HB.out (by rw [← eu0]; exact BU.out))) HR.out sl)
                have HB0 : Hid (Below w.heap.size w u0) := by rw [eu0]; exact HB.out
                have HE0 : Hid (Es u0 w.heap.size a1 k c1 le) := by rw [eu0]; exact HE.out
                have EU := hide eu
                have EU0 := hide eu0
                clear eu eu0 HB HE
                go_upto_region 16 with fail
                rw [← EU.out, ← EU0.out]
                go_wp2_with fail
                refine CF.out.mono ?_
                rintro e w4 ⟨ac, mc, cc, cl, rfl, hb4, hcs, hcl, hmc⟩
                have R4 := hide (RU.out.below hb4)
                have B4 := hide (below_step BU.out hb4)
                have ROW := hide hcs.row
                have LEN := hide hcs.len
                have CL := hide hcl
                have SZ : Hid (u0.heap.size + 2 ≤ u.heap.size) := by show _ ≤ _; have h1 := (Array.getElem?_eq_some_iff.1 RU.out.brow).1; omega
                clear hb4 hcs hcl RU BU CF EU EU0
                go_wp2_with fail
                go_loopw [14] (fun iv wr => ∃ (i : Nat) (cur : Option Vv) (ev : Ev), i ≤ mc ∧ iv = .int .i64 i ∧ Hid (Below u0.heap.size u0 wr) ∧ Hid (Rb wr u0.heap.size u0.heap.size (u0.heap.size + 1) sl cur ev) ∧ Hid (wr.ownsRow u.heap.size 47 5 (.slice ac mc cc) mc (ccells cl)) ∧ Hid (((cl.map Ca.v).take i).foldl pickP none = cur)) (fun iv _ => mc - (intOf iv).toNat)
                case atStart => exact ⟨0, none, _, Nat.zero_le _, rfl, B4, R4, ROW, rfl⟩
                case round =>
                  clear B4 R4 ROW
                  obtain ⟨i, cur, ev, hi, rfl, HB, HRB, HROW, HF⟩ := hrel
                  by_cases hli : i < mc
                  · obtain ⟨b, p, rfl, hp, hbB, hblt, c0, c1', c2, c3⟩ := crow_at HROW.out LEN.out hli
                    have i1 : (i : Int) < (mc : Int) := by omega
                    have i2 : (0 : Int) ≤ (i : Int) := by omega
                    have BT := hide (best_take hp HF.out)
                    have PM : Hid (p.v ∈ forP l sl) := by rw [← CL.out]; exact List.mem_map.2 ⟨p, List.mem_of_getElem? hp, rfl⟩
                    have PQ : Hid ((Sq w p.v.a p.v.m p.v.cp p.v.b ∧ p.v.m ≤ 140737488351232) ∧ 1 ≤ p.v.r) := by
                      obtain ⟨_, q, hq, hv⟩ := forP_mem PM.out
                      refine ⟨(H.out.each q hq).1.each p.v hv, ?_⟩
                      have h1 := (vote_mem ((right_iff.1 HR.out).2.1 q.pr (List.mem_map.2 ⟨q, hq, rfl⟩))).2.2 p.v.vt (List.mem_map.2 ⟨p.v, hv, rfl⟩)
                      exact (of_decide_eq_true h1.2.2).2.2
                    obtain ⟨t0', t1', t2', t3', ff1, ff2⟩ := HRB.out.facts
                    have GB := hide hbB
                    have BL := hide hblt
                    clear hp hblt
                    have LB : Hid (lessB (cur.getD dvv).r (cur.getD dvv).n p.v.r p.v.n = true → pickP cur p.v = some p.v) := fun h => by
                      cases cur with
                      | none => rfl
                      | some x => simp only [Option.getD_some] at h; simp [pickP, h]
                    have LB2 : Hid (lessB (cur.getD dvv).r (cur.getD dvv).n p.v.r p.v.n = false → pickP cur p.v = cur) := fun h => by
                      cases cur with
                      | none =>
                        have h2 := PQ.out.2
                        have h3 : lessB 0 0 p.v.r p.v.n = false := h
                        rw [lessB_true (.inl (by omega))] at h3
                        cases h3
                      | some x => simp only [Option.getD_some] at h; simp [pickP, h]
                    have nb1 : b ≠ u0.heap.size := by have := SZ.out; have := GB.out; omega
                    have nb2 : b ≠ u0.heap.size + 1 := by have := SZ.out; have := GB.out; omega
                    obtain ⟨cr, cn, ecr, ecn⟩ : ∃ cr cn, cr = (cur.getD dvv).r ∧ cn = (cur.getD dvv).n := ⟨_, _, rfl, rfl⟩
                    rw [← ecr, ← ecn] at LB LB2
                    rw [← ecr] at t2'
                    rw [← ecn] at t3'
                    clear ecr ecn ff1 ff2 t0' t1' hbB
                    go_wp2_with fail
                    cases hl : lessB cr cn p.v.r p.v.n with
                    | false =>
                      go_region_held3 (fun y => y.cell? ⟨u0.heap.size + 1, 0, none⟩ = some (.int .i64 cr) ∧ y.cell? ⟨u0.heap.size + 1, 1, none⟩ = some (.int .i64 cn) ∧ y.cell? ⟨b, i * 5 + 2, none⟩ = some (.int .i64 p.v.r) ∧ y.cell? ⟨b, i * 5 + 3, none⟩ = some (.int .i64 p.v.n)) (first | go_keep | exact ⟨t2', t3', c1', c2⟩ | exact ⟨x0, x1, x2, x3⟩) ((first | (go_at_call 34; refine (rless_litc hl _).mono ?_; rintro e w5 ⟨rfl, hb5⟩; have B5 : Hid (Below wr.heap.size wr w5) := (Below.refl _ _).drew.trans hb5; have x0 := (B5.out.cell (p := ⟨u0.heap.size + 1, 0, none⟩) HRB.out.lts.2.1).trans t2'; have x1 := (B5.out.cell (p := ⟨u0.heap.size + 1, 1, none⟩) HRB.out.lts.2.1).trans t3'; have x2 := (B5.out.cell (p := ⟨b, i * 5 + 2, none⟩) BL.out).trans c1'; have x3 := (B5.out.cell (p := ⟨b, i * 5 + 3, none⟩) BL.out).trans c2; clear hb5)))
                      all_goals
                        have B6 := hide (below_step HB.out B5.out)
                        have R6 := hide (HRB.out.below B5.out)
                        have W6 : Hid (w5.ownsRow u.heap.size 47 5 (.slice (some ⟨b, 0, none⟩) mc cc) mc (ccells cl)) := row_same HROW.out (fun k hk => B5.out.block k (HROW.out.lt k hk).2)
                        have F6 : Hid (((cl.map Ca.v).take (i + 1)).foldl pickP none = cur) := by show _ = _; rw [BT.out, LB2.out hl]
                        go_wp2_with fail
                        go_roundw
                        case rel => exact ⟨i + 1, cur, ev, by omega, by go_num, B6, R6, W6, F6⟩
                        case measure => simp [intOf]; omega
                    | true =>
                      have CVAL := hide c3
                      go_region_held3 (fun y => y.cell? ⟨u0.heap.size + 1, 0, none⟩ = some (.int .i64 cr) ∧ y.cell? ⟨u0.heap.size + 1, 1, none⟩ = some (.int .i64 cn) ∧ y.cell? ⟨b, i * 5 + 2, none⟩ = some (.int .i64 p.v.r) ∧ y.cell? ⟨b, i * 5 + 3, none⟩ = some (.int .i64 p.v.n)) (first | go_keep | exact ⟨t2', t3', c1', c2⟩ | exact ⟨x0, x1, x2, x3⟩) ((first | (go_at_call 34; refine (rless_litc hl _).mono ?_; rintro e w5 ⟨rfl, hb5⟩; have B5 : Hid (Below wr.heap.size wr w5) := (Below.refl _ _).drew.trans hb5; have x0 := (B5.out.cell (p := ⟨u0.heap.size + 1, 0, none⟩) HRB.out.lts.2.1).trans t2'; have x1 := (B5.out.cell (p := ⟨u0.heap.size + 1, 1, none⟩) HRB.out.lts.2.1).trans t3'; have x2 := (B5.out.cell (p := ⟨b, i * 5 + 2, none⟩) BL.out).trans c1'; have x3 := (B5.out.cell (p := ⟨b, i * 5 + 3, none⟩) BL.out).trans c2; have x4 := (B5.out.cell (p := ⟨b, i * 5 + 4, none⟩) BL.out).trans CVAL.out; clear hb5)))
                      all_goals
                        have B6 := hide (below_step HB.out B5.out)
                        have R6 := hide (HRB.out.below B5.out)
                        have W6 : Hid (w5.ownsRow u.heap.size 47 5 (.slice (some ⟨b, 0, none⟩) mc cc) mc (ccells cl)) := row_same HROW.out (fun k hk => B5.out.block k (HROW.out.lt k hk).2)
                        have F6 : Hid (((cl.map Ca.v).take (i + 1)).foldl pickP none = some p.v) := by show _ = _; rw [BT.out, LB.out hl]
                        have LE := hide R6.out.lts
                        obtain ⟨z0, z1, z2, z3, zf1, zf2⟩ := R6.out.facts
                        obtain ⟨u1, eu1⟩ : ∃ u1, u1 = (w5.setCell ⟨u0.heap.size + 1, 0, none⟩ (.int .i64 p.v.r)).setCell ⟨u0.heap.size + 1, 1, none⟩ (.int .i64 p.v.n) := ⟨_, rfl⟩
                        have SU1 : Hid (u1.heap.size = w5.heap.size) := by show _ = _; rw [eu1]; simp
                        have QU1 : Hid (Sq u1 p.v.a p.v.m p.v.cp p.v.b) := by
                          refine PQ.out.1.1.below ?_
                          rw [eu1]
                          have h0 := HB0.out.size
                          exact ((below_step HB0.out B6.out).setCell (p := ⟨u0.heap.size + 1, 0, none⟩) (by show _ ≤ u0.heap.size + 1; omega) _).setCell (p := ⟨u0.heap.size + 1, 1, none⟩) (by show _ ≤ u0.heap.size + 1; omega) _
                        have EU1 := hide eu1
                        have RE1 : Hid (u1.heap[u0.heap.size]? = some (.cells #[.int .i64 sl, .slice ev.a ev.m ev.cp] 39 (0, 0))) := by rw [eu1]; exact set_row (set_row R6.out.erow (by omega)) (by omega)
                        have v4 : u1.cell? ⟨b, i * 5 + 4, none⟩ = some (.slice p.v.a p.v.m p.v.cp) := by
                          rw [eu1]
                          refine (World.cell?_of_block (w := w5) (a := ⟨b, i * 5 + 4, none⟩) ?_).trans x4
                          rw [Below.heap_setCell _ _ _ _ (by simpa using nb2), Below.heap_setCell _ _ _ _ (by simpa using nb2)]
                        clear eu1 z0 z1
                        go_upto_region 22 with fail
                        rw [← EU1.out]
                        clear z2 z3 zf1 zf2 x0 x1 x2 x3 x4
                        go_wp2_with (at_builtin; refine wp_append_sq _ rfl _ _ rfl u1.heap.size (.slice none 0 0) 0 [] rfl (World.ownsRow_nil _ _ _ _) p.v.a p.v.m p.v.cp p.v.b rfl QU1.out (by have := PQ.out.1.2; omega) (Nat.le_refl _) ?_; intro v2 w6 ho2 hg2; simp only [Nat.zero_add, List.nil_append] at ho2; obtain ⟨a2, c2', rfl, hq2⟩ := sq_of_row PQ.out.1.1.length PQ.out.1.1.wf ho2; have O2 := hide ho2; have G2 := hide hg2; have RE2 : Hid (w6.heap[u0.heap.size]? = some (.cells #[.int .i64 sl, .slice ev.a ev.m ev.cp] 39 (0, 0))) := (hg2.block _ (by rw [SU1.out]; exact LE.out.1) (by simp [Value.ownBlock])).trans RE1.out; have y1 : w6.cell? ⟨u0.heap.size, 1, none⟩ = some (.slice ev.a ev.m ev.cp) := by { rw [cell_of_row _ _ _ _ _ _ RE2.out]; rfl }; have yf : ∀ o, w6.frozen? ⟨u0.heap.size, o, none⟩ = false := fun o => by { simp [World.frozen?, RE2.out] }; clear ho2 hg2 hq2)
                        have B7 : Hid (Below w5.heap.size ((w5.setCell ⟨u0.heap.size + 1, 0, none⟩ (.int .i64 p.v.r)).setCell ⟨u0.heap.size + 1, 1, none⟩ (.int .i64 p.v.n)) w6) := by
                          rw [← EU1.out, ← SU1.out]
                          exact (Below.refl _ _).grown G2.out (Nat.le_refl _) (fun j hj => by simp [Value.ownBlock] at hj)
                        have O3 : Hid (w6.ownsRow w5.heap.size 5 1 (.slice a2 p.v.m c2') p.v.m (B8.vals p.v.b)) := by rw [← SU1.out]; exact O2.out
                        obtain ⟨hR, hblk, hsz, hos, htape, hout⟩ := R6.out.take PQ.out.1.2 B6.out.size ⟨PQ.out.1.1.wf, PQ.out.1.1.length⟩ O3.out B7.out
                        have R8 := hide hR
                        have B8 : Hid (Below u0.heap.size u0 (w6.setCell ⟨u0.heap.size, 1, none⟩ (.slice a2 p.v.m c2'))) := ⟨hos.trans B6.out.os, htape.trans B6.out.tape, hout.trans B6.out.output, by have := B6.out.size; simp; omega, fun k hk => (hblk k (by have := B6.out.size; omega) (by omega) (by omega)).trans (B6.out.block k hk)⟩
                        have W8 : Hid ((w6.setCell ⟨u0.heap.size, 1, none⟩ (.slice a2 p.v.m c2')).ownsRow u.heap.size 47 5 (.slice (some ⟨b, 0, none⟩) mc cc) mc (ccells cl)) := row_same W6.out (fun k hk => hblk k (W6.out.lt k hk).2 (by have h1 := (W6.out.lt k hk).1; have := SZ.out; omega) (by have h1 := (W6.out.lt k hk).1; have := SZ.out; omega))
                        clear hR hblk hsz hos htape hout
                        go_roundw
                        case rel => exact ⟨i + 1, some p.v, _, by omega, by go_num, B8, R8, W8, F6⟩
                        case measure => simp [intOf]; omega
                  · obtain rfl : i = mc := by omega
                    have EVB : Hid (valV (l.map Pp.pr) sl = ev.b) := by
                      show _ = _
                      unfold valV
                      rw [HRB.out.eb, ← HF.out, List.take_of_length_le (by rw [List.length_map, LEN.out]; exact Nat.le_refl _), CL.out, ← forP_vt, ← bestP_vt]
                      show (match (bestP (forP l sl)).map Vv.vt with | none => [] | some v => v.b) = ((bestP (forP l sl)).getD dvv).b
                      cases bestP (forP l sl) <;> rfl
                    have BW := hide (below_step HB0.out HB.out)
                    obtain ⟨t0', t1', _, _, _, _⟩ := HRB.out.facts
                    obtain ⟨g, cp, w7, hr7, he7, hb7⟩ := es_add (HE0.out.below HB.out) (by omega) BW.out.size (p := ev) (HRB.out.own.base HB0.out.size) 24
                    rw [HRB.out.es] at hr7
                    have E7 := hide he7
                    have B7 := hide (BW.out.trans hb7)
                    have L7 : Hid ((le ++ [ev]).map Ev.ev = (List.range (k + 1)).map (fun (i : Nat) => (f + (i : Int), valV (l.map Pp.pr) (f + (i : Int))))) := by
                      show _ = _
                      rw [List.range_succ, List.map_append, List.map_append, HL.out]
                      show _ ++ [(ev.s, ev.b)] = _ ++ [(f + (k : Int), _)]
                      rw [← ESL.out, EVB.out, HRB.out.es]
                    clear he7 hb7
                    go_wp2_with (at_builtin; refine wp_append_run _ rfl _ _ 24 rfl _ _ hr7 ?_)
                    go_roundw
                    case rel => exact ⟨k + 1, _, _, _, by have := ESL.out; omega, by have := ESL.out; go_num, rfl, B7, E7, L7⟩
                    case measure => (have := ESL.out; simp [intOf]; omega)
              · have KE : Hid ((tp + 1 - f).toNat = k) := by show _ = _; omega
                have FE : Hid (le.map Ev.ev = openR n f (l.map Pp.pr)) := by
                  show _ = _
                  rw [HL.out, ER.out]
                  unfold openL
                  rw [← ETP.out, KE.out]
                go_wp2_with fail
                go_returns
                exact ⟨a1, k, c1, le, by rw [E.out]; rfl, HB.out, HE.out, FE.out⟩
end Go.Proofs.Ytjhkenmlaammnaa
