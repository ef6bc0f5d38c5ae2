/- What the document's Chosen returns. No condition. -/
import Derived.Test.YtjhkenmlaammnaaChoRefNext
import Derived.Test.YtjhkenmlaammnaaChoChose
import Derived.Test.YtjhkenmlaammnaaChoSame
namespace Go.Proofs.Ytjhkenmlaammnaa
open Go.ChangeShapes Go.WideShapes Go.ChangeAt Go.RowKit Go.Shelf B8 Am Cz
set_option linter.unusedVariables false

theorem flat_snoc (l : List Pp) (p : Pp) : ((l ++ [p]).map Pp.pr).flatMap (·.vs) = (l.map Pp.pr).flatMap (·.vs) ++ p.l.map Vv.vt := by simp [Pp.pr]
set_option maxRecDepth 100000 in
set_option maxHeartbeats 8000000 in
theorem rchosen_any {w : World} {a : Option Addr} {m c : Nat} {l : List Pp} (h : Ps w a m l) (n : Int) :
    Calls Try.prog 11 #[.int .i64 n, .slice a m c] w (ChosenP w n (l.map Pp.pr)) := by
  have H := hide h
  have rm := h.room
  clear h
  cases hr : rightB n (l.map Pp.pr) with
  | false =>
    have E : Hid (chosenL n (l.map Pp.pr) = []) := by show _ = _; unfold chosenL; rw [hr]; simp
    have CR := hide (rright_lit (c := c) H.out hr)
    clear hr
    go_enter Try.func11, Try.ntmps11
    go_wp2_with fail
    refine CR.out.mono ?_
    rintro e w1 ⟨rfl, hb1⟩
    have B1 := hide hb1
    clear hb1
    go_wp2_with fail
    go_ret
    exact ⟨none, 0, 0, [], rfl, B1.out, es_nil _ _, by rw [E.out]; rfl⟩
  | true =>
    have CR := hide (rright_lit (c := c) H.out hr)
    have HR := hide hr
    have hn := (right_iff.1 hr).1
    have EC : Hid (chosenL n (l.map Pp.pr) = (keysV (l.map Pp.pr)).filterMap (chosenAt n (l.map Pp.pr))) := by show _ = _; unfold chosenL; rw [hr]; simp
    have KB : Hid (∀ s ∈ keysV (l.map Pp.pr), 1 ≤ s ∧ s ≤ 1099511627776) := fun s hs => by
      obtain ⟨v, hv, rfl⟩ := mem_keys.1 hs
      have := all_ok hr hv
      exact ⟨this.1, this.2.1⟩
    have KL : Hid ((keysV (l.map Pp.pr)).length ≤ 80) := by
      have nd : (keysV (l.map Pp.pr)).Nodup := (keys_sorted _).imp (fun {a b} h e => by omega)
      have h1 := nodup_len nd (b := (all (l.map Pp.pr)).map (·.s)) (fun x hx => by
        obtain ⟨v, hv, rfl⟩ := mem_keys.1 hx
        exact List.mem_map.2 ⟨v, hv, rfl⟩)
      rw [List.length_map] at h1
      exact Nat.le_trans h1 (all_len hr)
    have LKB : Hid (∀ j, 0 ≤ lastK (keysV (l.map Pp.pr)) j ∧ lastK (keysV (l.map Pp.pr)) j ≤ 1099511627776) := fun j => by
      cases j with
      | zero => simp [lastK]
      | succ j =>
        by_cases hj : j < (keysV (l.map Pp.pr)).length
        · have := KB.out _ (List.getElem_mem hj)
          simp only [lastK, List.getElem?_eq_getElem hj, Option.getD_some]
          omega
        · simp [lastK, List.getElem?_eq_none (Nat.le_of_not_lt hj)]
    have VS : Hid (∀ p ∈ l, ∀ v ∈ p.l, (1 ≤ v.s ∧ v.s ≤ 1099511627776) ∧ 1 ≤ v.r) := fun p hp v hv => by
      have h1 := (vote_mem ((right_iff.1 HR.out).2.1 p.pr (List.mem_map.2 ⟨p, hp, rfl⟩))).2.2 v.vt (List.mem_map.2 ⟨v, hv, rfl⟩)
      exact ⟨⟨h1.1, h1.2.1⟩, (of_decide_eq_true h1.2.2).2.2⟩
    clear hr
    obtain ⟨ky, eky⟩ : ∃ ky, ky = keysV (l.map Pp.pr) := ⟨_, rfl⟩
    rw [← eky] at EC KB KL LKB
    have EKY := hide eky
    clear eky
    go_enter Try.func11, Try.ntmps11
    go_wp2_with fail
    refine CR.out.mono ?_
    rintro e w1 ⟨rfl, hb1⟩
    have B1 := hide hb1
    clear hb1 CR
    go_wp2_with fail
    go_loopw [5, 6, 7, 8, 9, 10, 11, 12, 13, 14, 15, 16] (fun o la _ _ _ _ _ _ _ _ _ _ wr => ∃ (j : Nat) (a1 : Option Addr) (m1 c1 : Nat) (le : List Ev), j ≤ ky.length ∧ la = .int .i64 (lastK ky j) ∧ o = .slice a1 m1 c1 ∧ m1 ≤ j ∧ Hid (Below w.heap.size w wr) ∧ Hid (Es wr w.heap.size a1 m1 c1 le) ∧ Hid (le.map Ev.ev = (ky.take j).filterMap (chosenAt n (l.map Pp.pr)))) (fun _ la _ _ _ _ _ _ _ _ _ _ _ => (1099511627777 - intOf la).toNat)
    case atStart => exact ⟨0, none, 0, 0, [], Nat.zero_le _, rfl, rfl, Nat.le_refl _, B1, es_nil _ _, rfl⟩
    case round =>
      obtain ⟨j, a1, m1, c1, le, hj, rfl, rfl, hm1, HB, HE, HL⟩ := hrel
      have lb := LKB.out j
      have kl := KL.out
      obtain ⟨la, ela⟩ : ∃ la, la = lastK ky j := ⟨_, rfl⟩
      rw [← ela] at lb ⊢
      have ELA := hide ela
      clear ela B1
      go_wp2_with fail
      go_loopw [7, 8, 9, 10] (fun sv iv _ _ wr' => ∃ (i : Nat) (t : Int), i ≤ m ∧ iv = .int .i64 i ∧ sv = .int .i64 t ∧ Hid (wr' = wr) ∧ Hid (NxP la t (((l.take i).map Pp.pr).flatMap (·.vs)))) (fun _ iv _ _ _ => m - (intOf iv).toNat)
      case atStart => exact ⟨0, 0, Nat.zero_le _, rfl, rfl, rfl, .inl ⟨rfl, fun v hv => absurd hv (by simp)⟩⟩
      case round =>
        obtain ⟨i, t, hi, rfl, rfl, HW, HX⟩ := hrel
        obtain rfl := HW.out
        clear HW
        by_cases hli : i < m
        · obtain ⟨b, off, p, rfl, hb, hp, hpl, d0, d1⟩ := (H.out.below HB.out).at hli
          have VP := hide ((H.out.below HB.out).each p hpl).1
          have PV := hide (VS.out p hpl)
          have FS : Hid (((l.take (i + 1)).map Pp.pr).flatMap (·.vs) = ((l.take i).map Pp.pr).flatMap (·.vs) ++ p.l.map Vv.vt) := by show _ = _; rw [take_snoc hp]; exact flat_snoc _ _
          have i1 : (i : Int) < (m : Int) := by omega
          have i2 : (0 : Int) ≤ (i : Int) := by omega
          have rv := VP.out.room
          clear hp hpl hb d0
          generalize ((l.take i).map Pp.pr).flatMap (·.vs) = fl at *
          go_wp2_with fail
          go_loopw [7, 9, 10] (fun sv kv _ wr' => ∃ (k : Nat) (t : Int), k ≤ p.m ∧ kv = .int .i64 k ∧ sv = .int .i64 t ∧ Hid (wr' = wr) ∧ Hid (NxP la t (fl ++ (p.l.take k).map Vv.vt))) (fun _ kv _ _ => p.m - (intOf kv).toNat)
          case atStart => exact ⟨0, t, Nat.zero_le _, rfl, rfl, rfl, by show NxP _ _ _; simpa using HX.out⟩
          case round =>
            clear HX
            obtain ⟨k, t, hk, rfl, rfl, HW, HX⟩ := hrel
            obtain rfl := HW.out
            clear HW
            by_cases hlk : k < p.m
            · obtain ⟨b', off', v, e', hb', hv, hvl, x0, _, _, _⟩ := VP.out.at hlk
              have vb := (PV.out v hvl).1
              have ST : Hid (NxP la (nx la t v.s) (fl ++ (p.l.take (k + 1)).map Vv.vt)) := by
                have h1 := nx_step HX.out (v := v.vt) vb.1
                rw [take_snoc hv, List.map_append, ← List.append_assoc]
                exact h1
              have k1 : (k : Int) < (p.m : Int) := by omega
              have k2 : (0 : Int) ≤ (k : Int) := by omega
              rw [e'] at d1
              clear hb' hv hvl e'
              by_cases q1 : la < v.s
              · by_cases q2 : t = 0
                · subst q2
                  have EN : Hid (nx la 0 v.s = v.s) := if_pos ⟨q1, .inl rfl⟩
                  go_wp2_with fail
                  go_roundw
                  case rel => exact ⟨k + 1, nx la 0 v.s, by omega, by go_num, by rw [EN.out], trivial, ST⟩
                  case measure => simp [intOf]; omega
                · have x2 : (t == 0) = false := by simpa using q2
                  by_cases q3 : v.s < t
                  · have EN : Hid (nx la t v.s = v.s) := if_pos ⟨q1, .inr q3⟩
                    clear q2
                    go_wp2_with fail
                    go_roundw
                    case rel => exact ⟨k + 1, nx la t v.s, by omega, by go_num, by rw [EN.out], trivial, ST⟩
                    case measure => simp [intOf]; omega
                  · have EN : Hid (nx la t v.s = t) := if_neg (fun x => by rcases x.2 with x | x <;> omega)
                    clear q2
                    go_wp2_with fail
                    go_roundw
                    case rel => exact ⟨k + 1, nx la t v.s, by omega, by go_num, by rw [EN.out], trivial, ST⟩
                    case measure => simp [intOf]; omega
              · have EN : Hid (nx la t v.s = t) := if_neg (fun x => q1 x.1)
                go_wp2_with fail
                go_roundw
                case rel => exact ⟨k + 1, nx la t v.s, by omega, by go_num, by rw [EN.out], trivial, ST⟩
                case measure => simp [intOf]; omega
            · obtain rfl : k = p.m := by omega
              have X2 : Hid (NxP la t (((l.take (i + 1)).map Pp.pr).flatMap (·.vs))) := by
                rw [FS.out]
                have h1 := HX.out
                rw [List.take_of_length_le (by rw [VP.out.len]; exact Nat.le_refl _)] at h1
                exact h1
              go_wp2_with fail
              go_roundw
              case rel => exact ⟨i + 1, t, by omega, by go_num, rfl, trivial, X2⟩
              case measure => simp [intOf]; omega
        · obtain rfl : i = m := by omega
          have NK : Hid ((ky[j]? = some t ∧ 1 ≤ t ∧ la < t) ∨ (t = 0 ∧ ky.length = j)) := by
            have h1 := HX.out
            rw [List.take_of_length_le (by rw [H.out.len]; exact Nat.le_refl _), ELA.out, EKY.out] at h1
            have h2 := next_key HR.out (by rw [← EKY.out]; exact hj) h1
            rw [← EKY.out, ← ELA.out] at h2
            exact h2
          clear HX
          rcases NK.out with ⟨hky, ht1, hlt⟩ | ⟨rfl, hlen⟩
          · have x0 : (t == 0) = false := by simp; omega
            have tb := KB.out t (List.mem_of_getElem? hky)
            have HKY := hide hky
            have CF := hide (for_any (c := c) (H.out.below HB.out) HR.out t)
            have LKN := hide (lastK_next hky)
            clear hky NK
            go_wp2_with fail
            refine CF.out.mono ?_
            rintro e w4 ⟨ac, mc, cc, cl, rfl, hb4, hcs, hcl, hmc⟩
            have B4 := hide (below_step HB.out hb4)
            have E4 := hide (HE.out.below hb4)
            have CS := hide hcs
            have LEN := hide hcs.len
            have CL := hide hcl
            clear hb4 hcs hcl CF HB HE
            obtain ⟨u, eu⟩ : ∃ u, u = (w4.alloc (.cells #[.int .i64 0, .int .i64 0] 43)).alloc (.cells #[.int .i64 t, .slice none 0 0] 39) := ⟨_, rfl⟩
            have BU : Hid (Below w4.heap.size w4 u) := by rw [eu]; exact below_alloc (below_alloc (Below.refl _ _) _) _
            have RU : Hid (Rb u w4.heap.size (w4.heap.size + 1) w4.heap.size t none ⟨t, none, 0, 0, []⟩) := by
              rw [eu]
              refine ⟨?_, ?_, ⟨⟨wfs_nil, rfl, by show 0 ≤ _; omega⟩, World.ownsRow_nil _ _ _ _⟩, rfl, rfl⟩
              · have := heap_alloc_new (w4.alloc (.cells #[.int .i64 0, .int .i64 0] 43)) (.cells #[.int .i64 t, .slice none 0 0] 39)
                simpa using this
              · rw [Below.heap_alloc _ _ _ (by simp)]
                exact heap_alloc_new w4 _
            obtain ⟨fl, efl⟩ : ∃ fl, fl = cl.map Ca.v := ⟨_, rfl⟩
            have FLN : Hid (fl.length = mc) := by show _ = _; rw [efl, List.length_map]; exact LEN.out
            have EFL := hide efl
            have EU := hide eu
            clear eu efl
            go_upto_region 21 with fail
            rw [← EU.out]
            clear EU
            go_wp2_with fail
            go_loopw [14, 15, 16] (fun iv _ _ wr => ∃ (i : Nat) (cur : Option Vv) (ev : Ev), i ≤ mc ∧ iv = .int .i64 i ∧ Hid (Below w4.heap.size w4 wr) ∧ Hid (Rb wr w4.heap.size (w4.heap.size + 1) w4.heap.size t cur ev) ∧ Hid (((fl.take i).filter (fun v => decide (n / 2 + 1 ≤ (aliN (fl.map Vv.vt) v.vt : Int)))).foldl pickP none = cur)) (fun iv _ _ _ => mc - (intOf iv).toNat)
            case atStart => exact ⟨0, none, _, Nat.zero_le _, rfl, BU, RU, rfl⟩
            case round =>
              clear BU RU
              obtain ⟨i, cur, ev, hi, rfl, HB, HRB, HF⟩ := hrel
              by_cases hli : i < mc
              · obtain ⟨b, p, rfl, hp, hpl, hblt, c0, c1', c2, c3⟩ := CS.out.at hli
                have i1 : (i : Int) < (mc : Int) := by omega
                have i2 : (0 : Int) ≤ (i : Int) := by omega
                have HP : Hid (fl[i]? = some p.v) := by show _ = _; rw [EFL.out]; simp [hp]
                have PM : Hid (p.v ∈ forP l t) := by rw [← CL.out]; exact List.mem_map.2 ⟨p, hpl, rfl⟩
                have PQ : Hid ((Sq w p.v.a p.v.m p.v.cp p.v.b ∧ p.v.m ≤ 140737488351232) ∧ 1 ≤ p.v.r) := by
                  obtain ⟨_, q, hq, hv⟩ := forP_mem PM.out
                  exact ⟨(H.out.each q hq).1.each p.v hv, (VS.out q hq p.v hv).2⟩
                have C1 := hide c1'
                have C2 := hide c2
                have C3 := hide c3
                have BL := hide hblt
                clear hp hpl hblt c0 c1' c2 c3
                obtain ⟨wv, ewv⟩ : ∃ wv, wv = wr := ⟨_, rfl⟩
                rw [← ewv] at HB HRB ⊢
                clear ewv
                have BT := hide (back_take (q := n / 2 + 1) HP.out HF.out)
                go_wp2_with fail
                go_loopw [15, 16] (fun nv kv wr' => ∃ (k : Nat), k ≤ mc ∧ kv = .int .i64 k ∧ nv = .int .i64 ((((fl.take k).map Vv.vt).filter (likeB p.v.vt)).length : Int) ∧ Hid (Below wv.heap.size wv wr')) (fun _ kv _ => mc - (intOf kv).toNat)
                case atStart => exact ⟨0, Nat.zero_le _, rfl, rfl, Below.refl _ _⟩
                case round =>
                  obtain ⟨k, hk, rfl, rfl, HBK⟩ := hrel
                  have BW := hide (below_step HB.out HBK.out)
                  by_cases hlk : k < mc
                  · obtain ⟨b2, q, eb, hq, hql, _, _, y1, y2, y3⟩ := CS.out.at hlk
                    obtain rfl : b = b2 := by simpa using eb
                    have k1 : (k : Int) < (mc : Int) := by omega
                    have k2 : (0 : Int) ≤ (k : Int) := by omega
                    have HQ : fl[k]? = some q.v := by rw [EFL.out]; simp [hq]
                    have SN : Hid ((((fl.take (k + 1)).map Vv.vt).filter (likeB p.v.vt)).length = (((fl.take k).map Vv.vt).filter (likeB p.v.vt)).length + (if likeB p.v.vt q.v.vt = true then 1 else 0)) := by
                      show _ = _
                      rw [take_snoc HQ, List.map_append]
                      exact ali_snoc _ _ _
                    have SB : (((fl.take k).map Vv.vt).filter (likeB p.v.vt)).length ≤ k := by
                      have h1 := List.length_filter_le (likeB p.v.vt) ((fl.take k).map Vv.vt)
                      rw [List.length_map, List.length_take] at h1
                      omega
                    have QQ : Hid (Sq w q.v.a q.v.m q.v.cp q.v.b ∧ q.v.m ≤ 140737488351232) := by
                      obtain ⟨_, z, hz, hv⟩ := forP_mem (l := l) (s := t) (v := q.v) (by rw [← CL.out]; exact List.mem_map.2 ⟨q, hql, rfl⟩)
                      exact (H.out.each z hz).1.each q.v hv
                    have S0 : Hid (∀ (x : Bool) (e : decide (q.v.b = p.v.b) = x) (y : World), Below wv.heap.size wv y → Calls Try.prog 18 #[.slice q.v.a q.v.m q.v.cp, .slice p.v.a p.v.m p.v.cp] y fun e w' => e = .returned (.bool x) ∧ Below y.heap.size y w') := fun x e y hy => bytes_lit (QQ.out.1.below (below_step B4.out (below_step HB.out hy))) (PQ.out.1.1.below (below_step B4.out (below_step HB.out hy))) (by have := QQ.out.2; omega) e
                    have z1 := (BW.out.cell (p := ⟨b, k * 5 + 2, none⟩) BL.out).trans y1
                    have z2 := (BW.out.cell (p := ⟨b, k * 5 + 3, none⟩) BL.out).trans y2
                    have z3 := (BW.out.cell (p := ⟨b, k * 5 + 4, none⟩) BL.out).trans y3
                    have p1 := (BW.out.cell (p := ⟨b, i * 5 + 2, none⟩) BL.out).trans C1.out
                    have p2 := (BW.out.cell (p := ⟨b, i * 5 + 3, none⟩) BL.out).trans C2.out
                    have p3 := (BW.out.cell (p := ⟨b, i * 5 + 4, none⟩) BL.out).trans C3.out
                    generalize (((fl.take k).map Vv.vt).filter (likeB p.v.vt)).length = cnt at *
                    obtain ⟨qnd, ⟨qs, qr, qn, qa, qm, qcp, qb⟩⟩ := q
                    simp only at *
                    clear eb hq hql y1 y2 y3 HQ QQ
                    go_wp2_with fail
                    by_cases e1 : qr = p.v.r
                    · by_cases e2 : qn = p.v.n
                      · subst e1
                        subst e2
                        by_cases e3 : qb = p.v.b
                        · have LK : Hid (likeB p.v.vt (Vv.vt ⟨qs, p.v.r, p.v.n, qa, qm, qcp, qb⟩) = true) := decide_eq_true ⟨rfl, rfl, e3⟩
                          have S1 := hide (S0.out true (decide_eq_true e3))
                          clear S0 e3
                          refine wp_region_cells wv [(⟨b, k * 5 + 2, none⟩, .int .i64 p.v.r), (⟨b, k * 5 + 3, none⟩, .int .i64 p.v.n), (⟨b, k * 5 + 4, none⟩, .slice qa qm qcp), (⟨b, i * 5 + 2, none⟩, .int .i64 p.v.r), (⟨b, i * 5 + 3, none⟩, .int .i64 p.v.n), (⟨b, i * 5 + 4, none⟩, .slice p.v.a p.v.m p.v.cp)] (by kernel_rfl) (by kernel_rfl) HBK.out (by simp [AllCells, z1, z2, z3, p1, p2, p3]) ?_
                          intro hne qq
                          simp only [AllCells, and_true] at qq
                          clear z1 z2 z3 p1 p2 p3
                          repeat (go_big_quiet_step (first | (go_at_call 18; exact Held.call _ (S1.out _ (Held.below _)))))
                          refine wpQuiet_nil ?_
                          rintro _ ⟨y, rfl⟩
                          have BQ : Hid (Below wv.heap.size wv y.x) := y.below
                          clear qq hne S1
                          go_wp2_with fail
                          go_roundw
                          case rel => exact ⟨k + 1, by omega, by go_num, by rw [SN.out, if_pos LK.out]; go_num, BQ⟩
                          case measure => simp [intOf]; omega
                        · have LK : Hid (¬ likeB p.v.vt (Vv.vt ⟨qs, p.v.r, p.v.n, qa, qm, qcp, qb⟩) = true) := fun h => e3 (of_decide_eq_true h).2.2
                          have S1 := hide (S0.out false (decide_eq_false e3))
                          clear S0 e3
                          refine wp_region_cells wv [(⟨b, k * 5 + 2, none⟩, .int .i64 p.v.r), (⟨b, k * 5 + 3, none⟩, .int .i64 p.v.n), (⟨b, k * 5 + 4, none⟩, .slice qa qm qcp), (⟨b, i * 5 + 2, none⟩, .int .i64 p.v.r), (⟨b, i * 5 + 3, none⟩, .int .i64 p.v.n), (⟨b, i * 5 + 4, none⟩, .slice p.v.a p.v.m p.v.cp)] (by kernel_rfl) (by kernel_rfl) HBK.out (by simp [AllCells, z1, z2, z3, p1, p2, p3]) ?_
                          intro hne qq
                          simp only [AllCells, and_true] at qq
                          clear z1 z2 z3 p1 p2 p3
                          repeat (go_big_quiet_step (first | (go_at_call 18; exact Held.call _ (S1.out _ (Held.below _)))))
                          refine wpQuiet_nil ?_
                          rintro _ ⟨y, rfl⟩
                          have BQ : Hid (Below wv.heap.size wv y.x) := y.below
                          clear qq hne S1
                          go_wp2_with fail
                          go_roundw
                          case rel => exact ⟨k + 1, by omega, by go_num, by rw [SN.out, if_neg LK.out]; rfl, BQ⟩
                          case measure => simp [intOf]; omega
                      · subst e1
                        have x2 : (qn == p.v.n) = false := by simpa using e2
                        have x3 : decide (qn = p.v.n) = false := decide_eq_false e2
                        have x4 : (qn = p.v.n) = False := by simpa using e2
                        have LK : Hid (¬ likeB p.v.vt (Vv.vt ⟨qs, p.v.r, qn, qa, qm, qcp, qb⟩) = true) := fun h => e2 (of_decide_eq_true h).2.1
                        clear e2 S0
                        refine wp_region_cells wv [(⟨b, k * 5 + 2, none⟩, .int .i64 p.v.r), (⟨b, k * 5 + 3, none⟩, .int .i64 qn), (⟨b, k * 5 + 4, none⟩, .slice qa qm qcp), (⟨b, i * 5 + 2, none⟩, .int .i64 p.v.r), (⟨b, i * 5 + 3, none⟩, .int .i64 p.v.n), (⟨b, i * 5 + 4, none⟩, .slice p.v.a p.v.m p.v.cp)] (by kernel_rfl) (by kernel_rfl) HBK.out (by simp [AllCells, z1, z2, z3, p1, p2, p3]) ?_
                        intro hne qq
                        simp only [AllCells, and_true] at qq
                        clear z1 z2 z3 p1 p2 p3
                        repeat (go_big_quiet_step (fail))
                        refine wpQuiet_nil ?_
                        rintro _ ⟨y, rfl⟩
                        have BQ : Hid (Below wv.heap.size wv y.x) := y.below
                        clear qq hne
                        go_wp2_with fail
                        go_roundw
                        case rel => exact ⟨k + 1, by omega, by go_num, by rw [SN.out, if_neg LK.out]; rfl, BQ⟩
                        case measure => simp [intOf]; omega
                    · have x2 : (qr == p.v.r) = false := by simpa using e1
                      have x3 : decide (qr = p.v.r) = false := decide_eq_false e1
                      have x4 : (qr = p.v.r) = False := by simpa using e1
                      have LK : Hid (¬ likeB p.v.vt (Vv.vt ⟨qs, qr, qn, qa, qm, qcp, qb⟩) = true) := fun h => e1 (of_decide_eq_true h).1
                      clear e1 S0
                      refine wp_region_cells wv [(⟨b, k * 5 + 2, none⟩, .int .i64 qr), (⟨b, k * 5 + 3, none⟩, .int .i64 qn), (⟨b, k * 5 + 4, none⟩, .slice qa qm qcp), (⟨b, i * 5 + 2, none⟩, .int .i64 p.v.r), (⟨b, i * 5 + 3, none⟩, .int .i64 p.v.n), (⟨b, i * 5 + 4, none⟩, .slice p.v.a p.v.m p.v.cp)] (by kernel_rfl) (by kernel_rfl) HBK.out (by simp [AllCells, z1, z2, z3, p1, p2, p3]) ?_
                      intro hne qq
                      simp only [AllCells, and_true] at qq
                      clear z1 z2 z3 p1 p2 p3
                      repeat (go_big_quiet_step (fail))
                      refine wpQuiet_nil ?_
                      rintro _ ⟨y, rfl⟩
                      have BQ : Hid (Below wv.heap.size wv y.x) := y.below
                      clear qq hne
                      go_wp2_with fail
                      go_roundw
                      case rel => exact ⟨k + 1, by omega, by go_num, by rw [SN.out, if_neg LK.out]; rfl, BQ⟩
                      case measure => simp [intOf]; omega
                  · obtain rfl : k = mc := by omega
                    have CNT : Hid ((((fl.take k).map Vv.vt).filter (likeB p.v.vt)).length = aliN (fl.map Vv.vt) p.v.vt) := by
                      show _ = _
                      rw [List.take_of_length_le (by rw [FLN.out]; exact Nat.le_refl _)]
                      rfl
                    rw [CNT.out]
                    have CB : aliN (fl.map Vv.vt) p.v.vt ≤ 80 := by
                      have h1 := List.length_filter_le (likeB p.v.vt) (fl.map Vv.vt)
                      rw [List.length_map, FLN.out] at h1
                      rw [ali_eq]
                      omega
                    generalize aliN (fl.map Vv.vt) p.v.vt = cnt at *
                    clear CNT
                    have R5 := hide (HRB.out.below HBK.out)
                    by_cases hQ : n / 2 + 1 ≤ (cnt : Int)
                    · rw [if_pos hQ] at BT
                      have p1 := (BW.out.cell (p := ⟨b, i * 5 + 2, none⟩) BL.out).trans C1.out
                      have p2 := (BW.out.cell (p := ⟨b, i * 5 + 3, none⟩) BL.out).trans C2.out
                      have P3 := hide ((BW.out.cell (p := ⟨b, i * 5 + 4, none⟩) BL.out).trans C3.out)
                      have BL2 : Hid (b < wr.heap.size) := Nat.lt_of_lt_of_le BL.out BW.out.size
                      have g1 : n < 2 * (cnt : Int) := by omega
                      have g2 : decide (n < 2 * (cnt : Int)) = true := decide_eq_true g1
                      obtain ⟨_, _, t2', t3', _, _⟩ := R5.out.facts
                      have LB : Hid (lessB (cur.getD dvv).r (cur.getD dvv).n p.v.r p.v.n = true → pickP cur p.v = some p.v) := fun h => by
                        cases cur with
                        | none => rfl
                        | some x => simp only [Option.getD_some] at h; simp [pickP, h]
                      have LB2 : Hid (lessB (cur.getD dvv).r (cur.getD dvv).n p.v.r p.v.n = false → pickP cur p.v = cur) := fun h => by
                        cases cur with
                        | none =>
                          have h2 := PQ.out.2
                          have h3 : lessB 0 0 p.v.r p.v.n = false := h
                          rw [lessB_true (.inl (by omega))] at h3
                          cases h3
                        | some x => simp only [Option.getD_some] at h; simp [pickP, h]
                      obtain ⟨cr, cn, ecr, ecn⟩ : ∃ cr cn, cr = (cur.getD dvv).r ∧ cn = (cur.getD dvv).n := ⟨_, _, rfl, rfl⟩
                      rw [← ecr, ← ecn] at LB LB2
                      rw [← ecr] at t2'
                      rw [← ecn] at t3'
                      have nb1 : b ≠ w4.heap.size + 1 := by have := BL.out; omega
                      have nb2 : b ≠ w4.heap.size := by have := BL.out; omega
                      clear ecr ecn
                      go_wp2_with fail
                      cases hl : lessB cr cn p.v.r p.v.n with
                      | false =>
                        have S1 : Hid (∀ y : World, Below wv.heap.size wv y → Calls Try.prog 34 #[.agg #[.int .i64 cr, .int .i64 cn], .agg #[.int .i64 p.v.r, .int .i64 p.v.n]] y fun e w' => e = .returned (.bool false) ∧ Below y.heap.size y w') := fun y _ => rless_litc hl y
                        refine wp_region_cells wv [(⟨w4.heap.size, 0, none⟩, .int .i64 cr), (⟨w4.heap.size, 1, none⟩, .int .i64 cn), (⟨b, i * 5 + 2, none⟩, .int .i64 p.v.r), (⟨b, i * 5 + 3, none⟩, .int .i64 p.v.n)] (by kernel_rfl) (by kernel_rfl) HBK.out (by simp [AllCells, t2', t3', p1, p2]) ?_
                        intro hne qq
                        simp only [AllCells, and_true] at qq
                        clear t2' t3' p1 p2
                        repeat (go_big_quiet_step (first | (go_at_call 34; exact Held.call _ (S1.out _ (Held.below _)))))
                        refine wpQuiet_nil ?_
                        rintro _ ⟨y, rfl⟩
                        have BQ : Hid (Below wv.heap.size wv y.x) := y.below
                        clear qq hne S1
                        have B6 := hide (below_step HB.out BQ.out)
                        have R6 := hide (HRB.out.below BQ.out)
                        have F6 : Hid (((fl.take (i + 1)).filter (fun v => decide (n / 2 + 1 ≤ (aliN (fl.map Vv.vt) v.vt : Int)))).foldl pickP none = cur) := by show _ = _; rw [BT.out, LB2.out hl]
                        go_wp2_with fail
                        go_roundw
                        case rel => exact ⟨i + 1, cur, ev, by omega, by go_num, B6, R6, F6⟩
                        case measure => simp [intOf]; omega
                      | true =>
                        have S1 : Hid (∀ y : World, Below wv.heap.size wv y → Calls Try.prog 34 #[.agg #[.int .i64 cr, .int .i64 cn], .agg #[.int .i64 p.v.r, .int .i64 p.v.n]] y fun e w' => e = .returned (.bool true) ∧ Below y.heap.size y w') := fun y _ => rless_litc hl y
                        refine wp_region_cells wv [(⟨w4.heap.size, 0, none⟩, .int .i64 cr), (⟨w4.heap.size, 1, none⟩, .int .i64 cn), (⟨b, i * 5 + 2, none⟩, .int .i64 p.v.r), (⟨b, i * 5 + 3, none⟩, .int .i64 p.v.n)] (by kernel_rfl) (by kernel_rfl) HBK.out (by simp [AllCells, t2', t3', p1, p2]) ?_
                        intro hne qq
                        simp only [AllCells, and_true] at qq
                        clear t2' t3' p1 p2
                        repeat (go_big_quiet_step (first | (go_at_call 34; exact Held.call _ (S1.out _ (Held.below _)))))
                        refine wpQuiet_nil ?_
                        rintro _ ⟨y, rfl⟩
                        have BQ : Hid (Below wv.heap.size wv y.x) := y.below
                        clear qq hne S1
                        have B6 := hide (below_step HB.out BQ.out)
                        have R6 := hide (HRB.out.below BQ.out)
                        obtain ⟨w5, ew5⟩ : ∃ w5, w5 = y.x := ⟨_, rfl⟩
                        rw [← ew5] at B6 R6 ⊢
                        clear ew5
                        have F6 : Hid (((fl.take (i + 1)).filter (fun v => decide (n / 2 + 1 ≤ (aliN (fl.map Vv.vt) v.vt : Int)))).foldl pickP none = some p.v) := by show _ = _; rw [BT.out, LB.out hl]
                        have x4 := (B6.out.cell (p := ⟨b, i * 5 + 4, none⟩) BL.out).trans C3.out
                        have x2 := (B6.out.cell (p := ⟨b, i * 5 + 2, none⟩) BL.out).trans C1.out
                        have x3 := (B6.out.cell (p := ⟨b, i * 5 + 3, none⟩) BL.out).trans C2.out
                        have LE := hide R6.out.lts
                        obtain ⟨z0, z1, z2, z3, zf1, zf2⟩ := R6.out.facts
                        obtain ⟨u1, eu1⟩ : ∃ u1, u1 = (w5.setCell ⟨w4.heap.size, 0, none⟩ (.int .i64 p.v.r)).setCell ⟨w4.heap.size, 1, none⟩ (.int .i64 p.v.n) := ⟨_, rfl⟩
                        have SU1 : Hid (u1.heap.size = w5.heap.size) := by show _ = _; rw [eu1]; simp
                        have QU1 : Hid (Sq u1 p.v.a p.v.m p.v.cp p.v.b) := by
                          refine PQ.out.1.1.below ?_
                          rw [eu1]
                          have h0 := B4.out.size
                          exact ((below_step B4.out B6.out).setCell (p := ⟨w4.heap.size, 0, none⟩) (by show _ ≤ w4.heap.size; omega) _).setCell (p := ⟨w4.heap.size, 1, none⟩) (by show _ ≤ w4.heap.size; omega) _
                        have EU1 := hide eu1
                        have RE1 : Hid (u1.heap[w4.heap.size + 1]? = some (.cells #[.int .i64 t, .slice ev.a ev.m ev.cp] 39 (0, 0))) := by rw [eu1]; exact set_row (set_row R6.out.erow (by omega)) (by omega)
                        have v4 : u1.cell? ⟨b, i * 5 + 4, none⟩ = some (.slice p.v.a p.v.m p.v.cp) := by
                          rw [eu1]
                          refine (World.cell?_of_block (w := w5) (a := ⟨b, i * 5 + 4, none⟩) ?_).trans x4
                          rw [Below.heap_setCell _ _ _ _ (by simpa using nb2), Below.heap_setCell _ _ _ _ (by simpa using nb2)]
                        clear eu1 z0 z1
                        go_upto_region 32 with fail
                        rw [← EU1.out]
                        clear z2 z3 zf1 zf2 x4 x2 x3
                        go_wp2_with (at_builtin; refine wp_append_sq _ rfl _ _ rfl u1.heap.size (.slice none 0 0) 0 [] rfl (World.ownsRow_nil _ _ _ _) p.v.a p.v.m p.v.cp p.v.b rfl QU1.out (by have := PQ.out.1.2; omega) (Nat.le_refl _) ?_; intro v2 w6 ho2 hg2; simp only [Nat.zero_add, List.nil_append] at ho2; obtain ⟨a2, c2', rfl, hq2⟩ := sq_of_row PQ.out.1.1.length PQ.out.1.1.wf ho2; have O2 := hide ho2; have G2 := hide hg2; have RE2 : Hid (w6.heap[w4.heap.size + 1]? = some (.cells #[.int .i64 t, .slice ev.a ev.m ev.cp] 39 (0, 0))) := (hg2.block _ (by rw [SU1.out]; exact LE.out.1) (by simp [Value.ownBlock])).trans RE1.out; have y1 : w6.cell? ⟨w4.heap.size + 1, 1, none⟩ = some (.slice ev.a ev.m ev.cp) := by { rw [cell_of_row _ _ _ _ _ _ RE2.out]; rfl }; have yf : ∀ o, w6.frozen? ⟨w4.heap.size + 1, o, none⟩ = false := fun o => by { simp [World.frozen?, RE2.out] }; clear ho2 hg2 hq2)
                        have B7 : Hid (Below w5.heap.size ((w5.setCell ⟨w4.heap.size, 0, none⟩ (.int .i64 p.v.r)).setCell ⟨w4.heap.size, 1, none⟩ (.int .i64 p.v.n)) w6) := by
                          rw [← EU1.out, ← SU1.out]
                          exact (Below.refl _ _).grown G2.out (Nat.le_refl _) (fun j hj => by simp [Value.ownBlock] at hj)
                        have O3 : Hid (w6.ownsRow w5.heap.size 5 1 (.slice a2 p.v.m c2') p.v.m (B8.vals p.v.b)) := by rw [← SU1.out]; exact O2.out
                        obtain ⟨hR, hblk, hsz, hos, htape, hout⟩ := R6.out.take PQ.out.1.2 B6.out.size ⟨PQ.out.1.1.wf, PQ.out.1.1.length⟩ O3.out B7.out
                        have R8 := hide hR
                        have B8 : Hid (Below w4.heap.size w4 (w6.setCell ⟨w4.heap.size + 1, 1, none⟩ (.slice a2 p.v.m c2'))) := ⟨hos.trans B6.out.os, htape.trans B6.out.tape, hout.trans B6.out.output, by have := B6.out.size; simp; omega, fun k hk => (hblk k (by have := B6.out.size; omega) (by omega) (by omega)).trans (B6.out.block k hk)⟩
                        clear hR hblk hsz hos htape hout
                        go_roundw
                        case rel => exact ⟨i + 1, some p.v, _, by omega, by go_num, B8, R8, F6⟩
                        case measure => simp [intOf]; omega
                    · rw [if_neg hQ] at BT
                      have g1 : ¬ 2 * (cnt : Int) > n := by omega
                      have g2 : decide (2 * (cnt : Int) > n) = false := decide_eq_false g1
                      have g3 : decide (n < 2 * (cnt : Int)) = false := decide_eq_false g1
                      go_wp2_with fail
                      refine wp_region_cells wv [] (by kernel_rfl) (by kernel_rfl) HBK.out (by simp [AllCells]) ?_
                      intro hne qq
                      repeat (go_big_quiet_step (fail))
                      refine wpQuiet_nil ?_
                      rintro _ ⟨y, rfl⟩
                      have BQ : Hid (Below wv.heap.size wv y.x) := y.below
                      have B6 := hide (below_step HB.out BQ.out)
                      have R6 := hide (HRB.out.below BQ.out)
                      clear qq hne
                      go_wp2_with fail
                      go_roundw
                      case rel => exact ⟨i + 1, cur, ev, by omega, by go_num, B6, R6, BT⟩
                      case measure => simp [intOf]; omega
              · obtain rfl : i = mc := by omega
                have CA : Hid (chosenAt n (l.map Pp.pr) t = cur.map (fun v => (t, v.b))) := by
                  have h1 : fl.map Vv.vt = forV (l.map Pp.pr) t := by rw [EFL.out, CL.out, forP_vt]
                  have h2 := chosenAt_of (n := n) h1
                  show _ = _
                  rw [h2, ← HF.out, List.take_of_length_le (by rw [FLN.out]; exact Nat.le_refl _)]
                  rfl
                have CM : Hid (∀ v, cur = some v → 1 ≤ v.r) := fun v e => by
                  have h1 := HF.out
                  rw [e] at h1
                  have h2 := bestP_mem _ _ h1
                  rcases h2 with h2 | h2
                  · have h3 : v ∈ forP l t := by rw [← CL.out, ← EFL.out]; exact List.mem_of_mem_take (List.mem_filter.1 h2).1
                    obtain ⟨_, z, hz, hv⟩ := forP_mem h3
                    exact (VS.out z hz v hv).2
                  · cases h2
                have TS : Hid ((ky.take (j + 1)).filterMap (chosenAt n (l.map Pp.pr)) = (ky.take j).filterMap (chosenAt n (l.map Pp.pr)) ++ (match chosenAt n (l.map Pp.pr) t with | none => [] | some x => [x])) := by
                  show _ = _
                  rw [take_snoc HKY.out, List.filterMap_append]
                  cases hc : chosenAt n (l.map Pp.pr) t <;> simp [hc]
                rw [CA.out] at TS
                have BW := hide (below_step B4.out HB.out)
                have JL : Hid (j + 1 ≤ ky.length) := (List.getElem?_eq_some_iff.1 HKY.out).1
                have jl := JL.out
                obtain ⟨t0', t1', t2', t3', _, _⟩ := HRB.out.facts
                cases cur with
                | none =>
                  have L6 : Hid (le.map Ev.ev = (ky.take (j + 1)).filterMap (chosenAt n (l.map Pp.pr))) := by show _ = _; rw [TS.out, HL.out]; simp
                  have E6 := hide (E4.out.below HB.out)
                  simp only [Option.getD_none] at t2' t3'
                  have t4' : wr.cell? ⟨w4.heap.size, 0, none⟩ = some (.int .i64 0) := t2'
                  have t5' : wr.cell? ⟨w4.heap.size, 1, none⟩ = some (.int .i64 0) := t3'
                  clear t2' t3'
                  go_wp2_with fail
                  go_roundw
                  case rel => exact ⟨j + 1, a1, m1, c1, le, by omega, by rw [LKN.out], rfl, by omega, BW, E6, L6⟩
                  case measure => simp [intOf]; omega
                | some v =>
                  have vr := CM.out v rfl
                  simp only [Option.getD_some] at t2' t3'
                  have vr0 : (v.r == 0) = false := by simp; omega
                  obtain ⟨g, cp, w7, hr7, he7, hb7⟩ := es_add (E4.out.below HB.out) (by omega) BW.out.size (p := ev) (HRB.out.own.base B4.out.size) 24
                  rw [HRB.out.es] at hr7
                  have E7 := hide he7
                  have B7 := hide (BW.out.trans hb7)
                  have L7 : Hid ((le ++ [ev]).map Ev.ev = (ky.take (j + 1)).filterMap (chosenAt n (l.map Pp.pr))) := by
                    show _ = _
                    rw [TS.out, List.map_append, HL.out]
                    show _ ++ [(ev.s, ev.b)] = _
                    rw [HRB.out.es, HRB.out.eb]
                    rfl
                  clear he7 hb7
                  go_wp2_with (at_builtin; refine wp_append_run _ rfl _ _ 24 rfl _ _ hr7 ?_)
                  go_roundw
                  case rel => exact ⟨j + 1, _, m1 + 1, _, _, by omega, by rw [LKN.out], rfl, by omega, B7, E7, L7⟩
                  case measure => simp [intOf]; omega
          · subst hlen
            have FE : Hid (le.map Ev.ev = chosenL n (l.map Pp.pr)) := by
              show _ = _
              rw [HL.out, EC.out, List.take_of_length_le (Nat.le_refl _)]
            go_wp2_with fail
            go_ret
            exact ⟨a1, m1, c1, le, rfl, HB.out, HE.out, FE.out⟩
end Go.Proofs.Ytjhkenmlaammnaa
