/- ChooseKeeps: what is chosen by a majority's votes is what a new leader proposes, whoever's promises of a majority it has, as long as no vote of a greater ballot says otherwise: for every number of nodes, list of promises, and node that is left out. No condition. -/
import Derived.Test.YtjhkenmlaammnaaChoKeepMath
import Derived.Test.YtjhkenmlaammnaaChoFor
import Derived.Test.YtjhkenmlaammnaaChoRefBest
import Derived.Test.YtjhkenmlaammnaaChoChose
import Derived.Test.YtjhkenmlaammnaaChoAwake
import Derived.Test.YtjhkenmlaammnaaChoOwn
import Derived.Test.YtjhkenmlaammnaaChoSame
import Derived.Test.YtjhkenmlaammnaaChoLists
import Derived.Test.YtjhkenmlaammnaaBallotOpen
import Derived.BigQuiet
import Derived.Deep.CutRange
namespace Go.Proofs.Ytjhkenmlaammnaa
open Go.ChangeShapes Go.WideShapes Go.ChangeAt Go.RowKit Go.Shelf B8 Am Cz
set_option linter.unusedVariables false
namespace ChooseKeeps

theorem chosen_right {n : Int} {l : List Pr} {x : Int × List Int} (h : x ∈ chosenL n l) : rightB n l = true := by
  unfold chosenL at h
  split at h
  · assumption
  · simp at h
theorem chosen_slot {n : Int} {l : List Pr} {x : Int × List Int} (h : x ∈ chosenL n l) : 1 ≤ x.1 ∧ x.1 ≤ 1099511627776 := by
  have hr := chosen_right h
  unfold chosenL at h
  rw [if_pos hr] at h
  obtain ⟨s, hs, e⟩ := List.mem_filterMap.1 h
  obtain ⟨v, hv, rfl⟩ := mem_keys.1 hs
  have := all_ok hr hv
  unfold chosenAt at e
  split at e
  · cases e
  · cases e
    exact ⟨this.1, this.2.1⟩
theorem chosen_len {n : Int} {l : List Pr} : (chosenL n l).length ≤ 80 := by
  unfold chosenL
  split
  · rename_i hr
    have nd : (keysV l).Nodup := (keys_sorted _).imp (fun {a b} h e => by omega)
    have h1 := nodup_le nd (b := (all l).map (·.s)) (fun x hx => by
      obtain ⟨v, hv, rfl⟩ := mem_keys.1 hx
      exact List.mem_map.2 ⟨v, hv, rfl⟩)
    rw [List.length_map] at h1
    have h2 := List.length_filterMap_le (chosenAt n l) (keysV l)
    have := all_len hr
    omega
  · simp
theorem openR_len {n f : Int} {l : List Pr} : (openR n f l).length ≤ 1024 := by
  unfold openR
  split
  · rename_i h
    have := openE_right h
    unfold openL
    rw [List.length_map, List.length_range]
    omega
  · simp
theorem filter_pr (l : List Pp) (wo : Int) : (l.filter (fun p => decide (p.nd ≠ wo))).map Pp.pr = (l.map Pp.pr).filter (fun p => decide (p.nd ≠ wo)) := by
  rw [List.filter_map]
  rfl
/-- nothing of these is above v, and none of v's ballot has another value -/
def Quiet (fl : List Vv) (v : Vv) : Prop := ∀ u ∈ fl, lessB v.r v.n u.r u.n = false ∧ (u.r = v.r → u.n = v.n → u.b = v.b)
def cntB (fl : List Vv) (v : Vv) (cb : List Int) : Nat := (fl.filter (fun u => decide (u.r = v.r ∧ u.n = v.n ∧ u.b = cb))).length
theorem cnt_snoc (fl : List Vv) (v u : Vv) (cb : List Int) : cntB (fl ++ [u]) v cb = cntB fl v cb + (if u.r = v.r ∧ u.n = v.n ∧ u.b = cb then 1 else 0) := by
  unfold cntB
  rw [List.filter_append, List.length_append]
  by_cases h : u.r = v.r ∧ u.n = v.n ∧ u.b = cb
  · simp [h]
  · simp [h]
theorem keeps_at {n s wo : Int} {l : List Pp} (hr : rightB n (l.map Pp.pr) = true) (he : openE n 1 ((l.map Pp.pr).filter (fun p => decide (p.nd ≠ wo))) = 0) {v : Vv} (hq : Quiet (forP l s) v) {cb : List Int} (hc : n < 2 * (cntB (forP l s) v cb : Int)) :
    1 ≤ s ∧ (openR n 1 ((l.map Pp.pr).filter (fun p => decide (p.nd ≠ wo))))[(s - 1).toNat]? = some (s, cb) := by
  refine keeps hr he (v := v.vt) (fun u hu => ?_) (fun u hu h1 h2 => ?_) ?_
  · rw [← forP_vt] at hu
    obtain ⟨z, hz, rfl⟩ := List.mem_map.1 hu
    exact (hq z hz).1
  · rw [← forP_vt] at hu
    obtain ⟨z, hz, rfl⟩ := List.mem_map.1 hu
    exact (hq z hz).2 h1 h2
  · rw [← forP_vt, List.filter_map, List.length_map]
    exact hc
set_option maxRecDepth 100000 in
set_option maxHeartbeats 8000000 in
theorem walk {w : World} {a : Option Addr} {m c : Nat} {l : List Pp} (n wo : Int) (h : Ps w a m l) :
    Calls Try.prog 4 #[.int .i64 n, .slice a m c, .int .i64 wo] w fun e w' => e = .returned (.bool true) ∧ Below w.heap.size w w' := by
  have H := hide h
  have rm := h.room
  clear h
  go_enter Try.func4, Try.ntmps4
  go_wp2_with fail
  refine (awake_any w).mono ?_
  rintro e w0 ⟨rfl, hb0⟩
  have B0 := hide hb0
  clear hb0
  go_wp2_with fail
  refine (ownp_any (H.out.below B0.out)).mono ?_
  rintro e w1 ⟨a1, c1, l1, rfl, hb1, _, hp1, he1⟩
  have B1 := hide (below_step B0.out hb1)
  have P1 := hide hp1
  have L1 := hide he1
  clear hb1 hp1 he1
  go_wp2_with fail
  refine (chosen_any P1.out n).mono ?_
  rintro e w2 ⟨ah, mh, ch, lh, rfl, hb2, hh, hlh⟩
  rw [L1.out] at hlh
  have B2 := hide (below_step B1.out hb2)
  have X2 := hide hh
  have LH := hide hlh
  have MH : Hid (mh ≤ 80) := by show _ ≤ _; rw [← hh.len, ← List.length_map (f := Ev.ev), hlh]; exact chosen_len
  clear hb2 hh hlh P1
  go_wp2_with fail
  go_loopw [8, 9] (fun t iv wr => ∃ (i : Nat) (az : Option Addr) (ms cs : Nat), i ≤ m ∧ iv = .int .i64 i ∧ t = .slice az ms cs ∧ ms ≤ i ∧ Hid (Below w2.heap.size w2 wr) ∧ Hid (((l.take i).filter (fun p => decide (p.nd ≠ wo))).length = ms) ∧ Hid (wr.ownsRow w2.heap.size 36 2 (.slice az ms cs) ms (pcells ((l.take i).filter (fun p => decide (p.nd ≠ wo)))))) (fun _ iv _ => m - (intOf iv).toNat)
  case atStart => exact ⟨0, none, 0, 0, Nat.zero_le _, rfl, rfl, Nat.le_refl _, Below.refl _ _, rfl, World.ownsRow_nil _ _ _ _⟩
  case round =>
    obtain ⟨i, az, ms, cs, hi, rfl, rfl, hms, HB, HLN, HR⟩ := hrel
    by_cases hlt : i < m
    · obtain ⟨b, off, p, rfl, hb, hp, hpl, d0, d1⟩ := (H.out.below (below_step B2.out HB.out)).at hlt
      have i1 : (i : Int) < (m : Int) := by omega
      have i2 : (0 : Int) ≤ (i : Int) := by omega
      have TS : Hid ((l.take (i + 1)).filter (fun p => decide (p.nd ≠ wo)) = (l.take i).filter (fun p => decide (p.nd ≠ wo)) ++ (if p.nd ≠ wo then [p] else [])) := by
        show _ = _
        rw [take_snoc hp, List.filter_append]
        by_cases hq : p.nd = wo
        · simp [hq]
        · simp [hq]
      clear hp hpl hb
      by_cases hw : p.nd = wo
      · rw [if_neg (fun h => h hw), List.append_nil] at TS
        rw [hw] at d0
        rw [← TS.out] at HLN HR
        go_wp2_with fail
        go_roundw
        case rel => exact ⟨i + 1, _, ms, _, by omega, by go_num, rfl, by omega, HB, HLN, HR⟩
        case measure => simp [intOf]; omega
      · rw [if_pos hw] at TS
        have x1 : (p.nd != wo) = true := by simpa using hw
        have x2 : (p.nd == wo) = false := by simpa using hw
        obtain ⟨i0, hi0, hz0, hz1, hz2⟩ := info_parts prominfo
        obtain ⟨g, cp, w3, hr3, ho3, hc3, hb3, _⟩ := row_add (ty := 22) Try.underlying22 hi0 hz0 hz1 hz2 rfl (by omega) HR.out #[.int .i64 p.nd, .slice p.a p.m p.c] rfl (fun u hu => by simp at hu; rcases hu with rfl | rfl <;> rfl) (by omega) (by omega) HB.out.size
        have R3 : Hid (w3.ownsRow w2.heap.size 36 2 (.slice (some ⟨g, 0, none⟩) (ms + 1) cp) (ms + 1) (pcells ((l.take (i + 1)).filter (fun p => decide (p.nd ≠ wo))))) := by
          rw [TS.out, pcells_append]
          exact ho3
        have N3 : Hid (((l.take (i + 1)).filter (fun p => decide (p.nd ≠ wo))).length = ms + 1) := by show _ = _; rw [TS.out, List.length_append, HLN.out]; rfl
        have B3 := hide (HB.out.trans hb3)
        clear ho3 hc3 hb3 hi0 hz0 hz1 hz2 hw
        go_wp2_with (at_builtin; refine wp_append_run _ rfl _ _ 22 rfl _ _ hr3 ?_)
        go_roundw
        case rel => exact ⟨i + 1, _, ms + 1, _, by omega, by go_num, rfl, by omega, B3, N3, R3⟩
        case measure => simp [intOf]; omega
    · obtain rfl : i = m := by omega
      have TA : Hid (l.take i = l) := List.take_of_length_le (by rw [H.out.len]; exact Nat.le_refl _)
      rw [TA.out] at HLN HR
      have BW := hide (below_step B2.out HB.out)
      have PS : Hid (Ps wr az ms (l.filter (fun p => decide (p.nd ≠ wo)))) := ps_of_row HR.out HLN.out (fun p hp => by
        have h2 := H.out.each p (List.mem_filter.1 hp).1
        exact ⟨h2.1.below BW.out, h2.2⟩) (by omega)
      have X3 := hide (X2.out.below HB.out)
      have SP := hide (filter_pr l wo)
      clear HR HB X2 TA HLN
      go_wp2_with fail
      refine (ownp_any PS.out).mono ?_
      rintro e w3 ⟨a3, c3, l3, rfl, hb3, _, hp3, he3⟩
      rw [SP.out] at he3
      have B3 := hide (below_step BW.out hb3)
      have P3 := hide hp3
      have L3 := hide he3
      have X4 := hide (X3.out.below hb3)
      clear hb3 hp3 he3 PS X3 BW
      go_wp2_with fail
      refine (open_any P3.out n 1).mono ?_
      rintro e w4 ⟨ao, mo, co, lo, rfl, hb4, ho, hlo⟩
      rw [L3.out] at hlo ⊢
      have B4 := hide (below_step B3.out hb4)
      have X5 := hide (X4.out.below hb4)
      have O5 := hide ho
      have LO := hide hlo
      have MO : Hid (mo = (openR n 1 ((l.map Pp.pr).filter (fun p => decide (p.nd ≠ wo)))).length) := by show _ = _; rw [← hlo, List.length_map]; exact ho.len.symm
      have MO2 : Hid (mo ≤ 1024) := by show _ ≤ _; rw [MO.out]; exact openR_len
      have mo2 := MO2.out
      have mhb := MH.out
      clear hb4 ho hlo P3 X4 B3
      obtain ⟨oe, eoe⟩ : ∃ oe, openE n 1 ((l.map Pp.pr).filter (fun p => decide (p.nd ≠ wo))) = oe := ⟨_, rfl⟩
      rw [eoe]
      have EOE := hide eoe
      clear eoe
      by_cases hz : oe = 0
      · subst hz
        go_wp2_with fail
        go_loopw [12, 13, 14, 15, 16, 17, 18, 19] (fun iv _ _ _ _ _ _ _ wr => ∃ (k : Nat), k ≤ mh ∧ iv = .int .i64 k ∧ Hid (Below w4.heap.size w4 wr)) (fun iv _ _ _ _ _ _ _ _ => mh - (intOf iv).toNat)
        case atStart => exact ⟨0, Nat.zero_le _, rfl, Below.refl _ _⟩
        case round =>
          obtain ⟨ci, hci, rfl, HB⟩ := hrel
          by_cases hlc : ci < mh
          · obtain ⟨ce, hce⟩ : ∃ ce, lh[ci]? = some ce := ⟨_, List.getElem?_eq_getElem (by rw [X5.out.len]; exact hlc)⟩
            obtain ⟨gh, rfl, _, ghl, e0, e1⟩ := X5.out.at hce
            have CM : Hid (ce.ev ∈ chosenL n (l.map Pp.pr)) := by rw [← LH.out]; exact List.mem_map.2 ⟨ce, List.mem_of_getElem? hce, rfl⟩
            have HRT := hide (chosen_right CM.out)
            have sb := chosen_slot CM.out
            have hsb : 1 ≤ ce.s ∧ ce.s ≤ 1099511627776 := sb
            have CO := hide (X5.out.each ce (List.mem_of_getElem? hce))
            have f0 := (HB.out.cell (p := ⟨gh, ci * 2, none⟩) ghl).trans e0
            have f1 := (HB.out.cell (p := ⟨gh, ci * 2 + 1, none⟩) ghl).trans e1
            have i1 : (ci : Int) < (mh : Int) := by omega
            have i2 : (0 : Int) ≤ (ci : Int) := by omega
            obtain ⟨u0, eu0⟩ : ∃ u0, u0 = wr.alloc (.cells #[.int .i64 ce.s, .slice ce.a ce.m ce.cp] 39) := ⟨_, rfl⟩
            obtain ⟨V, eV⟩ : ∃ V, V = wr.heap.size := ⟨_, rfl⟩
            have RV : Hid (u0.heap[V]? = some (.cells #[.int .i64 ce.s, .slice ce.a ce.m ce.cp] 39 (0, 0))) := by rw [eu0, eV]; exact heap_alloc_new wr _
            have BU : Hid (Below w4.heap.size w4 u0) := by rw [eu0]; exact below_alloc HB.out _
            have EU := hide eu0
            have EV := hide eV
            have CF := hide (for_any (c := c) (H.out.below (below_step B4.out BU.out)) HRT.out ce.s)
            clear hce e0 e1 sb eu0 eV
            go_upto_region 17 with fail
            rw [← EU.out, ← EV.out]
            clear f0 f1 EU EV HB
            have v0 : u0.cell? ⟨V, 0, none⟩ = some (.int .i64 ce.s) := by rw [cell_of_row _ _ _ _ _ _ RV.out]; rfl
            go_wp2_with fail
            refine CF.out.mono ?_
            rintro e w5 ⟨ac, mc, cc, cl, rfl, hb5, hcs, hcl, hmc⟩
            have B5 := hide (below_step BU.out hb5)
            have R5 : Hid (w5.heap[V]? = some (.cells #[.int .i64 ce.s, .slice ce.a ce.m ce.cp] 39 (0, 0))) := (hb5.block _ (Array.getElem?_eq_some_iff.1 RV.out).1).trans RV.out
            have CS := hide hcs
            have CL := hide hcl
            obtain ⟨fl, efl⟩ : ∃ fl, fl = cl.map Ca.v := ⟨_, rfl⟩
            have FLN : Hid (fl.length = mc) := by show _ = _; rw [efl, List.length_map]; exact hcs.len
            have EFL := hide efl
            have FP : Hid (fl = forP l ce.s) := by show _ = _; rw [efl, hcl]
            have BW5 := hide (below_step B4.out B5.out)
            have VAL : Hid (∀ v ∈ fl, Sq w v.a v.m v.cp v.b ∧ v.m ≤ 140737488351232) := fun v hv => by
              rw [FP.out] at hv
              obtain ⟨_, z, hz, hvz⟩ := forP_mem hv
              exact (H.out.each z hz).1.each v hvz
            obtain ⟨GOAL, eG⟩ : ∃ G : Prop, G = (1 ≤ ce.s ∧ (openR n 1 ((l.map Pp.pr).filter (fun p => decide (p.nd ≠ wo))))[(ce.s - 1).toNat]? = some (ce.s, ce.b)) := ⟨_, rfl⟩
            have KEEP : Hid (∀ v, Quiet fl v → n < 2 * (cntB fl v ce.b : Int) → GOAL) := fun v hq hc => by
              rw [eG]
              rw [FP.out] at hq hc
              exact keeps_at HRT.out EOE.out hq hc
            have EG := hide eG
            clear hb5 hcs hcl efl eG RV BU CF v0
            go_wp2_with fail
            go_loopw [14, 16, 17, 18, 19] (fun lv kv _ _ _ wr => ∃ (k : Nat) (la : Bool), k ≤ mc ∧ kv = .int .i64 k ∧ lv = .bool la ∧ Hid (Below w5.heap.size w5 wr) ∧ Hid (la = true → GOAL)) (fun _ kv _ _ _ _ => mc - (intOf kv).toNat)
            case atStart => exact ⟨0, false, Nat.zero_le _, rfl, rfl, Below.refl _ _, fun h => by cases h⟩
            case round =>
              obtain ⟨k, la, hk, rfl, rfl, HB, HLA⟩ := hrel
              by_cases hlk : k < mc
              · obtain ⟨b, p, rfl, hp, hpl, hblt, _, c1', c2, c3⟩ := CS.out.at hlk
                have i1' : (k : Int) < (mc : Int) := by omega
                have i2' : (0 : Int) ≤ (k : Int) := by omega
                have PF : Hid (p.v ∈ fl) := by rw [EFL.out]; exact List.mem_map.2 ⟨p, hpl, rfl⟩
                have PQ := hide (VAL.out p.v PF.out)
                have C1 := hide c1'
                have C2 := hide c2
                have C3 := hide c3
                have BL := hide hblt
                have CVB := hide (show w5.cell? ⟨V, 1, none⟩ = some (.slice ce.a ce.m ce.cp) by rw [cell_of_row _ _ _ _ _ _ R5.out]; rfl)
                have VL : Hid (V < w5.heap.size) := (Array.getElem?_eq_some_iff.1 R5.out).1
                have CEQ : Hid (Sq w5 ce.a ce.m ce.cp ce.b) := (CO.out.below B5.out).sq
                clear hp hpl hblt c1' c2 c3
                go_wp2_with fail
                go_loopw [17, 18, 19] (fun nv av jv wr => ∃ (j : Nat) (ab : Bool), j ≤ mc ∧ jv = .int .i64 j ∧ nv = .int .i64 (cntB (fl.take j) p.v ce.b : Int) ∧ av = .bool ab ∧ Hid (Below w5.heap.size w5 wr) ∧ Hid (ab = false → Quiet (fl.take j) p.v)) (fun _ _ jv _ => mc - (intOf jv).toNat)
                case atStart => exact ⟨0, false, Nat.zero_le _, rfl, rfl, rfl, HB, fun _ u hu => absurd hu (by simp)⟩
                case round => as_aux_lemma =>
                  clear HB
                  obtain ⟨j, ab, hj, rfl, rfl, rfl, HBJ, HQT⟩ := hrel
                  by_cases hlj : j < mc
                  · obtain ⟨b2, q, eb, hq, hql, _, _, y1, y2, y3⟩ := CS.out.at hlj
                    obtain rfl : b = b2 := by simpa using eb
                    have j1 : (j : Int) < (mc : Int) := by omega
                    have j2 : (0 : Int) ≤ (j : Int) := by omega
                    have HQ : fl[j]? = some q.v := by rw [EFL.out]; simp [hq]
                    have QQ := hide (VAL.out q.v (by rw [EFL.out]; exact List.mem_map.2 ⟨q, hql, rfl⟩))
                    have TS := hide (take_snoc HQ)
                    have Y1 := hide y1
                    have Y2 := hide y2
                    have Y3 := hide y3
                    have CB : cntB (fl.take j) p.v ce.b ≤ j := by
                      have h1 := List.length_filter_le (fun u : Vv => decide (u.r = p.v.r ∧ u.n = p.v.n ∧ u.b = ce.b)) (fl.take j)
                      rw [List.length_take] at h1
                      unfold cntB
                      omega
                    obtain ⟨cb, ecb⟩ : ∃ cb, cb = decide (q.v.r = p.v.r ∧ q.v.n = p.v.n ∧ q.v.b = ce.b) := ⟨_, rfl⟩
                    have CN0 : Hid (cntB (fl.take (j + 1)) p.v ce.b = cntB (fl.take j) p.v ce.b + (if cb = true then 1 else 0)) := by
                      show _ = _
                      rw [TS.out, cnt_snoc, ecb]
                      by_cases hx : q.v.r = p.v.r ∧ q.v.n = p.v.n ∧ q.v.b = ce.b
                      · rw [if_pos hx, decide_eq_true hx]; rfl
                      · rw [if_neg hx, decide_eq_false hx]; rfl
                    have QS : Hid (ab = false → lessB p.v.r p.v.n q.v.r q.v.n = false → (q.v.r = p.v.r → q.v.n = p.v.n → q.v.b = p.v.b) → Quiet (fl.take (j + 1)) p.v) := fun h1 h2 h3 u hu => by
                      rw [TS.out] at hu
                      have : u ∈ fl.take j ∨ u = q.v := by simpa using hu
                      rcases this with hu | rfl
                      · exact HQT.out h1 u hu
                      · exact ⟨h2, h3⟩
                    have ECB := hide ecb
                    have BYC : Hid (∀ (x : Bool) (e : decide (q.v.b = ce.b) = x) (y : World), Below w5.heap.size w5 y → Calls Try.prog 18 #[.slice q.v.a q.v.m q.v.cp, .slice ce.a ce.m ce.cp] y fun e w' => e = .returned (.bool x) ∧ Below y.heap.size y w') := fun x e y hy => bytes_lit (QQ.out.1.below (below_step BW5.out hy)) (CEQ.out.below hy) (by have := QQ.out.2; omega) e
                    have BYP : Hid (∀ (x : Bool) (e : decide (q.v.b = p.v.b) = x) (y : World), Below w5.heap.size w5 y → Calls Try.prog 18 #[.slice q.v.a q.v.m q.v.cp, .slice p.v.a p.v.m p.v.cp] y fun e w' => e = .returned (.bool x) ∧ Below y.heap.size y w') := fun x e y hy => bytes_lit (QQ.out.1.below (below_step BW5.out hy)) (PQ.out.1.below (below_step BW5.out hy)) (by have := QQ.out.2; omega) e
                    clear eb hq hql y1 y2 y3 HQ ecb
                    have z1 := (HBJ.out.cell (p := ⟨b, j * 5 + 2, none⟩) BL.out).trans Y1.out
                    have z2 := (HBJ.out.cell (p := ⟨b, j * 5 + 3, none⟩) BL.out).trans Y2.out
                    have z3 := (HBJ.out.cell (p := ⟨b, j * 5 + 4, none⟩) BL.out).trans Y3.out
                    have p1 := (HBJ.out.cell (p := ⟨b, k * 5 + 2, none⟩) BL.out).trans C1.out
                    have p2 := (HBJ.out.cell (p := ⟨b, k * 5 + 3, none⟩) BL.out).trans C2.out
                    have cv := (HBJ.out.cell (p := ⟨V, 1, none⟩) VL.out).trans CVB.out
                    generalize cntB (fl.take j) p.v ce.b = cnt at *
                    go_wp2_with fail
                    go_cut [107] from 84 to 106 (fun v wc => ∃ W, v = .bool cb ∧ Hid (W = wc) ∧ Hid (Below w5.heap.size w5 W))
                    case first => as_aux_lemma =>
                      by_cases e1 : q.v.r = p.v.r
                      · by_cases e2 : q.v.n = p.v.n
                        · rw [e1] at z1
                          rw [e2] at z2
                          have S1 := hide (BYC.out _ rfl)
                          have EB : Hid (Value.bool (decide (q.v.b = ce.b)) = .bool cb) := by
                            rw [ECB.out]
                            congr 1
                            simp [e1, e2]
                          clear e1 e2
                          generalize decide (q.v.b = ce.b) = xb at S1 EB
                          refine wp_region_cells w5 [(⟨b, j * 5 + 2, none⟩, .int .i64 p.v.r), (⟨b, j * 5 + 3, none⟩, .int .i64 p.v.n), (⟨b, j * 5 + 4, none⟩, .slice q.v.a q.v.m q.v.cp), (⟨b, k * 5 + 2, none⟩, .int .i64 p.v.r), (⟨b, k * 5 + 3, none⟩, .int .i64 p.v.n), (⟨V, 1, none⟩, .slice ce.a ce.m ce.cp)] (by kernel_rfl) (by kernel_rfl) HBJ.out (by simp [AllCells, z1, z2, z3, p1, p2, cv]) ?_
                          intro hne qq
                          simp only [AllCells, and_true] at qq
                          clear z1 z2 z3 p1 p2 cv
                          repeat (go_big_quiet_step (first | (go_at_call 18; exact Held.call _ (S1.out _ (Held.below _)))))
                          refine wpQuiet_nil ?_
                          rintro _ ⟨y, rfl⟩
                          have BQ : Hid (Below w5.heap.size w5 y.x) := y.below
                          clear qq hne
                          go_wp2_with fail
                          go_meet
                          case rel => exact ⟨y.x, EB.out, rfl, BQ⟩
                        · rw [e1] at z1
                          have x2 : (q.v.n == p.v.n) = false := by simpa using e2
                          have x3 : decide (q.v.n = p.v.n) = false := decide_eq_false e2
                          have x4 : (q.v.n = p.v.n) = False := by simpa using e2
                          have EB : Hid (Value.bool false = .bool cb) := by rw [ECB.out, decide_eq_false (fun x => e2 x.2.1)]; rfl
                          clear e1 e2
                          refine wp_region_cells w5 [(⟨b, j * 5 + 2, none⟩, .int .i64 p.v.r), (⟨b, j * 5 + 3, none⟩, .int .i64 q.v.n), (⟨b, j * 5 + 4, none⟩, .slice q.v.a q.v.m q.v.cp), (⟨b, k * 5 + 2, none⟩, .int .i64 p.v.r), (⟨b, k * 5 + 3, none⟩, .int .i64 p.v.n), (⟨V, 1, none⟩, .slice ce.a ce.m ce.cp)] (by kernel_rfl) (by kernel_rfl) HBJ.out (by simp [AllCells, z1, z2, z3, p1, p2, cv]) ?_
                          intro hne qq
                          simp only [AllCells, and_true] at qq
                          clear z1 z2 z3 p1 p2 cv
                          repeat (go_big_quiet_step (fail))
                          refine wpQuiet_nil ?_
                          rintro _ ⟨y, rfl⟩
                          have BQ : Hid (Below w5.heap.size w5 y.x) := y.below
                          clear qq hne
                          go_wp2_with fail
                          go_meet
                          case rel => exact ⟨y.x, EB.out, rfl, BQ⟩
                      · have x2 : (q.v.r == p.v.r) = false := by simpa using e1
                        have x3 : decide (q.v.r = p.v.r) = false := decide_eq_false e1
                        have x4 : (q.v.r = p.v.r) = False := by simpa using e1
                        have EB : Hid (Value.bool false = .bool cb) := by rw [ECB.out, decide_eq_false (fun x => e1 x.1)]; rfl
                        clear e1
                        refine wp_region_cells w5 [(⟨b, j * 5 + 2, none⟩, .int .i64 q.v.r), (⟨b, j * 5 + 3, none⟩, .int .i64 q.v.n), (⟨b, j * 5 + 4, none⟩, .slice q.v.a q.v.m q.v.cp), (⟨b, k * 5 + 2, none⟩, .int .i64 p.v.r), (⟨b, k * 5 + 3, none⟩, .int .i64 p.v.n), (⟨V, 1, none⟩, .slice ce.a ce.m ce.cp)] (by kernel_rfl) (by kernel_rfl) HBJ.out (by simp [AllCells, z1, z2, z3, p1, p2, cv]) ?_
                        intro hne qq
                        simp only [AllCells, and_true] at qq
                        clear z1 z2 z3 p1 p2 cv
                        repeat (go_big_quiet_step (fail))
                        refine wpQuiet_nil ?_
                        rintro _ ⟨y, rfl⟩
                        have BQ : Hid (Below w5.heap.size w5 y.x) := y.below
                        clear qq hne
                        go_wp2_with fail
                        go_meet
                        case rel => exact ⟨y.x, EB.out, rfl, BQ⟩
                    case rest => as_aux_lemma =>
                      clear HBJ z1 z2 z3 p1 p2 cv BYC
                      obtain ⟨W, rfl, HW, HBJ⟩ := hcut
                      obtain rfl := HW.out
                      clear HW
                      obtain ⟨cnt2, ecnt2⟩ : ∃ cnt2, cnt2 = cnt + (if cb = true then 1 else 0) := ⟨_, rfl⟩
                      have CN : Hid (cntB (fl.take (j + 1)) p.v ce.b = cnt2) := by show _ = _; rw [CN0.out, ecnt2]
                      have EC2 := hide ecnt2
                      clear ecnt2 CN0
                      go_upto_if 107 with fail
                      go_cut [17] from 108 to 109 (fun v wc => v = .int .i64 (cnt2 : Int) ∧ Hid (W = wc))
                      case first => as_aux_lemma =>
                        cases cb with
                        | false =>
                          go_wp2_with fail
                          go_meet
                          case rel => exact ⟨by rw [EC2.out]; rfl, rfl⟩
                        | true =>
                          go_wp2_with fail
                          go_meet
                          case rel => exact ⟨by rw [EC2.out]; go_num, rfl⟩
                      case rest => as_aux_lemma =>
                        obtain ⟨rfl, HW⟩ := hcut
                        obtain rfl := HW.out
                        clear HW ECB EC2 CB
                        have z1 := (HBJ.out.cell (p := ⟨b, j * 5 + 2, none⟩) BL.out).trans Y1.out
                        have z2 := (HBJ.out.cell (p := ⟨b, j * 5 + 3, none⟩) BL.out).trans Y2.out
                        have z3 := (HBJ.out.cell (p := ⟨b, j * 5 + 4, none⟩) BL.out).trans Y3.out
                        have p1 := (HBJ.out.cell (p := ⟨b, k * 5 + 2, none⟩) BL.out).trans C1.out
                        have p2 := (HBJ.out.cell (p := ⟨b, k * 5 + 3, none⟩) BL.out).trans C2.out
                        have p3 := (HBJ.out.cell (p := ⟨b, k * 5 + 4, none⟩) BL.out).trans C3.out
                        go_wp2_with fail
                        cases ab with
                        | true =>
                          refine wp_region_cells w5 [(⟨b, j * 5 + 2, none⟩, .int .i64 q.v.r), (⟨b, j * 5 + 3, none⟩, .int .i64 q.v.n), (⟨b, j * 5 + 4, none⟩, .slice q.v.a q.v.m q.v.cp), (⟨b, k * 5 + 2, none⟩, .int .i64 p.v.r), (⟨b, k * 5 + 3, none⟩, .int .i64 p.v.n), (⟨b, k * 5 + 4, none⟩, .slice p.v.a p.v.m p.v.cp)] (by kernel_rfl) (by kernel_rfl) HBJ.out (by simp [AllCells, z1, z2, z3, p1, p2, p3]) ?_
                          intro hne qq
                          simp only [AllCells, and_true] at qq
                          clear z1 z2 z3 p1 p2 p3
                          repeat (go_big_quiet_step (fail))
                          refine wpQuiet_nil ?_
                          rintro _ ⟨y, rfl⟩
                          have BQ : Hid (Below w5.heap.size w5 y.x) := y.below
                          clear qq hne
                          go_wp2_with fail
                          go_roundw
                          case rel => exact ⟨j + 1, true, by omega, by go_num, by rw [CN.out], rfl, BQ, fun h => by cases h⟩
                          case measure => simp [intOf]; omega
                        | false =>
                          cases hl : lessB p.v.r p.v.n q.v.r q.v.n with
                          | true =>
                            have S2 : Hid (∀ y : World, Below w5.heap.size w5 y → Calls Try.prog 19 #[.agg #[.int .i64 p.v.r, .int .i64 p.v.n], .agg #[.int .i64 q.v.r, .int .i64 q.v.n]] y fun e w' => e = .returned (.bool true) ∧ Below y.heap.size y w') := fun y _ => less_lit hl y
                            clear hl
                            refine wp_region_cells w5 [(⟨b, j * 5 + 2, none⟩, .int .i64 q.v.r), (⟨b, j * 5 + 3, none⟩, .int .i64 q.v.n), (⟨b, j * 5 + 4, none⟩, .slice q.v.a q.v.m q.v.cp), (⟨b, k * 5 + 2, none⟩, .int .i64 p.v.r), (⟨b, k * 5 + 3, none⟩, .int .i64 p.v.n), (⟨b, k * 5 + 4, none⟩, .slice p.v.a p.v.m p.v.cp)] (by kernel_rfl) (by kernel_rfl) HBJ.out (by simp [AllCells, z1, z2, z3, p1, p2, p3]) ?_
                            intro hne qq
                            simp only [AllCells, and_true] at qq
                            clear z1 z2 z3 p1 p2 p3
                            repeat (go_big_quiet_step (first | (go_at_call 19; exact Held.call _ (S2.out _ (Held.below _)))))
                            refine wpQuiet_nil ?_
                            rintro _ ⟨y, rfl⟩
                            have BQ : Hid (Below w5.heap.size w5 y.x) := y.below
                            clear qq hne
                            go_wp2_with fail
                            go_roundw
                            case rel => exact ⟨j + 1, true, by omega, by go_num, by rw [CN.out], rfl, BQ, fun h => by cases h⟩
                            case measure => simp [intOf]; omega
                          | false =>
                            have S2 : Hid (∀ y : World, Below w5.heap.size w5 y → Calls Try.prog 19 #[.agg #[.int .i64 p.v.r, .int .i64 p.v.n], .agg #[.int .i64 q.v.r, .int .i64 q.v.n]] y fun e w' => e = .returned (.bool false) ∧ Below y.heap.size y w') := fun y _ => less_lit hl y
                            have Q2 := hide (QS.out rfl hl)
                            clear hl
                            by_cases e1 : q.v.r = p.v.r
                            · by_cases e2 : q.v.n = p.v.n
                              · rw [e1] at z1 S2
                                rw [e2] at z2 S2
                                have S1 := hide (BYP.out _ rfl)
                                have Q3 : Hid ((!(decide (q.v.b = p.v.b))) = false → Quiet (fl.take (j + 1)) p.v) := fun h => Q2.out (fun _ _ => by simpa using h)
                                clear e1 e2
                                generalize decide (q.v.b = p.v.b) = xb at S1 Q3
                                refine wp_region_cells w5 [(⟨b, j * 5 + 2, none⟩, .int .i64 p.v.r), (⟨b, j * 5 + 3, none⟩, .int .i64 p.v.n), (⟨b, j * 5 + 4, none⟩, .slice q.v.a q.v.m q.v.cp), (⟨b, k * 5 + 2, none⟩, .int .i64 p.v.r), (⟨b, k * 5 + 3, none⟩, .int .i64 p.v.n), (⟨b, k * 5 + 4, none⟩, .slice p.v.a p.v.m p.v.cp)] (by kernel_rfl) (by kernel_rfl) HBJ.out (by simp [AllCells, z1, z2, z3, p1, p2, p3]) ?_
                                intro hne qq
                                simp only [AllCells, and_true] at qq
                                clear z1 z2 z3 p1 p2 p3
                                repeat (go_big_quiet_step (first | (go_at_call 19; exact Held.call _ (S2.out _ (Held.below _))) | (go_at_call 18; exact Held.call _ (S1.out _ (Held.below _)))))
                                refine wpQuiet_nil ?_
                                rintro _ ⟨y, rfl⟩
                                have BQ : Hid (Below w5.heap.size w5 y.x) := y.below
                                clear qq hne
                                go_wp2_with fail
                                go_roundw
                                case rel => exact ⟨j + 1, !xb, by omega, by go_num, by rw [CN.out], rfl, BQ, fun h => Q3.out h⟩
                                case measure => simp [intOf]; omega
                              · rw [e1] at z1 S2
                                have x2 : (q.v.n == p.v.n) = false := by simpa using e2
                                have x3 : decide (q.v.n = p.v.n) = false := decide_eq_false e2
                                have x4 : (q.v.n = p.v.n) = False := by simpa using e2
                                have Q3 := hide (Q2.out (fun _ h => absurd h e2))
                                clear e1 e2
                                refine wp_region_cells w5 [(⟨b, j * 5 + 2, none⟩, .int .i64 p.v.r), (⟨b, j * 5 + 3, none⟩, .int .i64 q.v.n), (⟨b, j * 5 + 4, none⟩, .slice q.v.a q.v.m q.v.cp), (⟨b, k * 5 + 2, none⟩, .int .i64 p.v.r), (⟨b, k * 5 + 3, none⟩, .int .i64 p.v.n), (⟨b, k * 5 + 4, none⟩, .slice p.v.a p.v.m p.v.cp)] (by kernel_rfl) (by kernel_rfl) HBJ.out (by simp [AllCells, z1, z2, z3, p1, p2, p3]) ?_
                                intro hne qq
                                simp only [AllCells, and_true] at qq
                                clear z1 z2 z3 p1 p2 p3
                                repeat (go_big_quiet_step (first | (go_at_call 19; exact Held.call _ (S2.out _ (Held.below _)))))
                                refine wpQuiet_nil ?_
                                rintro _ ⟨y, rfl⟩
                                have BQ : Hid (Below w5.heap.size w5 y.x) := y.below
                                clear qq hne
                                go_wp2_with fail
                                go_roundw
                                case rel => exact ⟨j + 1, false, by omega, by go_num, by rw [CN.out], rfl, BQ, fun _ => Q3.out⟩
                                case measure => simp [intOf]; omega
                            · have x2 : (q.v.r == p.v.r) = false := by simpa using e1
                              have x3 : decide (q.v.r = p.v.r) = false := decide_eq_false e1
                              have x4 : (q.v.r = p.v.r) = False := by simpa using e1
                              have Q3 := hide (Q2.out (fun h => absurd h e1))
                              clear e1
                              refine wp_region_cells w5 [(⟨b, j * 5 + 2, none⟩, .int .i64 q.v.r), (⟨b, j * 5 + 3, none⟩, .int .i64 q.v.n), (⟨b, j * 5 + 4, none⟩, .slice q.v.a q.v.m q.v.cp), (⟨b, k * 5 + 2, none⟩, .int .i64 p.v.r), (⟨b, k * 5 + 3, none⟩, .int .i64 p.v.n), (⟨b, k * 5 + 4, none⟩, .slice p.v.a p.v.m p.v.cp)] (by kernel_rfl) (by kernel_rfl) HBJ.out (by simp [AllCells, z1, z2, z3, p1, p2, p3]) ?_
                              intro hne qq
                              simp only [AllCells, and_true] at qq
                              clear z1 z2 z3 p1 p2 p3
                              repeat (go_big_quiet_step (first | (go_at_call 19; exact Held.call _ (S2.out _ (Held.below _)))))
                              refine wpQuiet_nil ?_
                              rintro _ ⟨y, rfl⟩
                              have BQ : Hid (Below w5.heap.size w5 y.x) := y.below
                              clear qq hne
                              go_wp2_with fail
                              go_roundw
                              case rel => exact ⟨j + 1, false, by omega, by go_num, by rw [CN.out], rfl, BQ, fun _ => Q3.out⟩
                              case measure => simp [intOf]; omega
                  · obtain rfl : j = mc := by omega
                    have TA : Hid (fl.take j = fl) := List.take_of_length_le (by rw [FLN.out]; exact Nat.le_refl _)
                    rw [TA.out] at HQT ⊢
                    have CB : cntB fl p.v ce.b ≤ 80 := by
                      have h1 := List.length_filter_le (fun u : Vv => decide (u.r = p.v.r ∧ u.n = p.v.n ∧ u.b = ce.b)) fl
                      have h2 := FLN.out
                      unfold cntB
                      omega
                    have KP := hide (KEEP.out p.v)
                    generalize cntB fl p.v ce.b = cnt at *
                    cases la with
                    | true =>
                      have G2 := hide (HLA.out rfl)
                      go_wp2_with fail
                      go_roundw
                      case rel => exact ⟨k + 1, true, by omega, by go_num, rfl, HBJ, fun _ => G2.out⟩
                      case measure => simp [intOf]; omega
                    | false =>
                      by_cases hc : n < 2 * (cnt : Int)
                      · cases ab with
                        | true =>
                          go_wp2_with fail
                          go_roundw
                          case rel => exact ⟨k + 1, false, by omega, by go_num, rfl, HBJ, fun h => by cases h⟩
                          case measure => simp [intOf]; omega
                        | false =>
                          have G2 := hide (KP.out (HQT.out rfl) hc)
                          go_wp2_with fail
                          go_roundw
                          case rel => exact ⟨k + 1, true, by omega, by go_num, rfl, HBJ, fun _ => G2.out⟩
                          case measure => simp [intOf]; omega
                      · go_wp2_with fail
                        go_roundw
                        case rel => exact ⟨k + 1, false, by omega, by go_num, rfl, HBJ, fun h => by cases h⟩
                        case measure => simp [intOf]; omega
              · obtain rfl : k = mc := by omega
                have BWW := hide (below_step B5.out HB.out)
                cases la with
                | false =>
                  go_wp2_with fail
                  go_roundw
                  case rel => exact ⟨ci + 1, by omega, by go_num, BWW⟩
                  case measure => simp [intOf]; omega
                | true =>
                  have hG := HLA.out rfl
                  rw [EG.out] at hG
                  obtain ⟨si, esi⟩ : ∃ si : Nat, ce.s = (si : Int) + 1 := ⟨(ce.s - 1).toNat, by omega⟩
                  have hG2 : (lo.map Ev.ev)[si]? = some (ce.s, ce.b) := by
                    rw [LO.out]
                    have h1 := hG.2
                    rw [show (ce.s - 1).toNat = si by omega] at h1
                    exact h1
                  obtain ⟨oz, hoz⟩ : ∃ oz, lo[si]? = some oz := by
                    cases hx : lo[si]? with
                    | none => rw [List.getElem?_map, hx] at hG2; cases hG2
                    | some z => exact ⟨z, rfl⟩
                  obtain ⟨oz1, oz2⟩ : oz.s = ce.s ∧ oz.b = ce.b := by
                    rw [List.getElem?_map, hoz] at hG2
                    simpa [Ev.ev] using hG2
                  have sl : si < mo := by rw [← O5.out.len]; exact (List.getElem?_eq_some_iff.1 hoz).1
                  obtain ⟨go, rfl, _, gol, o0, o1⟩ := O5.out.at hoz
                  have OO := hide (O5.out.each oz (List.mem_of_getElem? hoz))
                  have q0 := (BWW.out.cell (p := ⟨go, si * 2, none⟩) gol).trans o0
                  have q1 := (BWW.out.cell (p := ⟨go, si * 2 + 1, none⟩) gol).trans o1
                  rw [oz1, esi] at q0
                  have VLt := (Array.getElem?_eq_some_iff.1 R5.out).1
                  have r0 : wr.cell? ⟨V, 0, none⟩ = some (.int .i64 ((si : Int) + 1)) := by
                    refine (HB.out.cell (p := ⟨V, 0, none⟩) VLt).trans ?_
                    rw [cell_of_row _ _ _ _ _ _ R5.out, ← esi]; rfl
                  have r1 : wr.cell? ⟨V, 1, none⟩ = some (.slice ce.a ce.m ce.cp) := by
                    refine (HB.out.cell (p := ⟨V, 1, none⟩) VLt).trans ?_
                    rw [cell_of_row _ _ _ _ _ _ R5.out]; rfl
                  have S1 : Hid (∀ y : World, Below w5.heap.size w5 y → Calls Try.prog 18 #[.slice oz.a oz.m oz.cp, .slice ce.a ce.m ce.cp] y fun e w' => e = .returned (.bool true) ∧ Below y.heap.size y w') := fun y hy => by
                    have h1 := (OO.out.below (below_step B5.out hy)).sq
                    have h2 := (CO.out.below (below_step B5.out hy)).sq
                    exact bytes_lit h1 h2 (by have := OO.out.1.2.2; omega) (by rw [oz2]; simp)
                  have j1 : (si : Int) < (mo : Int) := by omega
                  have j2 : (0 : Int) ≤ (si : Int) := by omega
                  have j3 : (si : Int) + 1 - 1 = (si : Int) := by omega
                  have j4 : ¬ ((si : Int) + 1 > (mo : Int)) := by omega
                  have j5 : decide ((mo : Int) < (si : Int) + 1) = false := decide_eq_false (by omega)
                  have j6 : ((si : Int) + 1 != (si : Int) + 1) = false := by simp
                  clear hG hG2 hoz oz1 oz2 gol o0 o1 VLt esi hsb
                  go_wp2_with fail
                  refine wp_region_cells w5 [(⟨V, 0, none⟩, .int .i64 ((si : Int) + 1)), (⟨V, 1, none⟩, .slice ce.a ce.m ce.cp), (⟨go, si * 2, none⟩, .int .i64 ((si : Int) + 1)), (⟨go, si * 2 + 1, none⟩, .slice oz.a oz.m oz.cp)] (by kernel_rfl) (by kernel_rfl) HB.out (by simp [AllCells, r0, r1, q0, q1]) ?_
                  intro hne qq
                  simp only [AllCells, and_true] at qq
                  clear r0 r1 q0 q1
                  repeat (go_big_quiet_step (first | (go_at_call 18; exact Held.call _ (S1.out _ (Held.below _)))))
                  refine wpQuiet_nil ?_
                  rintro _ ⟨y, rfl⟩
                  have BQ : Hid (Below w5.heap.size w5 y.x) := y.below
                  have BF := hide (below_step B5.out BQ.out)
                  clear qq hne
                  go_wp2_with fail
                  go_roundw
                  case rel => exact ⟨ci + 1, by omega, by go_num, BF⟩
                  case measure => simp [intOf]; omega
          · go_wp2_with fail
            go_ret
            exact ⟨rfl, below_step B4.out HB.out⟩
      · have z1 : (oe != 0) = true := by simpa using hz
        have z2 : (oe == 0) = false := by simpa using hz
        have Z0 : Hid (mo = 0) := by show _ = _; rw [MO.out, openR_bad EOE.out hz]; rfl
        obtain rfl := Z0.out
        clear hz
        go_wp2_with fail
        go_ret
        exact ⟨rfl, B4.out⟩

set_option maxRecDepth 100000 in
theorem lifted (os : Os) (started : os.Started) (H : Type) (enc : TypeId × Value → H) :
    ReturnsInHanded {} Try.checked os 4 .any (Rows.chooseKeepsSpec.pre6 enc Try.prog Try.f4 Rows.chooseKeepsRow.domain false) (Rows.chooseKeepsSpec.post enc Try.prog Try.f4 false true false false) := by
  refine returnsInHanded_of_change_sized (C := Try.checked) own started (by kernel_rfl) Try.func4
    (ChangeSpec.witness6 (enc := enc) (C := Try.checked) false ⟨#[], #[.int .i64 0, .slice none 0 0, .int .i64 0], []⟩ 8 (by kernel_rfl) (by kernel_rfl) (by kernel_rfl) (by kernel_rfl)) ?_
  intro W base args ds gs before hval0 hW hcnd hsz0 _
  have hsz : (DataW.weightsEach Try.prog (Try.f4.params.toList ++ Rows.chooseKeepsSpec.plain.varTypes Try.prog) (ds ++ gs)).all (· ≤ reachBytes) = true := hsz0
  have hval : ∀ (j : Nat) t v, Try.f4.params[j]? = some t → args[j]? = some v → Value.okWide Try.prog W .any base t v := hval0
  have hW' := hW
  obtain ⟨p, q, hA0, hV, rfl, hfz, hnd⟩ := hW
  have hA : DataW.TrodAll enc Try.prog W 0 (fun _ => true) true Try.f4.params.toList args.toList ds p := hA0
  rw [Try.params4] at hA hval hsz
  obtain ⟨v0, vs0, d0, ds0, p0, q0, hargs, rfl, rfl, h0, r0⟩ := trodAll_cons hA
  obtain ⟨v1, vs1, d1, ds1, p1, q1, rfl, rfl, rfl, h1, r1⟩ := trodAll_cons r0
  obtain ⟨v2, vs2, d2, ds2, p2, q2, rfl, rfl, rfl, h2, r2⟩ := trodAll_cons r1
  obtain ⟨rfl, rfl, rfl⟩ := trodAll_nil r2
  obtain rfl : args = #[v0, v1, v2] := by cases args; simp_all
  obtain ⟨rfl, rfl⟩ := trodVars_none hV
  have lt0 : ∀ x ∈ p0, x.block < W.heap.size := by obtain ⟨m, hm⟩ := h0; exact DataW.trod_lt m _ _ _ hm
  obtain ⟨n, rfl, hn⟩ := open_i64 (hval 0 3 v0 rfl rfl) h0
  have lt1 : ∀ x ∈ p1, x.block < W.heap.size := by obtain ⟨m, hm⟩ := h1; exact DataW.trod_lt m _ _ _ hm
  obtain ⟨a, m, c, l, rfl, hl⟩ := open_proms_held (hval 1 22 v1 rfl rfl) h1 (fun n hn => by have h := List.all_eq_true.1 hsz n (DataW.weights_mem_each (j := 1) rfl rfl n hn); simpa using h)
  have lt2 : ∀ x ∈ p2, x.block < W.heap.size := by obtain ⟨m, hm⟩ := h2; exact DataW.trod_lt m _ _ _ hm
  obtain ⟨wo, rfl, hwo⟩ := open_i64 (hval 2 3 v2 rfl rfl) h2
  clear hA0 hval0
  refine (walk n wo hl).mono fun e W' ⟨he, bel⟩ => ?_
  subst he
  exact ⟨_, rfl, _, _, _, [], _, [], hW', trodAll_mk1 (shut_bool Try.underlying4 _), (trodAll_cons_mk (Below.trod laidOut (by kernel_rfl) (of_decide_eq_true (by kernel_rfl)) h0 bel lt0) (trodAll_cons_mk (Below.trod laidOut (by kernel_rfl) (of_decide_eq_true (by kernel_rfl)) h1 bel lt1) (trodAll_cons_mk (Below.trod laidOut (by kernel_rfl) (of_decide_eq_true (by kernel_rfl)) h2 bel lt2) trodAll_mk0))), rfl, bel.frame _, fun h => by cases h⟩

theorem over : Rows.chooseKeepsRow.holds Try.pinned (OpenSpec.ofChange Rows.chooseKeepsSpec) :=
  OpenClaim.holds_of_wide 4 Try.f4 rfl rfl rfl rfl rfl rfl rfl ⟨rfl, rfl, rfl, rfl, rfl⟩ rfl rfl rfl rfl rfl (by kernel_rfl) Try.func4 (by kernel_rfl)
    (of_decide_eq_true (by kernel_rfl)) (by unfold Func.isWrapper; first | (rw [if_pos (by decide +kernel)]; kernel_rfl) | (rw [if_neg (by decide +kernel)]; exact ⟨rfl, rfl⟩))
    (fun os started H enc _ => lifted os started H enc)

theorem proved : Rows.ChooseKeepsSaid := over
#print axioms proved
end ChooseKeeps
theorem chooseKeeps_holds : Rows.ChooseKeepsSaid := ChooseKeeps.proved
end Go.Proofs.Ytjhkenmlaammnaa
