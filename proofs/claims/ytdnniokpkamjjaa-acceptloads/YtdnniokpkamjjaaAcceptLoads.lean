/- AcceptLoads: which promises and votes may be loaded; what was loaded goes on as the document says: for every ballot, slot, list of votes and list of calls. No condition. -/
import Derived.Test.YtdnniokpkamjjaaAccStepB
import Derived.Test.YtdnniokpkamjjaaAccAwake
import Derived.Test.YtdnniokpkamjjaaAccCopy
import Derived.Test.YtdnniokpkamjjaaAccFork
import Derived.Test.YtdnniokpkamjjaaAccRefLoad
namespace Go.Proofs.Ytdnniokpkamjjaa
namespace AcceptLoads
open Go.ChangeShapes Go.WideShapes Go.ChangeAt Go.RowKit B8 Am
set_option linter.unusedVariables false

theorem in_lt {w : World} {P : Nat → Prop} {l : List Vv} (h : ∀ p ∈ l, p.In w P) : ∀ p ∈ l, 0 < p.m → ∀ ad, p.a = some ad → ad.block < w.heap.size := fun p hp => (h p hp).lt
/-- both acceptors behind the list is written over -/
theorem half_over {w w' : World} {E B N A mb R : Nat} {s : As} {a : Option Addr} {m c : Nat} {l : List Vv} (hA : Ac w (fun k => E ≤ k) A mb s) (h1 : E ≤ A) (h2 : E ≤ mb) (hR : Rf0 w (fun k => E ≤ k) R s a m c l) (hV : Vl w E (fun k => E ≤ k) a m c l) (h3 : E ≤ R) (hc : Chg (fun k => B ≤ k ∧ k < E) w w') (hN : N ≤ E) :
    Half w' N (fun k => N ≤ k) (fun k => k < w'.heap.size) A mb R s s := by
  have hA' : Ac w' (fun k => E ≤ k) A mb s := hA.chg hc (fun k hk => ⟨by omega, by omega, .inl (by omega)⟩)
  have ins' : ∀ p ∈ l, p.In w' (fun k => E ≤ k) := fun p hp => (hV.ins p hp).chg hc (fun k hk => .inl (by omega))
  refine ⟨⟨hA'.mono (fun k hk _ => Nat.le_trans hN hk), Nat.le_trans hN h1, Nat.le_trans hN h2⟩, ⟨a, m, c, l, (hc.block _ hR.ltR (by omega)).trans hR.row, ⟨row_same hR.vl.row (fun k hk => hc.block k (hV.row.lt k hk).2 (fun h => by have := (hV.row.lt k hk).1; omega)), hV.len, fun p hp => (ins' p hp).mono (fun k _ h => h)⟩, hR.vs, hR.ok⟩, Nat.le_trans hN h3⟩
set_option maxRecDepth 100000 in
set_option maxHeartbeats 6000000 in
theorem walk (r n f : Int) {w : World} {av : Option Addr} {m cv : Nat} {vs : Nat → Vv} (hv : Vts w av m vs) {a : Option Addr} {len cap : Nat} {os : Nat → Opd} (h : Ops w a len os) :
    Calls Try.prog 4 #[.agg #[.int .i64 r, .int .i64 n], .int .i64 f, .slice av m cv, .slice a len cap] w fun e w' => e = .returned (.bool true) ∧ Below w.heap.size w w' := by
  obtain ⟨N, eN⟩ : ∃ N, N = w.heap.size := ⟨_, rfl⟩
  obtain ⟨u, eu⟩ : ∃ u, u = w.alloc (.cells #[.int .i64 r, .int .i64 n] 30) := ⟨_, rfl⟩
  have BU : Hid (Below w.heap.size w u) := by rw [eu]; exact below_alloc (Below.refl _ _) _
  have X : Hid (V2 u N r n) := by rw [eu, eN]; exact v2_new w r n
  have EU := hide eu
  have EN := hide eN
  have HV := hide hv
  have H := hide h
  have RM := h.room
  have VM := hv.room
  have CC := hide (fun (y : World) (hy : Below w.heap.size w y) => copy_any (cap := cv) (hv.below hy))
  clear h hv eu eN
  obtain ⟨VL, eVL⟩ : ∃ VL, VL = (List.range m).map (fun j => (vs j).vt) := ⟨_, rfl⟩
  rw [← eVL] at CC
  have EVL := hide eVL
  clear eVL
  go_enter Try.func4, Try.ntmps4
  go_upto_region 1 with fail
  rw [← EU.out, ← EN.out]
  go_wp2_with fail
  refine (CC.out u BU.out).mono ?_
  rintro e w1 ⟨a1, c1, l1, rfl, hb1, ht1, hl1⟩
  have B1 := hide (below_step BU.out hb1)
  have T1 := hide ht1
  have L1 := hide hl1
  have X1 := hide (X.out.below hb1)
  obtain ⟨Bi, eBi⟩ : ∃ Bi, Bi = u.heap.size := ⟨_, rfl⟩
  rw [← eBi] at T1
  have BB : Hid (w.heap.size ≤ Bi) := by rw [eBi]; exact BU.out.size
  obtain ⟨E, eE⟩ : ∃ E, E = w1.heap.size := ⟨_, rfl⟩
  have EE := hide eE
  have WE : Hid (w.heap.size ≤ E) := by rw [eE]; exact B1.out.size
  clear hb1 ht1 hl1 eE eBi X
  obtain ⟨x0, x1⟩ := X1.out
  go_wp2_with fail
  refine (load_any T1.out.vl (by omega) r n f).mono ?_
  rintro e w2 ⟨hb2, hload⟩
  have B2 := hide (below_step B1.out hb2)
  have B12 := hide hb2
  have X2 := hide (X1.out.below hb2)
  clear x0 x1 hb2
  rw [L1.out] at hload
  obtain ⟨pa, ea, hres⟩ : ∃ pa ea, e = .returned (.tuple #[.pointer pa, .int .i64 ea]) ∧ ((loadB ⟨r, n, f, VL⟩ = true ∧ ea = 0 ∧ ∃ A mb, pa = some ⟨A, 0, none⟩ ∧ Ac w2 (fun k => E ≤ k) A mb ⟨r, n, f, VL⟩ ∧ E ≤ A ∧ E ≤ mb) ∨ (loadB ⟨r, n, f, VL⟩ = false ∧ ea = 21 ∧ pa = none)) := by
    rw [EE.out]
    rcases hload with ⟨h1, A, mb, h2, h3, h4, h5⟩ | ⟨h1, h2⟩
    · exact ⟨_, _, h2, .inl ⟨h1, rfl, A, mb, rfl, h3, h4, h5⟩⟩
    · exact ⟨_, _, h2, .inr ⟨h1, rfl, rfl⟩⟩
  obtain ⟨rfl, hres⟩ := hres
  have RES := hide hres
  clear hload hres
  obtain ⟨x0, x1⟩ := X2.out
  go_wp2_with fail
  have C3 := hide (CC.out w2.drew B2.out.drew)
  go_region_held3 (fun v => v.cell? ⟨N, 0, none⟩ = some (.int .i64 r) ∧ v.cell? ⟨N, 1, none⟩ = some (.int .i64 n)) (first | go_keep | exact ⟨x0, x1⟩ | exact X3.out | exact X4.out) ((first
    | (go_at_call 17; refine C3.out.mono ?_; rintro e w3 ⟨a3, c3, l3, rfl, hb3, ht3, hl3⟩; have B3 : Hid (Below w2.heap.size w2 w3) := (Below.refl _ _).drew.trans hb3; have X3 := hide (X2.out.below B3.out); have T3 := hide ht3; have L3 := hide hl3; have C4 := hide (rload_any ht3.vl (by omega) r n f); clear hb3 ht3 hl3)
    | (go_at_call 19; refine C4.out.mono ?_; rintro e w4 ⟨hb4, hl4⟩; rw [L3.out] at hl4; obtain ⟨pr, hres4⟩ : ∃ pr, e = .returned (.pointer pr) ∧ ((loadB ⟨r, n, f, VL⟩ = true ∧ ∃ R ar mr cr, pr = some ⟨R, 0, none⟩ ∧ Rf0 w4 (fun k => w2.heap.size ≤ k) R ⟨r, n, f, VL⟩ ar mr cr l3 ∧ Vl w4 w3.heap.size (fun k => w2.heap.size ≤ k) ar mr cr l3 ∧ w3.heap.size ≤ R) ∨ (loadB ⟨r, n, f, VL⟩ = false ∧ pr = none)) := (by { rcases hl4 with ⟨h1, R, ar, mr, cr, h2, h3, h4, h5⟩ | ⟨h1, h2⟩; exact ⟨_, h2, .inl ⟨h1, R, ar, mr, cr, rfl, h3, h4, h5⟩⟩; exact ⟨_, h2, .inr ⟨h1, rfl⟩⟩ }); obtain ⟨rfl, hres4⟩ := hres4; have RES4 := hide hres4; have B4 := hide (below_step B3.out hb4); have X4 := hide (X2.out.below B4.out); clear hb4 hl4 hres4)))
  have BW4 : Hid (Below w.heap.size w w4) := below_step B2.out B4.out
  have E2 : Hid (E ≤ w2.heap.size) := by rw [EE.out]; exact B12.out.size
  have E3 : Hid (w2.heap.size ≤ w3.heap.size) := B3.out.size
  have V4 : Hid (Told w4 Bi a1 m c1 l1) := (T1.out.below B12.out).below B4.out
  clear x0 x1 X3 X4 C3 C4 T3 CC X2 X1
  go_wp2_with fail
  refine (awake_any _).mono ?_
  rintro e w5 ⟨rfl, hb5⟩
  have B5 := hide (below_step B4.out hb5)
  have B45 := hide hb5
  have BW5 := hide (below_step BW4.out hb5)
  have V5 := hide (V4.out.below hb5)
  have LE : Hid (∀ j, j < m → (l1.getD j dv).vt = (vs j).vt) := fun j hj => by
    have h1 : (l1.map Vv.vt)[j]? = ((List.range m).map (fun j => (vs j).vt))[j]? := by rw [L1.out, EVL.out]
    have hl := T1.out.vl.len
    simpa [List.getD, List.getElem?_map, show j < l1.length by omega, hj] using h1
  have LS : Hid (∀ j, j < m → (l1.getD j dv).m ≤ 140737488355328) := fun j hj => by
    have h1 := LE.out j hj
    have h2 : (l1.getD j dv).b.length = (l1.getD j dv).m := (T1.out.vl.lst.each j hj).length
    have h3 := (HV.out.each j hj).q.length
    have h4 := (HV.out.each j hj).q.lecap
    have h5 := (HV.out.each j hj).room
    have h6 : (l1.getD j dv).b = (vs j).b := congrArg Vt.b h1
    rw [h6] at h2
    omega
  have CS := hide (votes_same (cp := c1) (cp' := cv) V5.out.vl.lst (HV.out.below BW5.out).lst (by omega) LS.out LE.out)
  clear hb5
  go_wp2_with fail
  refine CS.out.mono ?_
  rintro e w6 ⟨rfl, hb6⟩
  have B6 := hide (below_step B5.out hb6)
  have BW6 := hide (below_step BW5.out hb6)
  have T6 := hide (V5.out.below hb6)
  have B46 : Hid (Below w4.heap.size w4 w6) := below_step B45.out hb6
  clear hb6 CS V4 V5
  rcases RES.out with ⟨hl, rfl, A, mb, rfl, hac, hA, hM⟩ | ⟨hl, rfl, rfl⟩
  case inr =>
    rcases RES4.out with ⟨hl4, _⟩ | ⟨_, rfl⟩
    · rw [hl] at hl4; cases hl4
    · go_wp2_with fail
      go_ret
      exact ⟨by simp, BW6.out⟩
  case inl =>
    rcases RES4.out with ⟨_, R, ar, mr, cr, rfl, hrf, hvl, hR⟩ | ⟨hl4, _⟩
    case inr => rw [hl] at hl4; cases hl4
    obtain ⟨s, es⟩ : ∃ s, s = (⟨r, n, f, VL⟩ : As) := ⟨_, rfl⟩
    rw [← es] at hac hrf
    have A6 : Hid (Ac w6 (fun k => E ≤ k) A mb s) := (hac.below B6.out)
    have R6 : Hid (Rf0 w6 (fun k => E ≤ k) R s ar mr cr l3) := by
      have h1 := hrf.below B46.out
      exact ⟨h1.row, h1.vl.mono (fun k hk _ => Nat.le_trans E2.out hk), h1.vs, h1.ok⟩
    have V6 : Hid (Vl w6 E (fun k => E ≤ k) ar mr cr l3) := ((hvl.below B46.out).base (Nat.le_trans E2.out E3.out)).mono (fun k hk _ => Nat.le_trans E2.out hk)
    have EA : Hid (E ≤ A ∧ E ≤ mb ∧ E ≤ R) := ⟨hA, hM, Nat.le_trans (Nat.le_trans E2.out E3.out) hR⟩
    have UB : Hid (∀ p ∈ l1, 0 < p.m → ∀ ad, p.a = some ad → ad.block < E) := by rw [EE.out]; exact in_lt T1.out.vl.ins
    have UG : Hid (∀ g, a1 = some ⟨g, 0, none⟩ → g < E) := fun g e => by rw [EE.out]; exact (T1.out.vl.row.lt g (by rw [e]; rfl)).2
    have WR6 : Hid (∀ _ : 0 < m, ∃ g, a1 = some ⟨g, 0, none⟩ ∧ Wr w6 Bi g m l1) := fun h0 => T6.out.wr h0
    have LL := hide T1.out.vl.len
    have LM : Hid (∀ p ∈ l1, p.m ≤ 140737488355328) := fun p hp => by
      obtain ⟨j, hj⟩ := List.getElem?_of_mem hp
      have hlt : j < l1.length := (List.getElem?_eq_some_iff.1 hj).1
      have h1 := LS.out j (by have := LL.out; omega)
      have h2 : l1.getD j dv = p := by simp [List.getD, hj]
      rw [h2] at h1
      exact h1
    clear hac hrf hvl hR hA hM es hl
    go_wp2_with fail
    go_loopw [13, 14] (fun i _ wr => ∃ k : Nat, k ≤ m ∧ i = .int .i64 k ∧ Hid (Chg (fun k => Bi ≤ k ∧ k < E) w6 wr) ∧ Hid (∀ _ : 0 < m, ∃ g, a1 = some ⟨g, 0, none⟩ ∧ Wr wr Bi g m l1)) (fun i _ _ => m - (intOf i).toNat)
    case atStart => exact ⟨0, Nat.zero_le _, rfl, Chg.refl _ _, WR6⟩
    case round =>
      clear WR6
      obtain ⟨i, hi, rfl, HCi, HWi⟩ := hrel
      by_cases hlt : i < m
      · obtain ⟨g, rfl, hw⟩ := HWi.out (by omega)
        have i1 : (i : Int) < (m : Int) := by omega
        have i2 : (0 : Int) ≤ (i : Int) := by omega
        have lk : i < l1.length := by have := LL.out; omega
        obtain ⟨p, hp⟩ : ∃ p, l1[i]? = some p := ⟨l1[i], by simp [lk]⟩
        have HP := hide hp
        have PM := LM.out p (List.mem_of_getElem? hp)
        have HW := hide hw
        clear hw hp lk HWi
        go_wp2_with fail
        go_loopw [14] (fun j wq => ∃ q : Nat, q ≤ p.m ∧ j = .int .i64 q ∧ Hid (Chg (fun k => Bi ≤ k ∧ k < E) w6 wq) ∧ Hid (Wr wq Bi g m l1)) (fun j _ => p.m - (intOf j).toNat)
        case atStart => exact ⟨0, Nat.zero_le _, rfl, HCi, HW⟩
        case round =>
          clear HCi HW
          obtain ⟨q, hq, rfl, HCq, HWq⟩ := hrel
          obtain ⟨cx, r1, r2, r3⟩ := HWq.out.row
          have c3 : wr.cell? ⟨g, i * 4 + 3, none⟩ = some (.slice p.a p.m p.cp) := by rw [cell_of_row _ _ _ _ _ _ r1]; exact r3 i p HP.out
          by_cases hql : q < p.m
          · have j1 : (q : Int) < (p.m : Int) := by omega
            have j2 : (0 : Int) ≤ (q : Int) := by omega
            obtain ⟨gb, cs, e1, e2, e3, e4⟩ := HWq.out.vals p (List.mem_of_getElem? HP.out) (by omega)
            have ub := UB.out p (List.mem_of_getElem? HP.out) (by omega) _ e1
            rw [e1] at c3
            obtain ⟨xv, hx⟩ : ∃ xv, wr.cell? ⟨gb, q, none⟩ = some xv := ⟨cs[q]'(by omega), by rw [cell_of_row _ _ _ _ _ _ e3]; simp [show q < cs.size by omega]⟩
            have fz : ∀ o, wr.frozen? ⟨gb, o, none⟩ = false := fun o => by simp [World.frozen?, e3]
            have W2 : Hid (Wr (wr.setCell ⟨gb, q, none⟩ (.int .u8 97)) Bi g m l1) := HWq.out.setVal e3 q _
            have C2 : Hid (Chg (fun k => Bi ≤ k ∧ k < E) w6 (wr.setCell ⟨gb, q, none⟩ (.int .u8 97))) := HCq.out.setCell (p := ⟨gb, q, none⟩) (.inl ⟨e2, ub⟩) _
            clear e1 e2 e3 e4 r1 r2 r3 ub
            go_wp2_with fail
            go_roundw
            case rel => exact ⟨q + 1, by omega, by go_num, C2, W2⟩
            case measure => simp [intOf]; omega
          · obtain rfl : q = p.m := by omega
            obtain ⟨xs, hx⟩ : ∃ xs, wr.cell? ⟨g, i * 4, none⟩ = some xs := ⟨cx[i * 4]'(by omega), by rw [cell_of_row _ _ _ _ _ _ r1]; simp [show i * 4 < cx.size by omega]⟩
            have fz : ∀ o, wr.frozen? ⟨g, o, none⟩ = false := fun o => by simp [World.frozen?, r1]
            have ug := UG.out g rfl
            have W2 : Hid (∀ _ : 0 < m, ∃ g', (some ⟨g, 0, none⟩ : Option Addr) = some ⟨g', 0, none⟩ ∧ Wr (wr.setCell ⟨g, i * 4, none⟩ (.int .i64 1)) Bi g' m l1) := fun _ => ⟨g, rfl, HWq.out.setSlot i _⟩
            have C2 : Hid (Chg (fun k => Bi ≤ k ∧ k < E) w6 (wr.setCell ⟨g, i * 4, none⟩ (.int .i64 1))) := HCq.out.setCell (p := ⟨g, i * 4, none⟩) (.inl ⟨HWq.out.hB, ug⟩) _
            clear r1 r2 r3 hql hq ug
            go_wp2_with fail
            go_roundw
            case rel => exact ⟨i + 1, by omega, by go_num, C2, W2⟩
            case measure => simp [intOf]; omega
      · obtain rfl : i = m := by omega
        clear hlt hi HWi
        obtain ⟨w7, e7⟩ : ∃ w7, w7 = wr := ⟨_, rfl⟩
        have H7 := hide (half_over A6.out EA.out.1 EA.out.2.1 R6.out V6.out EA.out.2.2 HCi.out WE.out)
        have B7 : Hid (Below w.heap.size w wr) := BW6.out.trans (HCi.out.below BW6.out.size (fun k hk => Nat.le_trans BB.out hk.1))
        rw [← e7] at H7 B7 HCi
        obtain ⟨Z, eZ⟩ : ∃ Z, Z = w7.heap.size := ⟨_, rfl⟩
        rw [← eZ] at H7
        have ZW : Hid (w.heap.size ≤ Z) := by rw [eZ]; exact B7.out.size
        have ZS : Hid (Z ≤ w7.heap.size) := by rw [eZ]; exact Nat.le_refl _
        have E7 := hide e7
        go_upto_region 18 with fail
        rw [← E7.out]
        clear e7 E7 eZ A6 R6 V6 LL LM UB UG EA LS LE HCi
        go_wp2_with fail
        go_loopw [15] (fun i wr => ∃ (k : Nat) (t : As), k ≤ len ∧ i = .int .i64 k ∧ Hid (Below w.heap.size w wr) ∧ Hid (Half wr w.heap.size (fun k => w.heap.size ≤ k) (fun k => k < Z) A mb R t t) ∧ Hid (Z ≤ wr.heap.size)) (fun i _ => len - (intOf i).toNat)
        case atStart => exact ⟨0, s, Nat.zero_le _, rfl, B7, H7, ZS⟩
        case round =>
          clear B7 H7 ZS
          obtain ⟨k, t, hk, rfl, HB, HD, HZ⟩ := hrel
          by_cases hlt : k < len
          · obtain ⟨ob, off, rfl, oblt, hoc⟩ := H.out.cells (by omega)
            have VO := hide (H.out.each k hlt)
            have hr := rangeAt_same (hoc k hlt) (HB.out.block ob oblt)
            generalize os k = o at *
            obtain ⟨kind, v⟩ := o
            obtain ⟨o0, o1, o2, o3, o4⟩ := opc_cells hr
            clear hr hoc oblt
            have i1 : (k : Int) < (len : Int) := by omega
            have i2 : (0 : Int) ≤ (k : Int) := by omega
            have NW : Hid (w.heap.size ≤ wr.heap.size) := HB.out.size
            have VI : Hid (v.In wr (fun k => k < Z)) := ((VO.out.inn (w' := w) ZW.out).below HB.out)
            have CS := hide (step_any HD.out NW.out (fun k hk => Nat.le_trans NW.out hk) (fun k hk => by have := HZ.out; omega) kind v (VO.out.below HB.out) VI.out)
            generalize opS t ⟨kind, v⟩ = t' at CS
            go_wp2_with fail
            refine CS.out.mono ?_
            rintro e w9 ⟨rfl, hb9, hd9⟩
            have B9 : Hid (Below w.heap.size w w9) := HB.out.trans hb9
            have D9 := hide hd9
            have Z9 : Hid (Z ≤ w9.heap.size) := Nat.le_trans HZ.out hb9.size
            clear hb9 hd9
            go_wp2_with fail
            go_roundw
            case rel => exact ⟨k + 1, t', by omega, by go_num, B9, D9, Z9⟩
            case measure => simp [intOf]; omega
          · obtain rfl : k = len := by omega
            clear hlt hk
            obtain ⟨wz, ez⟩ : ∃ wz, wz = wr := ⟨_, rfl⟩
            rw [← ez] at HB HD
            have EZ := hide ez
            go_upto_region 23 with fail
            rw [← EZ.out]
            clear ez EZ
            obtain ⟨a4, m4, c4, l4, hr4⟩ := HD.out.rf
            have R4 := hide hr4
            have n0 := hr4.c0
            have n1 := hr4.c1
            have n2 := hr4.c2
            have n3 := hr4.c3
            clear hr4
            have CP := hide (promised_any (w := wz.drew) HD.out.an.ac.drew)
            go_region_held3 (fun v => v.cell? ⟨R, 0, none⟩ = some (.int .i64 t.pr) ∧ v.cell? ⟨R, 1, none⟩ = some (.int .i64 t.pn) ∧ v.cell? ⟨R, 2, none⟩ = some (.int .i64 t.first) ∧ v.cell? ⟨R, 3, none⟩ = some (.slice a4 m4 c4)) (first | go_keep | exact ⟨n0, n1, n2, n3⟩ | exact ⟨R5.out.c0, R5.out.c1, R5.out.c2, R5.out.c3⟩ | exact ⟨R7.out.c0, R7.out.c1, R7.out.c2, R7.out.c3⟩ | exact ⟨R8.out.c0, R8.out.c1, R8.out.c2, R8.out.c3⟩) ((first
              | (go_at_call 13; refine CP.out.mono ?_; rintro e w5 ⟨rfl, hb5⟩; have B5 : Hid (Below wz.heap.size wz w5) := (Below.refl _ _).drew.trans hb5; have D5 := hide (HD.out.below B5.out); have R5 := hide (R4.out.below B5.out); have CF := hide (first_any D5.out.an.ac); have CV := hide (votes_any D5.out.an.ac); clear hb5)
              | (go_at_call 14; refine CF.out.mono ?_; rintro e w6 ⟨rfl, rfl⟩)
              | (go_at_call 16; refine CV.out.mono ?_; rintro e w7 ⟨a7, m7, c7, l7, rfl, hb7, ht7, hl7⟩; have B7 := hide (below_step B5.out hb7); have R7 := hide (R4.out.below B7.out); have SH := hide (told_short ht7 hl7 D5.out.an.ac.ok); have CE := hide (votes_vl ht7.vl R7.out.vl (hl7.trans R7.out.vs) SH.out.1 SH.out.2); clear hb7 ht7 hl7)
              | (go_at_call 15; refine CE.out.mono ?_; rintro e w8 ⟨rfl, hb8⟩; have B8 := hide (below_step B7.out hb8); have R8 := hide (R4.out.below B8.out); clear hb8)))
            all_goals (go_wp2_with fail; go_ret; exact ⟨by simp, below_step HB.out B8.out⟩)

set_option maxRecDepth 100000 in
theorem lifted (os : Os) (started : os.Started) (H : Type) (enc : TypeId × Value → H) :
    ReturnsInHanded {} Try.checked os 4 .any (Rows.acceptLoadsSpec.pre6 enc Try.prog Try.f4 Rows.acceptLoadsRow.domain false) (Rows.acceptLoadsSpec.post enc Try.prog Try.f4 false true false false) := by
  refine returnsInHanded_of_change_sized (C := Try.checked) own started (by kernel_rfl) Try.func4
    (ChangeSpec.witness6 (enc := enc) (C := Try.checked) false ⟨#[], #[.agg #[.int .i64 0, .int .i64 0], .int .i64 0, .slice none 0 0, .slice none 0 0], []⟩ 8 (by kernel_rfl) (by kernel_rfl) (by kernel_rfl) (by kernel_rfl)) ?_
  intro W base args ds gs before hval0 hW hcnd hsz0 _
  have hsz : (DataW.weightsEach Try.prog (Try.f4.params.toList ++ Rows.acceptLoadsSpec.plain.varTypes Try.prog) (ds ++ gs)).all (· ≤ reachBytes) = true := hsz0
  have hval : ∀ (j : Nat) t v, Try.f4.params[j]? = some t → args[j]? = some v → Value.okWide Try.prog W .any base t v := hval0
  have hW' := hW
  obtain ⟨p, q, hA0, hV, rfl, hfz, hnd⟩ := hW
  have hA : DataW.TrodAll enc Try.prog W 0 (fun _ => true) true Try.f4.params.toList args.toList ds p := hA0
  rw [Try.params4] at hA hval hsz
  obtain ⟨v0, vs0, d0, ds0, p0, q0, hargs, rfl, rfl, h0, r0⟩ := trodAll_cons hA
  obtain ⟨v1, vs1, d1, ds1, p1, q1, rfl, rfl, rfl, h1, r1⟩ := trodAll_cons r0
  obtain ⟨v2, vs2, d2, ds2, p2, q2, rfl, rfl, rfl, h2, r2⟩ := trodAll_cons r1
  obtain ⟨v3, vs3, d3, ds3, p3, q3, rfl, rfl, rfl, h3, r3⟩ := trodAll_cons r2
  obtain ⟨rfl, rfl, rfl⟩ := trodAll_nil r3
  obtain rfl : args = #[v0, v1, v2, v3] := by cases args; simp_all
  obtain ⟨rfl, rfl⟩ := trodVars_none hV
  have lt0 : ∀ x ∈ p0, x.block < W.heap.size := by obtain ⟨m, hm⟩ := h0; exact DataW.trod_lt m _ _ _ hm
  obtain ⟨r, n, rfl, hr⟩ := open_ballot (hval 0 30 v0 rfl rfl) h0
  have lt1 : ∀ x ∈ p1, x.block < W.heap.size := by obtain ⟨m, hm⟩ := h1; exact DataW.trod_lt m _ _ _ hm
  obtain ⟨f, rfl, hf⟩ := open_i64 (hval 1 3 v1 rfl rfl) h1
  have lt2 : ∀ x ∈ p2, x.block < W.heap.size := by obtain ⟨m, hm⟩ := h2; exact DataW.trod_lt m _ _ _ hm
  obtain ⟨av, m, cv, vs, rfl, hv⟩ := open_votes_held (hval 2 35 v2 rfl rfl) h2 (fun n hn => by have h := List.all_eq_true.1 hsz n (DataW.weights_mem_each (j := 2) rfl rfl n hn); simpa using h)
  have lt3 : ∀ x ∈ p3, x.block < W.heap.size := by obtain ⟨m, hm⟩ := h3; exact DataW.trod_lt m _ _ _ hm
  obtain ⟨a, len, cap, os, rfl, ho⟩ := open_ops_held (hval 3 22 v3 rfl rfl) h3 (fun n hn => by have h := List.all_eq_true.1 hsz n (DataW.weights_mem_each (j := 3) rfl rfl n hn); simpa using h)
  clear hA0 hval0
  refine (walk r n f hv ho).mono fun e W' ⟨he, bel⟩ => ?_
  subst he
  exact ⟨_, rfl, _, _, _, [], _, [], hW', trodAll_mk1 (shut_bool Try.underlying4 _), (trodAll_cons_mk (Below.trod laidOut (by kernel_rfl) (of_decide_eq_true (by kernel_rfl)) h0 bel lt0) (trodAll_cons_mk (Below.trod laidOut (by kernel_rfl) (of_decide_eq_true (by kernel_rfl)) h1 bel lt1) (trodAll_cons_mk (Below.trod laidOut (by kernel_rfl) (of_decide_eq_true (by kernel_rfl)) h2 bel lt2) (trodAll_cons_mk (Below.trod laidOut (by kernel_rfl) (of_decide_eq_true (by kernel_rfl)) h3 bel lt3) trodAll_mk0)))), rfl, bel.frame _, fun h => by cases h⟩

theorem over : Rows.acceptLoadsRow.holds Try.pinned (OpenSpec.ofChange Rows.acceptLoadsSpec) :=
  OpenClaim.holds_of_wide 4 Try.f4 rfl rfl rfl rfl rfl rfl rfl ⟨rfl, rfl, rfl, rfl, rfl⟩ rfl rfl rfl rfl rfl (by kernel_rfl) Try.func4 (by kernel_rfl)
    (of_decide_eq_true (by kernel_rfl)) (by unfold Func.isWrapper; first | (rw [if_pos (by decide +kernel)]; kernel_rfl) | (rw [if_neg (by decide +kernel)]; exact ⟨rfl, rfl⟩))
    (fun os started H enc _ => lifted os started H enc)

theorem proved : Rows.AcceptLoadsSaid := over
#print axioms proved
end AcceptLoads
theorem acceptLoads_holds : Rows.AcceptLoadsSaid := AcceptLoads.proved
end Go.Proofs.Ytdnniokpkamjjaa
