/- SlotsForks holds: a fork is alike and apart, a sequence tells what there was when it was asked for; for every input. No condition. -/
import Derived.Test.YtcbijiielikfmaaSlotsRan
import Derived.Test.YtcbijiielikfmaaSlotsAwake
import Derived.Test.YtcbijiielikfmaaSlotsReadI
import Derived.Test.YtcbijiielikfmaaSlotsForkI
import Derived.Test.YtcbijiielikfmaaSlotsPlain
import Derived.Test.YtcbijiielikfmaaSlotsBegins
namespace Go.Proofs.Ytcbijiielikfmaa
open Go.ChangeShapes Go.WideShapes Go.ChangeAt Go.RowKit Sx Li
set_option linter.unusedVariables false
namespace SlotsForks
theorem step {MF : Nat → Prop} {wq wr wn : World} {P : Nat} {L1 L2 : Lay} {s2 : Ss Int} (hc : Chg MF wq wr) (hm : ∀ j, L1.M P j → MF j ∨ wq.heap.size ≤ j) (hcn : Chg (L1.M P) wr wn) (hl2 : Lg wn P L2 s2) (hm2 : ∀ k, L2.M P k → L1.M P k ∨ wr.heap.size ≤ k) :
    Chg MF wq wn ∧ ∃ L1 s1, Lg wn P L1 s1 ∧ ∀ j, L1.M P j → MF j ∨ wq.heap.size ≤ j :=
  ⟨hc.trans hcn (fun k hk h => by rcases hm k h with h | h; exact h; omega), L2, s2, hl2, fun j hj => by
    rcases hm2 j hj with h | h
    · exact hm j h
    · exact .inr (Nat.le_trans hc.size h)⟩
set_option maxRecDepth 100000 in
set_option maxHeartbeats 4000000 in
theorem walk {w : World} {a a2 : Option Addr} {len cap len2 cap2 : Nat} {os os2 : Nat → Opd} (f m : Int) (h : Ops w a len os) (h2 : Ops w a2 len2 os2) (stop : Int) :
    Calls Try.prog 6 #[.int .i64 f, .int .i64 m, .slice a len cap, .slice a2 len2 cap2, .int .i64 stop] w fun e w' => e = .returned (.bool true) ∧ Below w.heap.size w w' := by
  have CR := hide (ran_any (cap := cap) f m h)
  have HO := hide h2
  clear h h2
  go_enter Try.func6, Try.ntmps6
  go_wp2_with fail
  refine CR.out.mono ?_
  rintro e w1 ⟨D, s, rfl, b1, h1, hm⟩
  have B1 := hide b1
  have H1 := hide h1
  clear b1 h1 hm CR
  go_wp2_with fail
  refine (awake_any w1).mono ?_
  rintro e w2 ⟨rfl, b2⟩
  have B2 := hide (below_step B1.out b2)
  have H2 := hide (H1.out.below b2)
  clear b2 B1 H1
  obtain ⟨L, hL, hLn⟩ := H2.out
  have HL2 := hide hL
  have HLN := hide hLn
  have CF := hide (fork_any hL)
  clear hL hLn H2
  go_wp2_with fail
  refine CF.out.mono ?_
  rintro e w3 ⟨P', L', rfl, b3, h3, m3⟩
  have B3 := hide b3
  have F3 := hide h3
  have M3 := hide m3
  have HL3 := hide (HL2.out.below b3)
  have CT := hide (told_any HL3.out.asks)
  have FX : Hid (∀ k, L'.M P' k → ¬ k < w3.heap.size → False) := fun k hk hh => hh (F3.out.lt k hk)
  clear CF b3 h3 m3
  go_wp2_with fail
  refine CT.out.mono ?_
  rintro e w4 ⟨va1, vr1, vh1, rfl, ht⟩
  obtain ⟨aa, ca, rfl⟩ := ht.sa
  obtain ⟨ar, cr, rfl⟩ := ht.sr
  obtain ⟨ah, ch, rfl⟩ := ht.sh
  have B4 := hide ht.below
  have RA := hide ht.all
  have HL4 := hide (HL3.out.below ht.below)
  have F4 := hide (F3.out.below ht.below)
  clear ht CT
  have CA := hide (HL4.out.asks.all w4 (Below.refl _ _))
  go_wp2_with fail
  refine CA.out.mono ?_
  rintro e w5 ⟨gf1, lb1, K1, rfl, eg1, b5, t1, c1, k1⟩
  have CU := hide (HL4.out.asks.run w5 b5)
  have T1 := hide (And.intro t1 (And.intro c1 k1))
  have EG1 := hide eg1
  have B5 := hide b5
  clear CA b5 t1 c1 k1 eg1
  go_wp2_with fail
  refine CU.out.mono ?_
  rintro e w6 ⟨gf2, lb2, K2', rfl, eg2, b6, t2, c2, k2⟩
  have T2 := hide (And.intro t2 (And.intro c2 k2))
  have EG2 := hide eg2
  have B6 := hide b6
  clear CU b6 t2 c2 k2 eg2
  have B36 : Hid (Below w3.heap.size w3 w6) := B4.out.trans ((B5.out.mono B4.out.size).trans (B6.out.mono (Nat.le_trans B4.out.size B5.out.size)))
  have F6 := hide (F3.out.below B36.out)
  have HL6 := hide (HL3.out.below B36.out)
  clear F4 F3 HL4
  have XF := hide (first_any F6.out)
  have XL := hide (first_any HL6.out)
  have YF := hide (len_any F6.out)
  have YL := hide (len_any HL6.out)
  go_wp2_with fail
  refine XF.out.mono ?_
  rintro e wq ⟨rfl, rfl⟩
  go_wp2_with fail
  refine XL.out.mono ?_
  rintro e wq ⟨rfl, rfl⟩
  go_wp2_with fail
  refine YF.out.mono ?_
  rintro e wq ⟨rfl, rfl⟩
  go_wp2_with fail
  refine YL.out.mono ?_
  rintro e wq ⟨rfl, rfl⟩
  clear XF XL YF YL
  have Z3 := hide B3.out.size
  have Z36 := hide B36.out.size
  have ZB := hide B2.out.size
  have BQ : Hid (Below w.heap.size w wq) := (B2.out.trans (B3.out.mono B2.out.size)).trans (B36.out.mono (Nat.le_trans B2.out.size B3.out.size))
  obtain ⟨MF, hMF⟩ : ∃ MF : Nat → Prop, MF = fun k => w2.heap.size ≤ k ∧ k < w3.heap.size := ⟨_, rfl⟩
  have MFE : Hid (∀ k, MF k ↔ (w2.heap.size ≤ k ∧ k < w3.heap.size)) := fun k => by rw [hMF]
  clear hMF
  have LTf : Hid (∀ k, L'.M P' k → MF k ∨ wq.heap.size ≤ k) := fun k hk => .inl ((MFE.out k).2 ⟨M3.out k hk, by
    have := F6.out.lt k hk
    by_cases hh : k < w3.heap.size
    · exact hh
    · exfalso; exact FX.out k hk hh⟩)
  have RM : len2 ≤ 4398046511104 := by have := HO.out.room; omega
  go_wp2_with fail
  go_loopw [19] (fun iv wr => ∃ k : Nat, k ≤ len2 ∧ iv = .int .i64 k ∧ Hid (Chg MF wq wr ∧ ∃ L1 s1, Lg wr P' L1 s1 ∧ ∀ j, L1.M P' j → MF j ∨ wq.heap.size ≤ j)) (fun iv _ => len2 - (intOf iv).toNat)
  case atStart => exact ⟨0, by omega, rfl, hide ⟨Chg.refl _ _, L', s, F6.out, LTf.out⟩⟩
  case round =>
    obtain ⟨k, hk, rfl, HI⟩ := hrel
    have BW : Hid (Below w.heap.size w wr) := BQ.out.trans (HI.out.1.below BQ.out.size (fun k hk => by have := (MFE.out k).1 hk; have := ZB.out; omega))
    by_cases hlt : k < len2
    · obtain ⟨ob, off, rfl, oblt, hoc⟩ := HO.out.cells (by omega)
      have SZ := hide (HO.out.each k hlt)
      have hr := rangeAt_same (hoc k hlt) (BW.out.block ob oblt)
      generalize os2 k = o at *
      obtain ⟨kind, i, v⟩ := o
      obtain ⟨o0, o1, o2⟩ := opc_cells hr
      have i1 : (k : Int) < (len2 : Int) := by omega
      have i2 : (0 : Int) ≤ (k : Int) := by omega
      clear hr hoc oblt
      obtain ⟨hc, L1, s1, hl1, hm1⟩ := HI.out
      have HC := hide hc
      have HM1 := hide hm1
      by_cases k2 : kind = 2
      · subst k2
        have CT := hide (cut_any hl1 i)
        clear hc hl1 hm1
        go_wp2_with fail
        refine CT.out.mono ?_
        rintro e wn ⟨rfl, hcn, L2, hl2, hm2⟩
        have NX : Hid (Chg MF wq wn ∧ ∃ L1 s1, Lg wn P' L1 s1 ∧ ∀ j, L1.M P' j → MF j ∨ wq.heap.size ≤ j) := step HC.out HM1.out hcn hl2 hm2
        clear hcn hl2 hm2
        go_wp2_with fail
        go_roundw
        case rel => exact ⟨k + 1, by omega, by go_num, NX⟩
        case measure => simp [intOf]; omega
      · have z2 : (kind == 2) = false := by simpa using k2
        have CT := hide (put_any hl1 i SZ.out.2.2 5)
        simp only [va] at CT
        clear hc hl1 hm1
        go_wp2_with fail
        refine CT.out.mono ?_
        rintro e wn ⟨rfl, hcn, L2, hl2, hm2⟩
        have NX : Hid (Chg MF wq wn ∧ ∃ L1 s1, Lg wn P' L1 s1 ∧ ∀ j, L1.M P' j → MF j ∨ wq.heap.size ≤ j) := step HC.out HM1.out hcn hl2 hm2
        clear hcn hl2 hm2
        go_wp2_with fail
        go_roundw
        case rel => exact ⟨k + 1, by omega, by go_num, NX⟩
        case measure => simp [intOf]; omega
    · obtain rfl : k = len2 := by omega
      clear hk hlt
      have HC := hide HI.out.1
      have HU : Hid (Lg wr D L s) := HL6.out.far HC.out (fun k hk h => by have := (MFE.out k).1 h; have := HL2.out.lt k hk; omega) (fun k hk h => by have := (MFE.out k).1 h; have := HL2.out.vlt k hk; omega)
      have ZR := hide HC.out.size
      have CT := hide (told_any HU.out.asks)
      clear HI LTf F6 FX
      go_wp2_with fail
      refine CT.out.mono ?_
      rintro e u2 ⟨va2, vr2, vh2, rfl, ht⟩
      obtain ⟨ab, cb, rfl⟩ := ht.sa
      obtain ⟨ar2, cr2, rfl⟩ := ht.sr
      obtain ⟨ah2, ch2, rfl⟩ := ht.sh
      have KQ : Hid (∀ k, (k < w2.heap.size ∨ w3.heap.size ≤ k) → k < wq.heap.size → u2.heap[k]? = wq.heap[k]?) := fun k h1 h2 => (ht.below.block k (Nat.lt_of_lt_of_le h2 ZR.out)).trans (HC.out.block k h2 (fun h => by have := (MFE.out k).1 h; omega))
      have R2 := hide ht.all
      have U2 := hide (HU.out.below ht.below)
      have BU2 := hide (below_step BW.out ht.below)
      have ZU2 := hide (Nat.le_trans ZR.out ht.below.size)
      have RAq : Hid (∀ k, (Value.slice aa (allL s.first s.ps).length ca).ownBlock = some k → w3.heap.size ≤ k ∧ k < w4.heap.size) := fun k hk => RA.out.lt k hk
      have RAQ : Hid (wq.ownsRow w3.heap.size 47 2 (.slice aa (allL s.first s.ps).length ca) (allL s.first s.ps).length (hcells (allL s.first s.ps))) := row_same RA.out (fun k hk => by
        have := RAq.out k hk
        have z5 := B5.out.size
        exact (B6.out.block k (by omega)).trans (B5.out.block k (by omega)))
      have RA2 : Hid (u2.ownsRow w3.heap.size 47 2 (.slice aa (allL s.first s.ps).length ca) (allL s.first s.ps).length (hcells (allL s.first s.ps))) := row_same RAQ.out (fun k hk => by
        have := RAq.out k hk
        have z5 := B5.out.size
        have z6 := B6.out.size
        exact KQ.out k (.inr this.1) (by omega))
      have LM : (allL s.first s.ps).length ≤ 1024 := by rw [allL_length]; exact Nat.le_trans (cnt_le _) U2.out.asks.most
      have CP := hide (plain_any RA2.out R2.out LM)
      clear ht CT RA
      go_wp2_with fail
      refine CP.out.mono ?_
      rintro e u3 ⟨rfl, b3⟩
      have U3 := hide (U2.out.below b3)
      have BU3 := hide (below_step BU2.out b3)
      have KQ3 : Hid (∀ k, (k < w2.heap.size ∨ w3.heap.size ≤ k) → k < wq.heap.size → u3.heap[k]? = wq.heap[k]?) := fun k h1 h2 => (b3.block k (Nat.lt_of_lt_of_le h2 ZU2.out)).trans (KQ.out k h1 h2)
      have ZU3 := hide (Nat.le_trans ZU2.out b3.size)
      clear b3 CP KQ U2 RA2 R2 BU2 ZU2
      have CF3 := hide (first_any U3.out)
      have CP3 := hide (put_any U3.out s.first (by have := U3.out.ok.f2; omega) 99)
      simp only [va] at CP3
      go_wp2_with fail
      refine CF3.out.mono ?_
      rintro e u4 ⟨rfl, rfl⟩
      go_wp2_with fail
      refine CP3.out.mono ?_
      rintro e u5 ⟨rfl, g5, L5, l5, m5⟩
      have G5 := hide (And.intro g5 m5)
      have CT5 := hide (top_any l5)
      have HL5 := hide l5
      clear g5 m5 l5 CF3 CP3
      go_wp2_with fail
      refine CT5.out.mono ?_
      rintro e u6 ⟨rfl, q6, rfl⟩
      have CC6 := hide (cut_any (HL5.out.drewN q6) (topV (putS s s.first 99)))
      clear CT5
      go_wp2_with fail
      refine CC6.out.mono ?_
      rintro e u7 ⟨rfl, g7, L7, l7, m7⟩
      have G7 : Hid (Chg (L.M D) u4 u7) := (G5.out.1.trans (Chg.drewN (L.M D) u5 q6) (fun k _ h => h)).trans g7 (fun k hk h => by
        rcases G5.out.2 k h with h | h
        · exact h
        · omega)
      clear g7 l7 m7 CC6 HL5 G5
      have ZU7 := hide (Nat.le_trans ZU3.out G7.out.size)
      have KP : Hid (∀ k, (some k ∈ L.bs ∨ w3.heap.size ≤ k) → k < wq.heap.size → u7.heap[k]? = wq.heap[k]?) := fun k h1 h2 => by
        refine (G7.out.block k (Nat.lt_of_lt_of_le h2 ZU3.out) (fun hm => ?_)).trans (KQ3.out k ?_ h2)
        · rcases h1 with h1 | h1
          · obtain ⟨x, hx⟩ := HL2.out.val h1
            exact Lg.vm (P' := 0) (L' := L) (s' := s) HL2.out hx hm
          · have := HL2.out.lt k hm
            have := Z3.out
            omega
        · rcases h1 with h1 | h1
          · exact .inl (HL2.out.vlt k h1)
          · exact .inr h1
      have z4 := hide B4.out.size
      have z5 := hide B5.out.size
      have z6 := hide B6.out.size
      have LT1 : Hid (∀ k, K1 k → k < u7.heap.size) := fun k hk => by
        obtain ⟨o, ho, _⟩ := T1.out.2.1 k hk
        have := (Array.getElem?_eq_some_iff.1 ho).1
        have := z6.out
        have := ZU7.out
        omega
      have LT2 : Hid (∀ k, K2' k → k < u7.heap.size) := fun k hk => by
        obtain ⟨o, ho, _⟩ := T2.out.2.1 k hk
        have := (Array.getElem?_eq_some_iff.1 ho).1
        have := ZU7.out
        omega
      have TA : Hid (Tells Try.prog gf1 lb1 ((allL s.first s.ps).map argsOf) K1 u7) := T1.out.1.later ⟨by have := z6.out; have := ZU7.out; omega, fun k hk => by
        obtain ⟨o, ho, _⟩ := T1.out.2.1 k hk
        have hl := (Array.getElem?_eq_some_iff.1 ho).1
        have := z6.out
        refine (KP.out k ?_ (by omega)).trans (B6.out.block k hl)
        rcases T1.out.2.2 k hk with h | h
        · exact .inl h
        · exact .inr (Nat.le_trans z4.out h)⟩
      have TB : Hid (Tells Try.prog gf2 lb2 ((runL s.first s.ps).map argsOf) K2' u7) := T2.out.1.later ⟨ZU7.out, fun k hk => by
        obtain ⟨o, ho, _⟩ := T2.out.2.1 k hk
        have hl := (Array.getElem?_eq_some_iff.1 ho).1
        refine KP.out k ?_ hl
        rcases T2.out.2.2 k hk with h | h
        · exact .inl h
        · exact .inr (Nat.le_trans z4.out (Nat.le_trans z5.out h))⟩
      have RA7 : Hid (u7.ownsRow w3.heap.size 47 2 (.slice aa (allL s.first s.ps).length ca) (allL s.first s.ps).length (hcells (allL s.first s.ps))) := row_same RAQ.out (fun k hk => by
        have hq := RAq.out k hk
        have := z5.out
        have := z6.out
        exact KP.out k (.inr hq.1) (by omega))
      have BU7 : Hid (Below w.heap.size w u7) := BU3.out.trans (G7.out.below BU3.out.size (fun k hk => HLN.out k hk))
      have RN : Hid (∀ (k : Nat) (p : Int × Int), (runL s.first s.ps)[k]? = some p → (allL s.first s.ps)[k]? = some p) := fun k p hp => by
        have hk := (List.getElem?_eq_some_iff.1 hp).1
        rw [runL_length] at hk
        rw [← (runL_at s.ps s.first k hk).1]
        exact hp
      have l0 : ∀ n : Nat, least 0 n = (n : Int) := fun n => by unfold least; split; omega; rfl
      have C1 := hide (begins_any RA7.out LM (fun k p h => h) EG1.out TA.out LT1.out stop ((allL s.first s.ps).length : Int) (by unfold least; split; exact .inr rfl; exact .inl (Int.le_refl _)))
      clear KP KQ3 RAQ RAq T1 T2 BU3 G7 B36 B4 B5 B6 MFE HC HU U3
      go_wp2_with fail
      refine C1.out.mono ?_
      rintro e v1 ⟨rfl, b1⟩
      have R1 := hide (row_same RA7.out (w' := v1) (fun k hk => b1.block k (RA7.out.lt k hk).2))
      have A1 := hide (TA.out.later (keepK_below LT1.out b1))
      have A2 := hide (TB.out.later (keepK_below LT2.out b1))
      have M1 : Hid (∀ k, K1 k → k < v1.heap.size) := fun k hk => Nat.lt_of_lt_of_le (LT1.out k hk) b1.size
      have M2 : Hid (∀ k, K2' k → k < v1.heap.size) := fun k hk => Nat.lt_of_lt_of_le (LT2.out k hk) b1.size
      have V1 := hide (below_step BU7.out b1)
      have C2 := hide (begins_any R1.out LM (fun k p h => h) EG1.out A1.out M1.out 0 ((allL s.first s.ps).length : Int) (.inl (by rw [l0]; exact Int.le_refl _)))
      clear b1 RA7 TA TB LT1 LT2 C1 BU7
      go_wp2_with fail
      refine C2.out.mono ?_
      rintro e v2 ⟨rfl, b2⟩
      have R2 := hide (row_same R1.out (w' := v2) (fun k hk => b2.block k (R1.out.lt k hk).2))
      have A3 := hide (A2.out.later (keepK_below M2.out b2))
      have M3' : Hid (∀ k, K2' k → k < v2.heap.size) := fun k hk => Nat.lt_of_lt_of_le (M2.out k hk) b2.size
      have V2 := hide (below_step V1.out b2)
      have C3 := hide (begins_any R2.out LM RN.out EG2.out A3.out M3'.out 0 0 (.inl (by rw [l0]; omega)))
      clear b2 R1 A1 A2 M1 M2 C2 V1
      go_wp2_with fail
      refine C3.out.mono ?_
      rintro e v3 ⟨rfl, b3⟩
      have V3 := hide (below_step V2.out b3)
      clear b3 C3
      go_wp2_with fail
      go_ret
      exact ⟨rfl, V3.out⟩

set_option maxRecDepth 100000 in
theorem lifted (os : Os) (started : os.Started) (H : Type) (enc : TypeId × Value → H) :
    ReturnsInHanded {} Try.checked os 6 .any (Rows.slotsForksSpec.pre6 enc Try.prog Try.f6 Rows.slotsForksRow.domain false) (Rows.slotsForksSpec.post enc Try.prog Try.f6 false true false false) := by
  refine returnsInHanded_of_change_sized (C := Try.checked) own started (by kernel_rfl) Try.func6
    (ChangeSpec.witness6 (enc := enc) (C := Try.checked) false ⟨#[], #[.int .i64 0, .int .i64 0, .slice none 0 0, .slice none 0 0, .int .i64 0], []⟩ 8 (by kernel_rfl) (by kernel_rfl) (by kernel_rfl) (by kernel_rfl)) ?_
  intro W base args ds gs before hval0 hW hcnd hsz0 _
  have hsz : (DataW.weightsEach Try.prog (Try.f6.params.toList ++ Rows.slotsForksSpec.plain.varTypes Try.prog) (ds ++ gs)).all (· ≤ reachBytes) = true := hsz0
  have hval : ∀ (j : Nat) t v, Try.f6.params[j]? = some t → args[j]? = some v → Value.okWide Try.prog W .any base t v := hval0
  have hW' := hW
  obtain ⟨p, q, hA0, hV, rfl, hfz, hnd⟩ := hW
  have hA : DataW.TrodAll enc Try.prog W 0 (fun _ => true) true Try.f6.params.toList args.toList ds p := hA0
  rw [Try.params6] at hA hval hsz
  obtain ⟨v0, vs0, d0, ds0, p0, q0, hargs, rfl, rfl, h0, r0⟩ := trodAll_cons hA
  obtain ⟨v1, vs1, d1, ds1, p1, q1, rfl, rfl, rfl, h1, r1⟩ := trodAll_cons r0
  obtain ⟨v2, vs2, d2, ds2, p2, q2, rfl, rfl, rfl, h2, r2⟩ := trodAll_cons r1
  obtain ⟨v3, vs3, d3, ds3, p3, q3, rfl, rfl, rfl, h3, r3⟩ := trodAll_cons r2
  obtain ⟨v4, vs4, d4, ds4, p4, q4, rfl, rfl, rfl, h4, r4⟩ := trodAll_cons r3
  obtain ⟨rfl, rfl, rfl⟩ := trodAll_nil r4
  obtain rfl : args = #[v0, v1, v2, v3, v4] := by cases args; simp_all
  obtain ⟨rfl, rfl⟩ := trodVars_none hV
  have lt0 : ∀ x ∈ p0, x.block < W.heap.size := by obtain ⟨m, hm⟩ := h0; exact DataW.trod_lt m _ _ _ hm
  obtain ⟨f, rfl, fb1, fb2⟩ := open_i64 (hval 0 3 v0 rfl rfl) h0
  have lt1 : ∀ x ∈ p1, x.block < W.heap.size := by obtain ⟨m, hm⟩ := h1; exact DataW.trod_lt m _ _ _ hm
  obtain ⟨m, rfl, mb1, mb2⟩ := open_i64 (hval 1 3 v1 rfl rfl) h1
  have lt2 : ∀ x ∈ p2, x.block < W.heap.size := by obtain ⟨m, hm⟩ := h2; exact DataW.trod_lt m _ _ _ hm
  obtain ⟨a, len, cap, os, rfl, ho⟩ := open_ops_held (hval 2 22 v2 rfl rfl) h2 (fun n hn => by have h := List.all_eq_true.1 hsz n (DataW.weights_mem_each (j := 2) rfl rfl n hn); simpa using h)
  have lt3 : ∀ x ∈ p3, x.block < W.heap.size := by obtain ⟨m, hm⟩ := h3; exact DataW.trod_lt m _ _ _ hm
  obtain ⟨a2, len2, cap2, os2, rfl, ho2⟩ := open_ops_held (hval 3 22 v3 rfl rfl) h3 (fun n hn => by have h := List.all_eq_true.1 hsz n (DataW.weights_mem_each (j := 3) rfl rfl n hn); simpa using h)
  have lt4 : ∀ x ∈ p4, x.block < W.heap.size := by obtain ⟨m, hm⟩ := h4; exact DataW.trod_lt m _ _ _ hm
  obtain ⟨stop, rfl, sb1, sb2⟩ := open_i64 (hval 4 3 v4 rfl rfl) h4
  clear hA0 hval0
  refine (walk f m ho ho2 stop).mono fun e W' ⟨he, bel⟩ => ?_
  subst he
  exact ⟨_, rfl, _, _, _, [], _, [], hW', trodAll_mk1 (shut_bool Try.underlying4 _), (trodAll_cons_mk (Below.trod laidOut (by kernel_rfl) (of_decide_eq_true (by kernel_rfl)) h0 bel lt0) (trodAll_cons_mk (Below.trod laidOut (by kernel_rfl) (of_decide_eq_true (by kernel_rfl)) h1 bel lt1) (trodAll_cons_mk (Below.trod laidOut (by kernel_rfl) (of_decide_eq_true (by kernel_rfl)) h2 bel lt2) (trodAll_cons_mk (Below.trod laidOut (by kernel_rfl) (of_decide_eq_true (by kernel_rfl)) h3 bel lt3) (trodAll_cons_mk (Below.trod laidOut (by kernel_rfl) (of_decide_eq_true (by kernel_rfl)) h4 bel lt4) trodAll_mk0))))), rfl, bel.frame _, fun h => by cases h⟩

theorem over : Rows.slotsForksRow.holds Try.pinned (OpenSpec.ofChange Rows.slotsForksSpec) :=
  OpenClaim.holds_of_wide 6 Try.f6 rfl rfl rfl rfl rfl rfl rfl ⟨rfl, rfl, rfl, rfl, rfl⟩ rfl rfl rfl rfl rfl (by kernel_rfl) Try.func6 (by kernel_rfl)
    (of_decide_eq_true (by kernel_rfl)) (by unfold Func.isWrapper; first | (rw [if_pos (by decide +kernel)]; kernel_rfl) | (rw [if_neg (by decide +kernel)]; exact ⟨rfl, rfl⟩))
    (fun os started H enc _ => lifted os started H enc)

theorem proved : Rows.SlotsForksSaid := over
#print axioms proved
end SlotsForks
theorem slotsForks_holds : Rows.SlotsForksSaid := SlotsForks.proved
end Go.Proofs.Ytcbijiielikfmaa
