/- CodecLeft: for every list of bytes and every list of asks: the reader's place only moves on; behind a fault it stays, and answers nothing. No condition but what an argument may be. -/
import Derived.Test.YtadjdiocipahhabCodecOpen
import Derived.Test.YtadjdiocipahhabCodecAwake
import Derived.Test.YtadjdiocipahhabCodecStepC
import Derived.Test.YtadjdiocipahhabCodecLeftMath
import Derived.Test.YtadjdiocipahhabAskOpen
namespace Go.Proofs.Ytadjdiocipahhab
namespace CodecLeft
open Go.ChangeShapes Go.WideShapes Go.ChangeAt Go.RowKit B8 Cm
set_option linter.unusedVariables false

theorem sq_nil (w : World) : Sq w none 0 0 [] := ⟨rfl, Nat.le_refl _, fun _ => rfl, fun h => absurd h (by omega), wfs_nil⟩

theorem two_new {w0 W w7 : World} {R : Nat} {a : Option Addr} {n cp : Nat} {bs : List Int} {s : St} {R' : Nat} {a' : Option Addr} {n' cp' : Nat} {bs' : List Int} {s' : St} {R3 : Nat} (T : Two w0 W R a n cp bs s R' a' n' cp' bs' s') (f : Fresh W w7 R3 0 []) (b7 : Below W.heap.size W w7) (hR3 : W.heap.size ≤ R3) :
    ∃ g3 o3 c3, Two w0 w7 R a n cp bs s R3 (some ⟨g3, o3, none⟩) 0 c3 [] ⟨0, 0⟩ := by
  obtain ⟨g3, o3, c3, r7, f7⟩ := f
  have lR : R < W.heap.size := World.block_lt_of_cell? W _ T.one.c0
  have hs := T.bel.size
  refine ⟨g3, o3, c3, T.one.grown (grown_below b7 none) (by simp) (by simp), r7, below_step T.bel b7, ⟨T.old.1, by omega⟩, by omega, fun y o e => ?_, fun y o e => ?_⟩
  · have := (T.a1 y o e).2
    have := b7.size
    omega
  · obtain ⟨rfl, rfl⟩ : g3 = y ∧ o3 = o := by simpa using e
    omega

set_option maxRecDepth 20000 in
set_option maxHeartbeats 4000000 in
theorem walk {a : Option Addr} {len cap : Nat} {bs : List Int} {w : World} (h : Sq w a len cap bs) (hr : cap * 1 ≤ 140737488351232) {b : Option Addr} {m mc : Nat} {ks : Nat → Int × Int} (ha : Asks w b m ks) (hm : m ≤ 140737488351232) :
    Calls Try.prog 3 #[.slice a len cap, .slice b m mc] w fun e w' => e = .returned (.bool true) ∧ Below w.heap.size w w' := by
  have hlc := h.lecap
  have H := hide h
  have HA := hide ha
  have hlen : len ≤ 140737488351232 := by omega
  clear h ha
  have C1 := hide (cnew_any H.out (by omega))
  go_enter Try.func3, Try.ntmps3
  go_wp2_with fail
  refine C1.out.mono ?_
  rintro e w1 ⟨R, rfl, ⟨a1, c1, r1, f1⟩, b1, hR⟩
  have lR := World.block_lt_of_cell? w1 _ r1.c0
  have F1 := hide (fun b off e => (f1 b off e).2)
  have Q1 := hide r1
  have B1 := hide b1
  clear r1 f1 b1 C1
  go_wp2_with fail
  refine (awake_any w1).mono ?_
  rintro e w2 ⟨rfl, b2⟩
  have B2 := hide (below_step B1.out b2)
  have Q2 := hide (Q1.out.grown (grown_below b2 none) (by simp) (by simp))
  have hs := b2.size
  clear b2 B1 Q1
  have CL := cleft_any Q2.out
  rw [Nat.sub_zero] at CL
  have CL := hide CL
  go_wp2_with fail
  refine CL.out.mono ?_
  rintro e w3 ⟨rfl, m3, e3⟩
  have B3 := hide (below_drewN B2.out m3)
  have Q3 := hide (Q2.out.drewN m3)
  rw [← e3] at B3 Q3
  have hs3 : w2.heap.size ≤ w3.heap.size := by rw [e3]; exact Nat.le_refl _
  have F3 : Hid (∀ x o, a1 = some ⟨x, o, none⟩ → x < w3.heap.size) := fun x o e => by have := F1.out x o e; omega
  clear e3 Q2 B2 CL F1 hs hs3 lR
  go_wp2_with fail
  go_loopw [6, 7, 8, 9, 10, 11, 12, 13] (fun l i _ _ _ _ _ _ wr => ∃ (k L : Nat) (s : St), k ≤ m ∧ i = .int .i64 k ∧ l = .int .i64 L ∧ Hid (L = len - s.pl) ∧ Hid (Rd wr R a1 len c1 bs s.pl s.err) ∧ Hid (Below w.heap.size w wr) ∧ Hid (∀ x o, a1 = some ⟨x, o, none⟩ → x < wr.heap.size)) (fun _ i _ _ _ _ _ _ _ => m - (intOf i).toNat)
  case atStart => exact ⟨0, len, ⟨0, 0⟩, Nat.zero_le _, rfl, rfl, rfl, Q3, B3, F3⟩
  case round =>
    obtain ⟨j, L, s, hj, rfl, rfl, HL, HQ, HB, HF⟩ := hrel
    by_cases hjm : j < m
    · obtain ⟨bb, ob, eb, hc0⟩ := HA.out.cells (by omega)
      subst eb
      obtain ⟨d0, d1⟩ := hc0 j hjm
      have hmost := HA.out.bound j hjm
      obtain ⟨q, eq⟩ : ∃ q, q = ks j := ⟨_, rfl⟩
      rw [← eq] at d0 d1 hmost
      rw [← Nat.add_assoc] at d1
      clear eq hc0
      obtain ⟨kk, mm⟩ := q
      have hi : (j : Int) < (m : Int) := by omega
      have i0 : (0 : Int) ≤ (j : Int) := by omega
      have lb := World.block_lt_of_cell? w _ d0
      have KA : Hid (∀ W, Below w.heap.size w W → W.cell? ⟨bb, ob + j * 2, none⟩ = some (.int .i64 kk) ∧ W.cell? ⟨bb, ob + j * 2 + 1, none⟩ = some (.int .i64 mm)) := fun W hW => ⟨(hW.cell (p := ⟨bb, ob + j * 2, none⟩) lb).trans d0, (hW.cell (p := ⟨bb, ob + j * 2 + 1, none⟩) lb).trans d1⟩
      clear d0 d1 lb
      have lR := World.block_lt_of_cell? wr _ HQ.out.c0
      have hBs := HB.out.size
      obtain ⟨p, x⟩ := s
      have i2 : (len : Int) - (L : Int) = (p : Int) := by have := HL.out; have := HQ.out.place; have h' : L = len - p := HL.out; have h'' : p ≤ len := HQ.out.place; omega
      have hpl : p ≤ len := HQ.out.place
      have HLp : Hid (L = len - p) := HL.out
      clear HL
      by_cases h0 : x = 0
      · subst h0
        have HF0 : Hid (faultA ⟨p, 0⟩ = (0, 0)) := rfl
        have HM := hide (ansS_moves bs kk mm ⟨p, 0⟩ rfl)
        go_wp2_with fail
        refine (cfault_any (s := ⟨p, 0⟩) HQ.out).mono ?_
        rintro e w4 ⟨rfl, m4, e4⟩
        rw [HF0.out]
        have Q4 := hide (HQ.out.drewN m4)
        have B4 := hide (below_drewN HB.out m4)
        rw [← e4] at Q4 B4
        have hs4 : wr.heap.size ≤ w4.heap.size := by rw [e4]; exact Nat.le_refl _
        clear e4 HQ HB
        go_wp2_with fail
        refine (new_any (sq_nil w4) (by omega)).mono ?_
        rintro e w5 ⟨R2, rfl, ⟨g2, o2, c2, r5, f5⟩, b5, hR2⟩
        have hs5 := b5.size
        have T5 : Hid (Two w w5 R a1 len c1 bs ⟨p, 0⟩ R2 (some ⟨g2, o2, none⟩) 0 c2 [] ⟨0, 0⟩) := by
          refine ⟨Q4.out.grown (grown_below b5 none) (by simp) (by simp), r5, below_step B4.out b5, ⟨by have := hR; omega, by have := B4.out.size; omega⟩, by omega, fun y o e => ?_, fun y o e => ?_⟩
          · have := HF.out y o e
            omega
          · obtain ⟨rfl, rfl⟩ : g2 = y ∧ o2 = o := by simpa using e
            omega
        have t2 := r5.c2
        have tf := r5.f2
        have T6 := hide (T5.out.second (t := ⟨0, 21⟩) (r5.failed 21) (grown_setCell w5 R2 2 (.int .i64 21)))
        have hs6 : (w5.setCell ⟨R2, 2, none⟩ (.int .i64 21)).heap.size = w5.heap.size := by simp [World.setCell]
        clear r5 b5 f5 Q4 B4 T5 HF
        go_wp2_with fail
        obtain ⟨w6, e6⟩ : ∃ w6, w6 = w5.setCell ⟨R2, 2, none⟩ (.int .i64 21) := ⟨_, rfl⟩
        rw [← e6] at T6 hs6 ⊢
        clear e6 t2 tf
        have hs6' : w6.heap.size = w6.drew.heap.size := rfl
        obtain ⟨d0, d1⟩ := KA.out w6 T6.out.bel
        go_region_held3 (fun w' => w'.cell? ⟨bb, ob + j * 2, none⟩ = some (.int .i64 kk) ∧ w'.cell? ⟨bb, ob + j * 2 + 1, none⟩ = some (.int .i64 mm)) (first | go_keep | exact KA.out _ T7.out.bel | exact KA.out _ T8.out.bel) ((first
          | (go_at_call 8; refine (new_any (sq_nil _) (Nat.zero_le _)).mono ?_; rintro e w7 ⟨R3, rfl, f7, b7, hR3⟩; obtain ⟨g3, o3, c3, t7⟩ := two_new (T6.out.drewN 1) f7 b7 hR3; have T7 := hide t7; clear f7 b7 t7)
          | (go_at_call 9; refine (step_any kk mm hmost ⟨_, _, rfl⟩ T7.out).mono ?_; rintro e w8 ⟨r8, rfl, hr8, t8⟩; have T8 := hide t8; clear hr8 t8)))
        obtain ⟨s', es⟩ : ∃ s', s' = ansS bs kk mm ⟨p, 0⟩ := ⟨_, rfl⟩
        have t8 := T8.out
        rw [← es] at HM t8
        have Q8 := hide t8.one
        have B8 := hide t8.bel
        have F8 := hide (fun y o e => (t8.a1 y o e).2)
        clear T6 T7 T8 t8 es d0 d1 hs6 hs6' KA
        obtain ⟨p', x'⟩ := s'
        have hp' : p' ≤ len := Q8.out.place
        have hm1 : p ≤ p' := HM.out.1
        have HM1 : Hid (¬ x' = 0 → p' = p) := HM.out.2
        clear HM
        obtain ⟨L', eL'⟩ : ∃ L', L' = len - p' := ⟨_, rfl⟩
        have HL' := hide eL'
        have iL : L' ≤ L := by have := HLp.out; omega
        have iL2 : (L' : Int) ≤ (L : Int) := by omega
        have CL : Hid (∀ W, Rd W R a1 len c1 bs p' x' → Calls Try.prog 6 #[.pointer (some ⟨R, 0, none⟩)] W fun e w' => e = .returned (.int .i64 (L' : Int)) ∧ ∃ m, w' = W.drewN m) := by
          intro W hW
          have := cleft_any hW
          rw [← eL'] at this
          exact this
        clear eL'
        by_cases hx' : x' = 0
        · subst hx'
          have HF1 : Hid (faultA ⟨p', 0⟩ = (0, 0)) := rfl
          go_wp2_with fail
          refine (cfault_any (s := ⟨p', 0⟩) Q8.out).mono ?_
          rintro e w9 ⟨rfl, m9, e9⟩
          rw [HF1.out]
          have Q9 := hide (Q8.out.drewN m9)
          have B9 := hide (below_drewN B8.out m9)
          have F9 : Hid (∀ y o, a1 = some ⟨y, o, none⟩ → y < w9.heap.size) := by rw [e9]; exact F8.out
          rw [← e9] at Q9 B9
          clear e9 Q8 B8 F8
          go_wp2_with fail
          refine (CL.out _ Q9.out).mono ?_
          rintro e w10 ⟨rfl, m10, e10⟩
          have Q10 := hide (Q9.out.drewN m10)
          have B10 := hide (below_drewN B9.out m10)
          have F10 : Hid (∀ y o, a1 = some ⟨y, o, none⟩ → y < w10.heap.size) := by rw [e10]; exact F9.out
          rw [← e10] at Q10 B10
          clear e10 Q9 B9 F9
          go_wp2_with fail
          refine (CL.out _ Q10.out).mono ?_
          rintro e w11 ⟨rfl, m11, e11⟩
          have Q11 := hide (Q10.out.drewN m11)
          have B11 := hide (below_drewN B10.out m11)
          have F11 : Hid (∀ y o, a1 = some ⟨y, o, none⟩ → y < w11.heap.size) := by rw [e11]; exact F10.out
          rw [← e11] at Q11 B11
          clear e11 Q10 B10 F10
          go_wp2_with fail
          go_roundw
          case rel => exact ⟨j + 1, L', ⟨p', 0⟩, by omega, by go_num, rfl, HL', Q11, B11, F11⟩
          case measure => simp [intOf]; omega
        · have hpp : p' = p := HM1.out hx'
          have hLL : L' = L := by have := HL'.out; have := HLp.out; omega
          subst hpp
          subst hLL
          have HF1 : Hid (faultA ⟨p', x'⟩ = (x', (p' : Int))) := if_neg hx'
          have hx1 : (x' == 0) = false := by simpa using hx'
          have hx2 : (x' != 0) = true := by simpa using hx'
          go_wp2_with fail
          refine (cfault_any (s := ⟨p', x'⟩) Q8.out).mono ?_
          rintro e w9 ⟨rfl, m9, e9⟩
          rw [HF1.out]
          have Q9 := hide (Q8.out.drewN m9)
          have B9 := hide (below_drewN B8.out m9)
          have F9 : Hid (∀ y o, a1 = some ⟨y, o, none⟩ → y < w9.heap.size) := by rw [e9]; exact F8.out
          rw [← e9] at Q9 B9
          clear e9 Q8 B8 F8
          go_wp2_with fail
          refine (CL.out _ Q9.out).mono ?_
          rintro e w10 ⟨rfl, m10, e10⟩
          have Q10 := hide (Q9.out.drewN m10)
          have B10 := hide (below_drewN B9.out m10)
          have F10 : Hid (∀ y o, a1 = some ⟨y, o, none⟩ → y < w10.heap.size) := by rw [e10]; exact F9.out
          rw [← e10] at Q10 B10
          clear e10 Q9 B9 F9
          go_wp2_with fail
          refine (CL.out _ Q10.out).mono ?_
          rintro e w11 ⟨rfl, m11, e11⟩
          have Q11 := hide (Q10.out.drewN m11)
          have B11 := hide (below_drewN B10.out m11)
          have F11 : Hid (∀ y o, a1 = some ⟨y, o, none⟩ → y < w11.heap.size) := by rw [e11]; exact F10.out
          rw [← e11] at Q11 B11
          clear e11 Q10 B10 F10
          go_wp2_with fail
          refine (CL.out _ Q11.out).mono ?_
          rintro e w12 ⟨rfl, m12, e12⟩
          have Q12 := hide (Q11.out.drewN m12)
          have B12 := hide (below_drewN B11.out m12)
          have F12 : Hid (∀ y o, a1 = some ⟨y, o, none⟩ → y < w12.heap.size) := by rw [e12]; exact F11.out
          rw [← e12] at Q12 B12
          clear e12 Q11 B11 F11
          go_wp2_with fail
          go_roundw
          case rel => exact ⟨j + 1, L', ⟨p', x'⟩, by omega, by go_num, rfl, HL', Q12, B12, F12⟩
          case measure => simp [intOf]; omega
      · have HF0 : Hid (faultA ⟨p, x⟩ = (x, (p : Int))) := if_neg h0
        have HM := hide (ans_fault bs kk mm ⟨p, x⟩ h0)
        have HM2 := hide (ans_fault [] kk mm ⟨0, 21⟩ (show ¬ (21 : Int) = 0 by decide))
        have hx1 : (x == 0) = false := by simpa using h0
        have hx2 : (x != 0) = true := by simpa using h0
        go_wp2_with fail
        refine (cfault_any (s := ⟨p, x⟩) HQ.out).mono ?_
        rintro e w4 ⟨rfl, m4, e4⟩
        rw [HF0.out]
        have Q4 := hide (HQ.out.drewN m4)
        have B4 := hide (below_drewN HB.out m4)
        rw [← e4] at Q4 B4
        have hs4 : wr.heap.size ≤ w4.heap.size := by rw [e4]; exact Nat.le_refl _
        clear e4 HQ HB
        go_wp2_with fail
        refine (new_any (sq_nil w4) (by omega)).mono ?_
        rintro e w5 ⟨R2, rfl, ⟨g2, o2, c2, r5, f5⟩, b5, hR2⟩
        have hs5 := b5.size
        have T5 : Hid (Two w w5 R a1 len c1 bs ⟨p, x⟩ R2 (some ⟨g2, o2, none⟩) 0 c2 [] ⟨0, 0⟩) := by
          refine ⟨Q4.out.grown (grown_below b5 none) (by simp) (by simp), r5, below_step B4.out b5, ⟨by have := hR; omega, by have := B4.out.size; omega⟩, by omega, fun y o e => ?_, fun y o e => ?_⟩
          · have := HF.out y o e
            omega
          · obtain ⟨rfl, rfl⟩ : g2 = y ∧ o2 = o := by simpa using e
            omega
        have t2 := r5.c2
        have tf := r5.f2
        have T6 := hide (T5.out.second (t := ⟨0, 21⟩) (r5.failed 21) (grown_setCell w5 R2 2 (.int .i64 21)))
        have hs6 : (w5.setCell ⟨R2, 2, none⟩ (.int .i64 21)).heap.size = w5.heap.size := by simp [World.setCell]
        clear r5 b5 f5 Q4 B4 T5 HF
        have T6' := T6
        obtain ⟨w6, e6⟩ : ∃ w6, w6 = w5.setCell ⟨R2, 2, none⟩ (.int .i64 21) := ⟨_, rfl⟩
        rw [← e6] at T6 hs6
        obtain ⟨d0, d1⟩ := KA.out w6 T6.out.bel
        have CS := hide (step_any kk mm hmost ⟨_, _, rfl⟩ T6.out)
        rw [e6] at d0 d1 CS
        go_wp2_with fail
        refine CS.out.mono ?_
        rintro e w7 ⟨r, rfl, hr, t7⟩
        obtain rfl : r = true := hr (by rw [HM.out.2, HM2.out.2])
        rw [HM.out.1] at t7
        have Q7 := hide t7.one
        have B7 := hide t7.bel
        have F7 := hide (fun y o e => (t7.a1 y o e).2)
        clear hr t7 CS d0 d1 T6 T6' e6 hs6 t2 tf KA HM HM2
        go_wp2_with fail
        refine (cfault_any (s := ⟨p, x⟩) Q7.out).mono ?_
        rintro e w8 ⟨rfl, m8, e8⟩
        rw [HF0.out]
        have Q8 := hide (Q7.out.drewN m8)
        have B8 := hide (below_drewN B7.out m8)
        have F8 : Hid (∀ y o, a1 = some ⟨y, o, none⟩ → y < w8.heap.size) := by rw [e8]; exact F7.out
        rw [← e8] at Q8 B8
        clear e8 Q7 B7 F7
        have CL : Hid (∀ W, Rd W R a1 len c1 bs p x → Calls Try.prog 6 #[.pointer (some ⟨R, 0, none⟩)] W fun e w' => e = .returned (.int .i64 (L : Int)) ∧ ∃ m, w' = W.drewN m) := by
          intro W hW
          have := cleft_any hW
          rw [← HLp.out] at this
          exact this
        go_wp2_with fail
        refine (CL.out _ Q8.out).mono ?_
        rintro e w9 ⟨rfl, m9, e9⟩
        have Q9 := hide (Q8.out.drewN m9)
        have B9 := hide (below_drewN B8.out m9)
        have F9 : Hid (∀ y o, a1 = some ⟨y, o, none⟩ → y < w9.heap.size) := by rw [e9]; exact F8.out
        rw [← e9] at Q9 B9
        clear e9 Q8 B8 F8
        go_wp2_with fail
        refine (CL.out _ Q9.out).mono ?_
        rintro e w10 ⟨rfl, m10, e10⟩
        have Q10 := hide (Q9.out.drewN m10)
        have B10 := hide (below_drewN B9.out m10)
        have F10 : Hid (∀ y o, a1 = some ⟨y, o, none⟩ → y < w10.heap.size) := by rw [e10]; exact F9.out
        rw [← e10] at Q10 B10
        clear e10 Q9 B9 F9
        go_wp2_with fail
        refine (CL.out _ Q10.out).mono ?_
        rintro e w11 ⟨rfl, m11, e11⟩
        have Q11 := hide (Q10.out.drewN m11)
        have B11 := hide (below_drewN B10.out m11)
        have F11 : Hid (∀ y o, a1 = some ⟨y, o, none⟩ → y < w11.heap.size) := by rw [e11]; exact F10.out
        rw [← e11] at Q11 B11
        clear e11 Q10 B10 F10
        go_wp2_with fail
        go_roundw
        case rel => exact ⟨j + 1, L, ⟨p, x⟩, by omega, by go_num, rfl, HLp, Q11, B11, F11⟩
        case measure => simp [intOf]; omega
    · go_wp2_with fail
      go_ret
      exact ⟨rfl, HB.out⟩

set_option maxRecDepth 100000 in
theorem lifted (os : Os) (started : os.Started) (H : Type) (enc : TypeId × Value → H) :
    ReturnsInHanded {} Try.checked os 3 .any (Rows.codecLeftSpec.pre6 enc Try.prog Try.f3 Rows.codecLeftRow.domain false) (Rows.codecLeftSpec.post enc Try.prog Try.f3 false true false false) := by
  refine returnsInHanded_of_change_sized (C := Try.checked) own started (by kernel_rfl) Try.func3
    (ChangeSpec.witness6 (enc := enc) (C := Try.checked) false ⟨#[], #[.slice none 0 0, .slice none 0 0], []⟩ 8 (by kernel_rfl) (by kernel_rfl) (by kernel_rfl) (by kernel_rfl)) ?_
  intro W base args ds gs before hval0 hW hcnd hsz0 _
  have hsz : (DataW.weightsEach Try.prog (Try.f3.params.toList ++ Rows.codecLeftSpec.plain.varTypes Try.prog) (ds ++ gs)).all (· ≤ reachBytes) = true := hsz0
  have hval : ∀ (j : Nat) t v, Try.f3.params[j]? = some t → args[j]? = some v → Value.okWide Try.prog W .any base t v := hval0
  have hW' := hW
  obtain ⟨p, q, hA0, hV, rfl, hfz, hnd⟩ := hW
  have hA : DataW.TrodAll enc Try.prog W 0 (fun _ => true) true Try.f3.params.toList args.toList ds p := hA0
  rw [Try.params3] at hA hval hsz
  obtain ⟨v0, vs0, d0, ds0, p0, q0, hargs, rfl, rfl, h0, r0⟩ := trodAll_cons hA
  obtain ⟨v1, vs1, d1, ds1, p1, q1, rfl, rfl, rfl, h1, r1⟩ := trodAll_cons r0
  obtain ⟨rfl, rfl, rfl⟩ := trodAll_nil r1
  obtain rfl : args = #[v0, v1] := by cases args; simp_all
  obtain ⟨rfl, rfl⟩ := trodVars_none hV
  have lt0 : ∀ x ∈ p0, x.block < W.heap.size := by obtain ⟨m, hm⟩ := h0; exact DataW.trod_lt m _ _ _ hm
  obtain ⟨a, len, cap, bs, rfl, h⟩ := open_sq_sized (hval 0 22 v0 rfl rfl) h0 (fun elems spare e => by have h := hsz; rw [e] at h; exact sized_slice h (j := 0) (t := 22) (e := 5) rfl rfl Try.underlying22)
  have lt1 : ∀ x ∈ p1, x.block < W.heap.size := by obtain ⟨m, hm⟩ := h1; exact DataW.trod_lt m _ _ _ hm
  obtain ⟨b, m, mc, ks, rfl, hb⟩ := open_asks_sized (hval 1 23 v1 rfl rfl) h1 (fun elems spare e => by have h := hsz; rw [e] at h; exact sized_slice h (j := 1) (t := 23) (e := 37) rfl rfl Try.underlying23)
  clear hA0 hval0
  refine (walk h.1 h.2 hb.1 hb.2).mono fun e W' ⟨he, bel⟩ => ?_
  subst he
  exact ⟨_, rfl, _, _, _, [], _, [], hW', trodAll_mk1 (shut_bool Try.underlying4 _), (trodAll_cons_mk (Below.trod laidOut (by kernel_rfl) (of_decide_eq_true (by kernel_rfl)) h0 bel lt0) (trodAll_cons_mk (Below.trod laidOut (by kernel_rfl) (of_decide_eq_true (by kernel_rfl)) h1 bel lt1) trodAll_mk0)), rfl, bel.frame _, fun h => by cases h⟩

theorem over : Rows.codecLeftRow.holds Try.pinned (OpenSpec.ofChange Rows.codecLeftSpec) :=
  OpenClaim.holds_of_wide 3 Try.f3 rfl rfl rfl rfl rfl rfl rfl ⟨rfl, rfl, rfl, rfl, rfl⟩ rfl rfl rfl rfl rfl (by kernel_rfl) Try.func3 (by kernel_rfl)
    (of_decide_eq_true (by kernel_rfl)) (by unfold Func.isWrapper; first | (rw [if_pos (by decide +kernel)]; kernel_rfl) | (rw [if_neg (by decide +kernel)]; exact ⟨rfl, rfl⟩))
    (fun os started H enc _ => lifted os started H enc)

theorem proved : Rows.CodecLeftSaid := over
#print axioms proved
end CodecLeft
theorem codecLeft_holds : Rows.CodecLeftSaid := CodecLeft.proved
end Go.Proofs.Ytadjdiocipahhab
