/- What the document's own reader (purseref02) answers, and how it stands then, at the landed code. -/
import Derived.Test.YtadjdiocipahhabCodecRefRead
import Derived.Test.YtadjdiocipahhabCodecRdMath
import Derived.Laws.World
import Derived.Test.YtadjdiocipahhabSm8
namespace Go.Proofs.Ytadjdiocipahhab
open Go.ChangeShapes Go.WideShapes Go.ChangeAt Go.RowKit B8 Cm
set_option linter.unusedVariables false

theorem fail_any {w : World} {R : Nat} {a : Option Addr} {n cp : Nat} {bs : List Int} {s : Nat} (x : Int) (h : Rd w R a n cp bs s 0) :
    Calls Try.prog 34 #[.pointer (some ⟨R, 0, none⟩), .int .i64 x] w fun e w' => e = .returned (.tuple #[]) ∧ Rd w' R a n cp bs s x ∧ w.grownBy w' (some R) := by
  have c2 := h.c2
  have f2 := h.f2
  have H := hide h
  clear h
  go_enter Try.func34, Try.ntmps34
  go_wp2_with fail
  refine bodyPost_end (results_none rfl _ _ _) rfl ?_
  exact ⟨rfl, H.out.failed x, grown_setCell _ _ _ _⟩

theorem num_any {w : World} {R : Nat} {a : Option Addr} {n cp : Nat} {bs : List Int} {s : St} (h : Rd w R a n cp bs s.pl s.err) :
    Calls Try.prog 25 #[.pointer (some ⟨R, 0, none⟩)] w fun e w' => e = .returned (.int .u64 ((numA bs s).v : Nat)) ∧ Rd w' R a n cp bs (numA bs s).s.pl (numA bs s).s.err ∧ w.grownBy w' (some R) := by
  obtain ⟨pl, err⟩ := s
  have c2 := h.c2
  have H := hide h
  have HL : Hid (bs.length = n) := h.sq.length
  clear h
  by_cases h0 : err = 0
  · subst h0
    have CN := hide (number_any H.out)
    by_cases h1 : (numG (bs.drop pl) 0 0).e = 0
    · have HV := hide (numA_good bs ⟨pl, 0⟩ rfl h1)
      have HU := hide (numG_used _ _ _ h1).2
      have HT : Hid (numTo pl (numG (bs.drop pl) 0 0) = ((pl + (numG (bs.drop pl) 0 0).used : Nat) : Int)) := if_pos h1
      have HE := hide h1
      clear h1
      go_enter Try.func25, Try.ntmps25
      go_wp2_with fail
      refine CN.out.mono ?_
      rintro e w' ⟨rfl, m, rfl⟩
      rw [HE.out, HT.out]
      have H' := hide (H.out.drewN m)
      have c1 := H'.out.c1
      have f1 := H'.out.f1
      go_wp2_with fail
      go_ret
      have hu := HU.out
      have hl := HL.out
      have hp := H.out.place
      simp only [List.length_drop, Nat.zero_add] at hp hu
      rw [HV.out]
      exact ⟨rfl, H'.out.moved _ (by omega), World.grownBy.trans (grown_drewN w m _) (grown_setCell _ _ _ _)⟩
    · have HV := hide (numA_bad bs ⟨pl, 0⟩ rfl h1)
      have HT : Hid (numTo pl (numG (bs.drop pl) 0 0) = 0) := if_neg h1
      have HE := hide h1
      obtain ⟨x, ex⟩ : ∃ x, x = (numG (bs.drop pl) 0 0).e := ⟨_, rfl⟩
      rw [← ex] at h1
      have HX := hide ex
      clear ex
      have hx : (x == 0) = false := by simpa using h1
      go_enter Try.func25, Try.ntmps25
      go_wp2_with fail
      refine CN.out.mono ?_
      rintro e w' ⟨rfl, m, rfl⟩
      rw [HT.out, ← HX.out]
      have H' := hide (H.out.drewN m)
      go_wp2_with fail
      refine (fail_any x H'.out).mono ?_
      rintro e w' ⟨rfl, hr, hg⟩
      go_wp2_with fail
      go_ret
      rw [HV.out, ← HX.out]
      exact ⟨rfl, hr, World.grownBy.trans (grown_drewN w m _) hg⟩
  · have HV := hide (numA_fault bs ⟨pl, err⟩ h0)
    have hx : (err == 0) = false := by simpa using h0
    go_enter Try.func25, Try.ntmps25
    go_wp2_with fail
    go_ret
    rw [HV.out]
    exact ⟨rfl, H.out, World.grownBy.refl _ _⟩

theorem int_any {w : World} {R : Nat} {a : Option Addr} {n cp : Nat} {bs : List Int} {s : St} (h : Rd w R a n cp bs s.pl s.err) :
    Calls Try.prog 15 #[.pointer (some ⟨R, 0, none⟩)] w fun e w' => e = .returned (.int .i64 (intA bs s).v) ∧ Rd w' R a n cp bs (intA bs s).s.pl (intA bs s).s.err ∧ w.grownBy w' (some R) := by
  have CN := hide (num_any h)
  have HL := hide (numA_lt bs s (bs_bd h.sq.wf))
  unfold intA
  obtain ⟨A, eA⟩ : ∃ A, A = numA bs s := ⟨_, rfl⟩
  rw [← eA] at CN HL ⊢
  clear h eA
  obtain ⟨v, s'⟩ := A
  have hv : v < 18446744073709551616 := HL.out
  clear HL
  go_enter Try.func15, Try.ntmps15
  go_wp2_with fail
  refine CN.out.mono ?_
  rintro e w' ⟨rfl, hr, hg⟩
  by_cases h2 : v % 2 = 1
  · have HZ := hide h2
    have e2 : ((v : Int) % 2 == 1) = true := by simp; omega
    clear h2
    go_wp2_with fail
    go_ret
    refine ⟨ret1 ?_, hr, hg⟩
    show _ = zag v
    unfold zag
    rw [if_pos HZ.out]
    omega
  · have HZ := hide h2
    have e2 : ((v : Int) % 2 == 1) = false := by simp; omega
    clear h2
    go_wp2_with fail
    go_ret
    refine ⟨ret1 ?_, hr, hg⟩
    show _ = zag v
    unfold zag
    rw [if_neg HZ.out]
    omega

theorem byte_any {w : World} {R : Nat} {a : Option Addr} {n cp : Nat} {bs : List Int} {s : St} (h : Rd w R a n cp bs s.pl s.err) :
    Calls Try.prog 17 #[.pointer (some ⟨R, 0, none⟩)] w fun e w' => e = .returned (.int .u8 (byteA bs s).v) ∧ Rd w' R a n cp bs (byteA bs s).s.pl (byteA bs s).s.err ∧ w.grownBy w' (some R) := by
  obtain ⟨pl, err⟩ := s
  have c0 := h.c0
  have c1 := h.c1
  have c2 := h.c2
  have f1 := h.f1
  have H := hide h
  have HL : Hid (bs.length = n) := h.sq.length
  have hro := h.room
  have hpl := h.place
  clear h
  by_cases h0 : err = 0
  · subst h0
    by_cases h1 : pl < n
    · have HV := hide (byteA_good bs ⟨pl, 0⟩ rfl (by rw [HL.out]; exact h1))
      obtain ⟨b, off, ea, hc⟩ := H.out.sq.cells (by omega)
      have d := hc pl h1
      obtain ⟨c, ec⟩ : ∃ c, c = bs[pl]?.getD 0 := ⟨_, rfl⟩
      rw [← ec] at d
      rw [ea] at c0
      have hbR : b ≠ R := H.out.apart b off ea
      have EC := hide ec
      clear ec hc ea
      have i1 : (pl : Int) < (n : Int) := by omega
      go_enter Try.func17, Try.ntmps17
      go_wp2_with fail
      go_quiet (fail)
      go_wp2_with fail
      have H' := hide ((H.out.drewN nq).moved (pl + 1) (by omega))
      have G' := hide (World.grownBy.trans (grown_drewN w nq (some R)) (grown_setCell (w.drewN nq) R 1 (.int .i64 ((pl + 1 : Nat) : Int))))
      rw [show (pl : Int) + 1 = ((pl + 1 : Nat) : Int) by omega] at *
      obtain ⟨w1, e1⟩ : ∃ w1, w1 = (w.drewN nq).setCell ⟨R, 1, none⟩ (.int .i64 ((pl + 1 : Nat) : Int)) := ⟨_, rfl⟩
      rw [← e1] at H' G' ⊢
      clear e1 c0 c1 c2 f1
      have c0 := H'.out.c0
      have c1 := H'.out.c1
      obtain ⟨b', off', ea, hc⟩ := H'.out.sq.cells (by omega)
      have d' := hc pl h1
      rw [← EC.out] at d'
      rw [ea] at c0
      clear ea hc d hbR
      have i2 : ((pl + 1 : Nat) : Int) - 1 = (pl : Int) := by omega
      go_quiet (fail)
      go_wp2_with fail
      go_ret
      rw [HV.out]
      exact ⟨ret1 EC.out, H'.out.drewN _, World.grownBy.trans G'.out (grown_drewN _ _ _)⟩
    · have HV := hide (byteA_short bs ⟨pl, 0⟩ rfl (by rw [HL.out]; exact h1))
      have i1 : (n : Int) ≤ (pl : Int) := by omega
      have h1' : n ≤ pl := by omega
      clear h1
      go_enter Try.func17, Try.ntmps17
      go_wp2_with fail
      go_quiet (fail)
      go_wp2_with fail
      refine (fail_any 20 (H.out.drewN nq)).mono ?_
      rintro e w' ⟨rfl, hr, hg⟩
      go_wp2_with fail
      go_ret
      rw [HV.out]
      exact ⟨rfl, hr, World.grownBy.trans (grown_drewN w nq _) hg⟩
  · have HV := hide (byteA_fault bs ⟨pl, err⟩ h0)
    have hx : (err == 0) = false := by simpa using h0
    go_enter Try.func17, Try.ntmps17
    go_wp2_with fail
    go_ret
    rw [HV.out]
    exact ⟨rfl, H.out, World.grownBy.refl _ _⟩
end Go.Proofs.Ytadjdiocipahhab
