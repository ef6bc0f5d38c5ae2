/- What the document's own reader (purseref02) answers, and how it stands then: flags, counts, what is left, the fault, the end. -/
import Derived.Test.YtadjdiocipahhabCodecRefRd
namespace Go.Proofs.Ytadjdiocipahhab
open Go.ChangeShapes Go.WideShapes Go.ChangeAt Go.RowKit B8 Cm
set_option linter.unusedVariables false

theorem flag_any {w : World} {R : Nat} {a : Option Addr} {n cp : Nat} {bs : List Int} {s : St} (h : Rd w R a n cp bs s.pl s.err) :
    Calls Try.prog 19 #[.pointer (some ⟨R, 0, none⟩)] w fun e w' => e = .returned (.bool (flagA bs s).v) ∧ Rd w' R a n cp bs (flagA bs s).s.pl (flagA bs s).s.err ∧ w.grownBy w' (some R) := by
  have c1 := h.c1
  have CB := hide (byte_any h)
  have hpl := h.place
  have hbad := hide (flagA_bad bs s)
  have hgood := hide (flagA_good bs s)
  have herr := hide (byteA_err bs s)
  obtain ⟨A, eA⟩ : ∃ A, A = byteA bs s := ⟨_, rfl⟩
  rw [← eA] at CB hbad hgood herr
  clear h eA
  obtain ⟨c, s'⟩ := A
  obtain ⟨pl, err⟩ := s
  go_enter Try.func19, Try.ntmps19
  go_wp2_with fail
  refine CB.out.mono ?_
  rintro e w1 ⟨rfl, hr, hg⟩
  have H1 := hide hr
  have G1 := hide hg
  clear hr hg
  by_cases h1 : 1 < c
  · have HV := hide (hbad.out h1)
    have he : s'.err = 0 := Decidable.by_contra fun h => by
      have := herr.out h
      have : c = 0 := this
      omega
    have HE := hide he
    clear he
    have f1 := H1.out.f1
    have d1 := H1.out.c1
    have q1 : decide (1 < c) = true := by simpa using h1
    go_wp2_with fail
    have H2 := hide (H1.out.moved pl hpl)
    rw [HE.out] at H2
    refine (fail_any 21 H2.out).mono ?_
    rintro e w2 ⟨rfl, hr2, hg2⟩
    go_wp2_with fail
    go_ret
    rw [HV.out]
    exact ⟨rfl, hr2, World.grownBy.trans G1.out (World.grownBy.trans (grown_setCell _ _ _ _) hg2)⟩
  · have HV := hide (hgood.out (Int.not_lt.1 h1))
    have q1 : decide (1 < c) = false := by simpa using h1
    go_wp2_with fail
    go_ret
    rw [HV.out]
    refine ⟨?_, H1.out, G1.out⟩
    show _ = Ending.returned (.bool (decide (c = 1)))
    congr 2

theorem count_at {w : World} {R : Nat} {a : Option Addr} {n cp : Nat} {bs : List Int} {s : St} (most m : Int) (hm : (0 < most ∧ most = m) ∨ (most ≤ 0 ∧ m = 0)) (h9 : most < 9223372036854775808) (h : Rd w R a n cp bs s.pl s.err) :
    Calls Try.prog 24 #[.pointer (some ⟨R, 0, none⟩), .int .i64 most] w fun e w' => e = .returned (.int .i64 ((countA bs most s).v : Nat)) ∧ Rd w' R a n cp bs (countA bs most s).s.pl (countA bs most s).s.err ∧ w.grownBy w' (some R) := by
  have c1 := h.c1
  have CN := hide (num_any h)
  have hpl := h.place
  have hmax : max 0 most = m := by omega
  have hbad := countA_long bs most s
  have hgood := fun h => countA_good bs most s (Int.not_lt.2 h)
  rw [hmax] at hbad hgood
  have HB := hide hbad
  have HG := hide hgood
  have herr := hide (numA_err bs s)
  have hlt := hide (numA_lt bs s (bs_bd h.sq.wf))
  clear hmax hbad hgood
  obtain ⟨A, eA⟩ : ∃ A, A = numA bs s := ⟨_, rfl⟩
  rw [← eA] at CN HB HG herr hlt
  clear h eA
  obtain ⟨c, s'⟩ := A
  obtain ⟨pl, err⟩ := s
  have hc : c < 18446744073709551616 := hlt.out
  clear hlt
  rcases hm with ⟨hm, rfl⟩ | ⟨hm, rfl⟩
  all_goals
    go_enter Try.func24, Try.ntmps24
    go_wp2_with fail
    refine CN.out.mono ?_
    rintro e w1 ⟨rfl, hr, hg⟩
    have H1 := hide hr
    have G1 := hide hg
    clear hr hg
  · by_cases h1 : most < (c : Int)
    · have HV := hide (HB.out h1)
      have he : s'.err = 0 := Decidable.by_contra fun h => by
        have := herr.out h
        have : c = 0 := this
        omega
      have HE := hide he
      clear he
      have f1 := H1.out.f1
      have d1 := H1.out.c1
      have q1 : decide (most < (c : Int)) = true := by simpa using h1
      go_wp2_with fail
      have H2 := hide (H1.out.moved pl hpl)
      rw [HE.out] at H2
      refine (fail_any 22 H2.out).mono ?_
      rintro e w2 ⟨rfl, hr2, hg2⟩
      go_wp2_with fail
      go_ret
      rw [HV.out]
      exact ⟨rfl, hr2, World.grownBy.trans G1.out (World.grownBy.trans (grown_setCell _ _ _ _) hg2)⟩
    · have HV := hide (HG.out (Int.not_lt.1 h1))
      have q1 : decide (most < (c : Int)) = false := by simpa using h1
      have c9 : (c : Int) < 9223372036854775808 := by omega
      go_wp2_with fail
      go_ret
      rw [HV.out]
      exact ⟨rfl, H1.out, G1.out⟩
  · by_cases h1 : 0 < c
    · have HV := hide (HB.out (by omega))
      have he : s'.err = 0 := Decidable.by_contra fun h => by
        have := herr.out h
        have : c = 0 := this
        omega
      have HE := hide he
      clear he
      have f1 := H1.out.f1
      have d1 := H1.out.c1
      have q1 : decide (0 < (c : Int)) = true := by simpa using h1
      go_wp2_with fail
      have H2 := hide (H1.out.moved pl hpl)
      rw [HE.out] at H2
      refine (fail_any 22 H2.out).mono ?_
      rintro e w2 ⟨rfl, hr2, hg2⟩
      go_wp2_with fail
      go_ret
      rw [HV.out]
      exact ⟨rfl, hr2, World.grownBy.trans G1.out (World.grownBy.trans (grown_setCell _ _ _ _) hg2)⟩
    · have HV := hide (HG.out (by omega))
      obtain rfl : c = 0 := by omega
      go_wp2_with fail
      go_ret
      rw [HV.out]
      exact ⟨rfl, H1.out, G1.out⟩
theorem count_any {w : World} {R : Nat} {a : Option Addr} {n cp : Nat} {bs : List Int} {s : St} (most : Int) (h9 : most < 9223372036854775808) (h : Rd w R a n cp bs s.pl s.err) :
    Calls Try.prog 24 #[.pointer (some ⟨R, 0, none⟩), .int .i64 most] w fun e w' => e = .returned (.int .i64 ((countA bs most s).v : Nat)) ∧ Rd w' R a n cp bs (countA bs most s).s.pl (countA bs most s).s.err ∧ w.grownBy w' (some R) := by
  by_cases hm : 0 < most
  · exact count_at most most (.inl ⟨hm, rfl⟩) h9 h
  · exact count_at most 0 (.inr ⟨by omega, rfl⟩) h9 h

end Go.Proofs.Ytadjdiocipahhab
