/- What the landed reader's Text answers, and how it stands then. No condition. -/
import Derived.Test.YtfdejkfbjmkngabCodecCalls
import Derived.Deep.RegionHeld3
namespace Go.Proofs.Ytfdejkfbjmkngab
open Go.ChangeShapes Go.WideShapes Go.ChangeAt Go.RowKit B8 Cm
set_option linter.unusedVariables false

/-- what Text's reading answers: the bytes, the fault, the place behind them -/
def textR (bs : List Int) (most : Int) (pl : Nat) : List Int × Int × Nat :=
  if (upR (numG (bs.drop pl) 0 0) most).2 = 0 then
    (if bs.length - (pl + (numG (bs.drop pl) 0 0).used) < (upR (numG (bs.drop pl) 0 0) most).1.toNat then ([], 20, pl)
     else ((bs.drop (pl + (numG (bs.drop pl) 0 0).used)).take (upR (numG (bs.drop pl) 0 0) most).1.toNat, 0, pl + (numG (bs.drop pl) 0 0).used + (upR (numG (bs.drop pl) 0 0) most).1.toNat))
  else ([], (upR (numG (bs.drop pl) 0 0) most).2, pl)

theorem upR_nonneg (G : NumR) (most : Int) : 0 ≤ (upR G most).1 := by
  unfold upR
  split
  · split
    · exact Int.le_refl _
    · exact Int.natCast_nonneg _
  · exact Int.le_refl _

theorem upR_used (r : List Int) (most : Int) (h : (upR (numG r 0 0) most).2 = 0) : 0 < (numG r 0 0).used := by
  by_cases h1 : (numG r 0 0).e = 0
  · exact (numG_used r 0 0 h1).1
  · have e : upR (numG r 0 0) most = (0, (numG r 0 0).e) := if_neg h1
    rw [e] at h
    exact absurd h h1

/-- the bytes that were handed out lie in new memory -/
def Handed (B : Nat) (bs : List Int) (V : Value) (w : World) : Prop := ∃ a cp, V = .slice a bs.length cp ∧ Mine w B a bs.length cp bs

theorem clos_text {w : World} {R C D : Nat} {a : Option Addr} {n cp : Nat} {bs : List Int} {pl : Nat} (most : Int) (h9 : most < 9223372036854775808) (h : Rd w R a n cp bs pl 0)
    (hC : w.cell? ⟨C, 0, none⟩ = some (.pointer (some ⟨R, 0, none⟩))) (hD : w.cell? ⟨D, 0, none⟩ = some (.int .i64 most)) (hCR : C ≠ R) (hDR : D ≠ R) :
    Calls Try.prog 91 #[.pointer (some ⟨C, 0, none⟩), .pointer (some ⟨D, 0, none⟩)] w (Read R a n cp bs (textR bs most pl).2.1 (textR bs most pl).2.2 (Handed w.heap.size (textR bs most pl).1) w) := by
  have CU := cupto_any most h9 h
  have HL : Hid (bs.length = n) := h.sq.length
  have h0 := upR_nonneg (numG (bs.drop pl) 0 0) most
  have hu := upR_used (bs.drop pl) most
  unfold textR
  obtain ⟨u, eu⟩ : ∃ u, u = (numG (bs.drop pl) 0 0).used := ⟨_, rfl⟩
  obtain ⟨U, eU⟩ : ∃ U, U = upR (numG (bs.drop pl) 0 0) most := ⟨_, rfl⟩
  rw [← eu, ← eU] at CU hu ⊢
  rw [← eU] at h0
  clear h eu eU
  obtain ⟨c', x⟩ := U
  obtain ⟨c, rfl⟩ := Int.eq_ofNat_of_zero_le h0
  have CU := hide CU
  clear h0
  simp only [Int.toNat_natCast]
  by_cases hx : x = 0
  · subst hx
    by_cases h1 : n - (pl + u) < c
    · have HV : Hid ((if (0 : Int) = 0 then (if bs.length - (pl + u) < c then (([] : List Int), (20 : Int), pl) else ((bs.drop (pl + u)).take c, 0, pl + u + c)) else ([], 0, pl)) = ([], 20, pl)) := by
        show _ = _
        rw [if_pos rfl, HL.out, if_pos h1]
      rw [HV.out]
      go_enter Try.func91, Try.ntmps91
      go_wp2_with fail
      refine CU.out.mono ?_
      rintro e w1 ⟨rfl, p1, hr, hp, hg⟩
      obtain rfl : p1 = pl + u := hp (by trivial)
      have dC := hg.cell hC (by simpa using hCR)
      have H1 := hide hr
      have G1 := hide hg
      clear hr hg hp
      have i1 : decide (((n - (pl + u) : Nat) : Int) < (c : Int)) = true := by simp; omega
      have i2 : ((n - (pl + u) : Nat) : Int) < (c : Int) := by omega
      go_wp2_with fail
      refine (cleft_any H1.out).mono ?_
      rintro e w2 ⟨rfl, m, rfl⟩
      go_wp2_with fail
      go_ret2
      exact ⟨_, _, rfl, H1.out.drewN m, fun h => absurd h (by decide), ⟨none, 0, rfl, ⟨rfl, Nat.le_refl _, fun _ => rfl, fun h => absurd h (by simp), wfs_nil⟩, fun ad h => absurd h (by simp)⟩, World.grownBy.trans G1.out (grown_drewN _ _ _)⟩
    · have HV : Hid ((if (0 : Int) = 0 then (if bs.length - (pl + u) < c then (([] : List Int), (20 : Int), pl) else ((bs.drop (pl + u)).take c, 0, pl + u + c)) else ([], 0, pl)) = ((bs.drop (pl + u)).take c, 0, pl + u + c)) := by
        show _ = _
        rw [if_pos rfl, HL.out, if_neg h1]
      rw [HV.out]
      go_enter Try.func91, Try.ntmps91
      go_wp2_with fail
      refine CU.out.mono ?_
      rintro e w1 ⟨rfl, p1, hr, hp, hg⟩
      obtain rfl : p1 = pl + u := hp (by trivial)
      have dC := hg.cell hC (by simpa using hCR)
      have H1 := hide hr
      have G1 := hide hg
      clear hr hg hp
      have i1 : decide (((n - (pl + u) : Nat) : Int) < (c : Int)) = false := by simp; omega
      have i2 : (c : Int) ≤ ((n - (pl + u) : Nat) : Int) := by omega
      go_wp2_with fail
      refine (cleft_any H1.out).mono ?_
      rintro e w2 ⟨rfl, m, ew⟩
      have hu0 : 0 < u := hu (by trivial)
      have H2 := hide (H1.out.drewN m)
      have G2 := hide (World.grownBy.trans G1.out (grown_drewN w1 m (some R)))
      have eC : w2.cell? ⟨C, 0, none⟩ = some (.pointer (some ⟨R, 0, none⟩)) := by rw [ew]; exact dC
      rw [← ew] at H2 G2
      clear ew H1 G1 dC hu CU
      obtain ⟨p1, ep⟩ : ∃ p1, p1 = pl + u := ⟨_, rfl⟩
      rw [← ep] at H2 i1 i2 h1 HV ⊢
      have hp1 := H2.out.place
      have hro := H2.out.room
      have hlc := H2.out.sq.lecap
      obtain ⟨b, off, ea, _⟩ := H2.out.sq.cells (by omega)
      subst ea
      have EP := hide ep
      have p0 : 0 < p1 := by omega
      clear ep
      have d0 := H2.out.c0
      have d1 := H2.out.c1
      have f1 := H2.out.f1
      have hb : b ≠ R := H2.out.apart b off rfl
      go_wp2_with fail
      have H3 := hide (H2.out.moved (p1 + c) (by omega))
      have G3 := hide (World.grownBy.trans G2.out (grown_setCell w2 R 1 (.int .i64 ((p1 + c : Nat) : Int))))
      have eC3 : (w2.setCell ⟨R, 1, none⟩ (.int .i64 ((p1 + c : Nat) : Int))).cell? ⟨C, 0, none⟩ = some (.pointer (some ⟨R, 0, none⟩)) := (grown_setCell w2 R 1 (.int .i64 ((p1 + c : Nat) : Int))).cell eC (by simpa using hCR)
      rw [show ((p1 : Int) + (c : Int)) = ((p1 + c : Nat) : Int) by omega] at *
      obtain ⟨w3, e3⟩ : ∃ w3, w3 = w2.setCell ⟨R, 1, none⟩ (.int .i64 ((p1 + c : Nat) : Int)) := ⟨_, rfl⟩
      rw [← e3] at H3 G3 eC3 ⊢
      clear e3 d0 d1 f1 eC H2 G2
      obtain ⟨q, hq⟩ : ∃ q, q = p1 + c := ⟨_, rfl⟩
      rw [← hq] at H3 HV ⊢
      have HQ := hide hq
      have d0 := H3.out.c0
      have d1 := H3.out.c1
      have i3 : (0 : Int) ≤ (p1 : Int) := by omega
      have i4 : (p1 : Int) ≤ (q : Int) := by omega
      have i5 : (q : Int) ≤ (cp : Int) := by omega
      have i6 : q ≤ cp := by omega
      have i7 : p1 ≤ q := by omega
      have i10 : (0 : Int) ≤ (q : Int) := by omega
      have i9 : max (q : Int) 0 = q := by omega
      have K0 := hide d0
      have K1 := hide d1
      have KC := hide eC3
      have LR := hide (World.block_lt_of_cell? w3 _ d0)
      have LC := hide (World.block_lt_of_cell? w3 _ eC3)
      rcases (show cp ≠ p1 ∨ (cp = p1 ∧ n = p1 ∧ c = 0 ∧ q = p1) by omega) with hcp | ⟨ecp, en, ec, eq⟩
      · have q2 := ((H3.out.sq.take q (by omega)).drop p1 i7 (some ⟨b, off + p1, none⟩) (fun h => absurd h (by simp)) (fun _ => rfl))
        rw [List.drop_take, show q - p1 = c by omega] at q2
        have i11 : q - p1 = c := by omega
        clear hq
        have CC := hide (cut_sq (q2.drew 1) (by omega))
        clear q2
        go_region_held3 (fun w' => w'.cell? ⟨R, 0, none⟩ = some (.slice (some ⟨b, off, none⟩) n cp) ∧ w'.cell? ⟨R, 1, none⟩ = some (.int .i64 (q : Int)) ∧ w'.cell? ⟨C, 0, none⟩ = some (.pointer (some ⟨R, 0, none⟩))) (first | go_keep | exact ⟨(hb4.cell (p := ⟨R, 0, none⟩) LR.out).trans K0.out, (hb4.cell (p := ⟨R, 1, none⟩) LR.out).trans K1.out, (hb4.cell (p := ⟨C, 0, none⟩) LC.out).trans KC.out⟩)
          ((go_at_call 59; refine CC.out.mono ?_; rintro e w4 ⟨a4, rfl, hm4, hb4⟩))
        have M4 := hide hm4
        have B4 := hide (show Below w3.heap.size w3 w4 from ⟨hb4.os, hb4.tape, hb4.output, hb4.size, hb4.block⟩)
        clear hm4 hb4
        go_wp2_with fail
        go_ret2
        have hlen : ((bs.drop p1).take c).length = c := by have := HL.out; simp; omega
        rw [← EP.out]
        have M5 := M4.out.base (B' := w.heap.size) G3.out.size
        refine ⟨_, q, rfl, H3.out.grown (grown_below B4.out none) (by simp) (by simp), fun _ => HQ.out, ⟨a4, c, ?_, ?_⟩, World.grownBy.trans G3.out (grown_below B4.out _)⟩
        · rw [hlen]; rfl
        · rw [hlen]; exact M5
      · subst ec; subst eq; subst en; subst ecp
        have q2 := ((H3.out.sq.take cp (by omega)).drop cp i7 (some ⟨b, off, none⟩) (fun h => absurd h (by simp)) (fun h => by omega))
        rw [List.drop_take, show cp - cp = 0 by omega] at q2
        have i11 : cp - cp = 0 := by omega
        clear hq
        have CC := hide (cut_sq (q2.drew 1) (by omega))
        clear q2
        go_region_held3 (fun w' => w'.cell? ⟨R, 0, none⟩ = some (.slice (some ⟨b, off, none⟩) cp cp) ∧ w'.cell? ⟨R, 1, none⟩ = some (.int .i64 (cp : Int)) ∧ w'.cell? ⟨C, 0, none⟩ = some (.pointer (some ⟨R, 0, none⟩))) (first | go_keep | exact ⟨(hb4.cell (p := ⟨R, 0, none⟩) LR.out).trans K0.out, (hb4.cell (p := ⟨R, 1, none⟩) LR.out).trans K1.out, (hb4.cell (p := ⟨C, 0, none⟩) LC.out).trans KC.out⟩)
          ((go_at_call 59; refine CC.out.mono ?_; rintro e w4 ⟨a4, rfl, hm4, hb4⟩))
        have M4 := hide hm4
        have B4 := hide (show Below w3.heap.size w3 w4 from ⟨hb4.os, hb4.tape, hb4.output, hb4.size, hb4.block⟩)
        clear hm4 hb4
        go_wp2_with fail
        go_ret2
        have hlen : ((bs.drop cp).take 0).length = 0 := by have := HL.out; simp
        rw [← EP.out]
        have M5 := M4.out.base (B' := w.heap.size) G3.out.size
        refine ⟨_, cp, rfl, H3.out.grown (grown_below B4.out none) (by simp) (by simp), fun _ => HQ.out, ⟨a4, 0, ?_, ?_⟩, World.grownBy.trans G3.out (grown_below B4.out _)⟩
        · rw [hlen]; rfl
        · rw [hlen]; exact M5
  · have HV : Hid ((if x = 0 then (if bs.length - (pl + u) < c then (([] : List Int), (20 : Int), pl) else ((bs.drop (pl + u)).take c, 0, pl + u + c)) else ([], x, pl)) = ([], x, pl)) := if_neg hx
    rw [HV.out]
    have hx1 : (x != 0) = true := by simpa using hx
    have HX := hide hx
    go_enter Try.func91, Try.ntmps91
    go_wp2_with fail
    refine CU.out.mono ?_
    rintro e w1 ⟨rfl, p1, hr, hp, hg⟩
    have H1 := hide hr
    have G1 := hide hg
    clear hr hg hp
    go_wp2_with fail
    go_ret2
    exact ⟨_, _, rfl, H1.out, fun h => absurd h HX.out, ⟨none, 0, rfl, ⟨rfl, Nat.le_refl _, fun _ => rfl, fun h => absurd h (by simp), wfs_nil⟩, fun ad h => absurd h (by simp)⟩, G1.out⟩

theorem countA_up (bs : List Int) (most : Int) (pl : Nat) : countA bs most ⟨pl, 0⟩ = if (upR (numG (bs.drop pl) 0 0) most).2 = 0 then ⟨(upR (numG (bs.drop pl) 0 0) most).1.toNat, ⟨pl + (numG (bs.drop pl) 0 0).used, 0⟩⟩ else ⟨0, ⟨pl, (upR (numG (bs.drop pl) 0 0) most).2⟩⟩ := by
  by_cases h1 : (numG (bs.drop pl) 0 0).e = 0
  · have en := numA_good bs ⟨pl, 0⟩ rfl h1
    by_cases h2 : max 0 most < ((numG (bs.drop pl) 0 0).v : Int)
    · have eu : upR (numG (bs.drop pl) 0 0) most = (0, 22) := by unfold upR; rw [if_pos h1, if_pos h2]
      rw [eu, countA_long _ _ _ (by rw [en]; exact h2), if_neg (show ¬ (22 : Int) = 0 by decide)]
    · have eu : upR (numG (bs.drop pl) 0 0) most = (((numG (bs.drop pl) 0 0).v : Int), 0) := by unfold upR; rw [if_pos h1, if_neg h2]
      rw [eu, countA_good _ _ _ (by rw [en]; exact h2), en, if_pos rfl, Int.toNat_natCast]
  · have en := numA_bad bs ⟨pl, 0⟩ rfl h1
    have eu : upR (numG (bs.drop pl) 0 0) most = (0, (numG (bs.drop pl) 0 0).e) := by unfold upR; rw [if_neg h1]
    rw [eu, countA_good _ _ _ (by rw [en]; show ¬ _ < ((0 : Nat) : Int); omega), en, if_neg h1]

theorem text_end (bs : List Int) (most : Int) (pl : Nat) (err : Int) :
    thingS err (textR bs most pl).2.1 pl (textR bs most pl).2.2 = (textA bs most ⟨pl, err⟩).s ∧ (err = 0 → (textR bs most pl).2.1 = 0 → (textR bs most pl).1 = (textA bs most ⟨pl, err⟩).v) ∧ (¬ (err = 0 ∧ (textR bs most pl).2.1 = 0) → (textA bs most ⟨pl, err⟩).v = []) := by
  by_cases h0 : err = 0
  · subst h0
    have ec := countA_up bs most pl
    unfold textR
    by_cases h1 : (upR (numG (bs.drop pl) 0 0) most).2 = 0
    · rw [if_pos h1] at ec ⊢
      by_cases h2 : bs.length - (pl + (numG (bs.drop pl) 0 0).used) < (upR (numG (bs.drop pl) 0 0) most).1.toNat
      · rw [if_pos h2, textA_short _ _ _ (by rw [ec]) (by rw [ec]; exact h2), thingS_bad (show ¬ (20 : Int) = 0 by decide)]
        exact ⟨rfl, fun _ h => absurd h (show ¬ (20 : Int) = 0 by decide), fun _ => rfl⟩
      · rw [if_neg h2, textA_good _ _ _ (by rw [ec]) (by rw [ec]; exact h2), thingS_ok, ec]
        exact ⟨rfl, fun _ _ => rfl, fun h => absurd ⟨rfl, rfl⟩ h⟩
    · rw [if_neg h1] at ec ⊢
      rw [textA_fault _ _ _ (by rw [ec]; exact h1), thingS_bad h1, ec]
      exact ⟨rfl, fun _ h => absurd h h1, fun _ => rfl⟩
  · have en := numA_fault bs ⟨pl, err⟩ h0
    have ec : countA bs most ⟨pl, err⟩ = ⟨0, ⟨pl, err⟩⟩ := by rw [countA_good _ _ _ (by rw [en]; show ¬ _ < ((0 : Nat) : Int); omega), en]
    rw [textA_fault _ _ _ (by rw [ec]; exact h0), thingS_fault h0, ec]
    exact ⟨rfl, fun h => absurd h h0, fun _ => rfl⟩

theorem handed_nil (B : Nat) (w : World) : Handed B [] (.slice none 0 0) w := ⟨none, 0, rfl, ⟨rfl, Nat.le_refl _, fun _ => rfl, fun h => absurd h (by simp), wfs_nil⟩, fun ad h => absurd h (by simp)⟩

theorem ctext_any {w : World} {R : Nat} {a : Option Addr} {n cp : Nat} {bs : List Int} {s : St} (most : Int) (h9 : most < 9223372036854775808) (h : Rd w R a n cp bs s.pl s.err) :
    Calls Try.prog 86 #[.pointer (some ⟨R, 0, none⟩), .int .i64 most] w fun e w' => ∃ V, e = .returned V ∧ Handed w.heap.size (textA bs most s).v V w' ∧ Rd w' R a n cp bs (textA bs most s).s.pl (textA bs most s).s.err ∧ w.grownBy w' (some R) := by
  obtain ⟨pl, err⟩ := s
  have hlt := World.block_lt_of_cell? w _ h.c0
  have HR := hide (rd_alloc (rd_alloc h (.cells #[.pointer (some ⟨R, 0, none⟩)] 84)) (.cells #[.int .i64 most] 3))
  clear h
  have C := hide (thing_text (X := (textR bs most pl).2.1) (P := (textR bs most pl).2.2) (Q := Handed ((w.alloc (.cells #[.pointer (some ⟨R, 0, none⟩)] 84)).alloc (.cells #[.int .i64 most] 3)).heap.size (textR bs most pl).1) #[.pointer (some ⟨w.heap.size, 0, none⟩), .pointer (some ⟨w.heap.size + 1, 0, none⟩)] HR.out (fun (h0 : err = 0) => clos_text most h9 (by have := HR.out; rw [← h0]; exact this) (by simp) (by simp) (by intro e; rw [← e] at hlt; exact absurd hlt (Nat.lt_irrefl _)) (by intro e; rw [← e] at hlt; simp at hlt; omega)))
  have E := hide (text_end bs most pl err)
  have HS : Hid (w.heap.size ≤ ((w.alloc (.cells #[.pointer (some ⟨R, 0, none⟩)] 84)).alloc (.cells #[.int .i64 most] 3)).heap.size) := by show _ ≤ _; simp; omega
  go_enter Try.func86, Try.ntmps86
  go_wp2_with fail
  refine C.out.mono ?_
  rintro e w1 ⟨V, rfl, hq, hr, hg⟩
  have HQ := hide hq
  have H1 := hide hr
  have G1 := hide hg
  clear hq hr hg C
  go_wp2_with fail
  go_ret
  rw [← E.out.1]
  refine ⟨_, rfl, ?_, H1.out, grown_alloc (grown_alloc G1.out)⟩
  by_cases h0 : err = 0 ∧ (textR bs most pl).2.1 = 0
  · obtain ⟨a', cp', e1, m1⟩ := HQ.out h0.1 h0.2
    rw [← E.out.2.1 h0.1 h0.2]
    unfold thingV
    rw [if_pos h0.1, if_pos h0.2]
    exact ⟨a', cp', e1, m1.base HS.out⟩
  · rw [E.out.2.2 h0]
    unfold thingV
    by_cases h1 : err = 0
    · rw [if_pos h1, if_neg (fun h => h0 ⟨h1, h⟩)]
      exact handed_nil _ _
    · rw [if_neg h1]
      exact handed_nil _ _
end Go.Proofs.Ytfdejkfbjmkngab
