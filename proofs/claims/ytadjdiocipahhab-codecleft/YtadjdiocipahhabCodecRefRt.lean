/- What the document's own reader (purseref02) does with a text, and how it begins, at the landed code. -/
import Derived.Test.YtadjdiocipahhabCodecRefRe
import Derived.Deep.RegionHeld3
namespace Go.Proofs.Ytadjdiocipahhab
open Go.ChangeShapes Go.WideShapes Go.ChangeAt Go.RowKit B8 Cm
set_option linter.unusedVariables false

/-- a reader that the call made, at the beginning of its own copy -/
def Fresh (w w' : World) (R n : Nat) (bs : List Int) : Prop := ∃ g off cp, Rd w' R (some ⟨g, off, none⟩) n cp bs 0 0 ∧ w.heap.size ≤ g ∧ g < w'.heap.size
theorem new_any {w : World} {a : Option Addr} {n cp : Nat} {bs : List Int} (h : Sq w a n cp bs) (hr : n ≤ 140737488351232) :
    Calls Try.prog 8 #[.slice a n cp] w fun e w' => ∃ R, e = .returned (.pointer (some ⟨R, 0, none⟩)) ∧ Fresh w w' R n bs ∧ Below w.heap.size w w' ∧ w.heap.size ≤ R := by
  have H := hide h
  have HL := hide h.length
  have HW := hide h.wf
  clear h
  have R0 := hide (row_new w w.heap.size (Nat.le_refl _) #[] (by decide))
  have B0 := hide (Below.alloc (Below.refl w.heap.size w) (Nat.le_refl _) (.cells #[] 5))
  have H0 := hide (H.out.below B0.out)
  go_enter Try.func8, Try.ntmps8
  go_wp2_with (at_builtin; refine wp_append_at _ rfl (.tmp 3) (.tmp 4) rfl w.heap.size w.heap.size 0 0 [] rfl R0.out a n cp bs rfl H0.out (by omega) B0.out.size ?_; intro g cp1 w1 hown1 hgrow1 hat1)
  go_ret
  have b1 : Below w.heap.size w w1 := B0.out.grown hgrow1 B0.out.size (fun k hk => by cases hk; exact Nat.le_refl _)
  simp only [List.nil_append, Nat.zero_add] at hown1
  obtain ⟨a1, cp2, e1, q1⟩ := sq_of_row HL.out HW.out hown1
  have hg1 := hown1.lt g rfl
  obtain ⟨rfl, rfl⟩ : some ⟨g, 0, none⟩ = a1 ∧ cp1 = cp2 := by simpa using e1
  have b2 : Below w1.heap.size w1 (w1.alloc (.cells #[.slice (some ⟨g, 0, none⟩) n cp1, .int .i64 0, .int .i64 0] 34)) := Below.alloc (Below.refl _ _) (Nat.le_refl _) _
  refine ⟨w1.heap.size, rfl, ⟨g, 0, cp1, ⟨by simp, by simp, by simp, by simp, by simp, q1.below b2, ?_, Nat.zero_le _, by omega⟩, hg1.1, by have := hg1.2; simp; omega⟩, below_step b1 b2, b1.size⟩
  intro b off e
  obtain ⟨rfl, rfl⟩ : g = b ∧ 0 = off := by simpa using e
  omega

theorem text_any {w : World} {R : Nat} {a : Option Addr} {n cp : Nat} {bs : List Int} {s : St} (most : Int) (h9 : most < 9223372036854775808) (home : ∃ b off, a = some ⟨b, off, none⟩) (h : Rd w R a n cp bs s.pl s.err) :
    Calls Try.prog 22 #[.pointer (some ⟨R, 0, none⟩), .int .i64 most] w fun e w' => ∃ v, e = .returned v ∧ w'.ownsRow w.heap.size 5 1 v (textA bs most s).v.length (vals (textA bs most s).v) ∧ Rd w' R a n cp bs (textA bs most s).s.pl (textA bs most s).s.err ∧ w.grownBy w' (some R) := by
  have c1 := h.c1
  have CC := hide (count_any most h9 h)
  have hpl := h.place
  have HL := hide h.sq.length
  have hcp := h.sq.lecap
  obtain ⟨b, off, rfl⟩ := home
  have T1 := hide (textA_fault bs most s)
  have T2 := hide (textA_short bs most s)
  have T3 := hide (textA_good bs most s)
  obtain ⟨A, eA⟩ : ∃ A, A = countA bs most s := ⟨_, rfl⟩
  rw [← eA] at CC T1 T2 T3
  clear h eA
  obtain ⟨c, p1, x1⟩ := A
  obtain ⟨pl, err⟩ := s
  go_enter Try.func22, Try.ntmps22
  go_wp2_with fail
  refine CC.out.mono ?_
  rintro e w1 ⟨rfl, hr, hg⟩
  have H1 := hide hr
  have G1 := hide hg
  clear hr hg CC
  have d0 := H1.out.c0
  have d1 := H1.out.c1
  have d2 := H1.out.c2
  have f1 := H1.out.f1
  have hp1 := H1.out.place
  have hn := H1.out.room
  by_cases h0 : x1 = 0
  · subst h0
    by_cases h1 : n - p1 < c
    · have HV := hide (T2.out rfl (by rw [HL.out]; exact h1))
      have i1 : (n : Int) - (p1 : Int) < (c : Int) := by omega
      clear T1 T2 T3
      go_wp2_with fail
      go_quiet (fail)
      go_wp2_with fail
      have H2 := hide ((H1.out.drewN nq).moved pl hpl)
      refine (fail_any 20 H2.out).mono ?_
      rintro e w2 ⟨rfl, hr2, hg2⟩
      go_wp2_with fail
      go_ret
      rw [HV.out]
      exact ⟨_, rfl, World.ownsRow_nil _ _ _ _, hr2, World.grownBy.trans G1.out (World.grownBy.trans (grown_drewN _ _ _) (World.grownBy.trans (grown_setCell _ _ _ _) hg2))⟩
    · have HV := hide (T3.out rfl (by rw [HL.out]; exact h1))
      have i1 : ¬ (n : Int) - (p1 : Int) < (c : Int) := by omega
      clear T1 T2 T3
      go_wp2_with fail
      go_quiet (fail)
      go_wp2_with fail
      have H2 := hide ((H1.out.drewN nq).moved (p1 + c) (by omega))
      have G2 := hide (World.grownBy.trans G1.out (World.grownBy.trans (grown_drewN w1 nq (some R)) (grown_setCell (w1.drewN nq) R 1 (.int .i64 ((p1 + c : Nat) : Int)))))
      rw [show ((p1 : Int) + (c : Int)) = ((p1 + c : Nat) : Int) by omega] at *
      obtain ⟨w2, e2⟩ : ∃ w2, w2 = (w1.drewN nq).setCell ⟨R, 1, none⟩ (.int .i64 ((p1 + c : Nat) : Int)) := ⟨_, rfl⟩
      rw [← e2] at H2 G2 ⊢
      clear e2 d0 d1 d2 f1
      obtain ⟨q, hq⟩ : ∃ q, q = p1 + c := ⟨_, rfl⟩
      rw [← hq] at H2 ⊢
      have HQ := hide hq
      have d0 := H2.out.c0
      have d1 := H2.out.c1
      have i2 : (0 : Int) ≤ (p1 : Int) := by omega
      have i3 : (q : Int) - (c : Int) = (p1 : Int) := by omega
      have i4 : (p1 : Int) ≤ (q : Int) := by omega
      have i5 : (q : Int) ≤ (cp : Int) := by omega
      have i6 : q ≤ cp := by omega
      have i7 : p1 ≤ q := by omega
      have i8 : IntKind.i64.wrap (p1 : Int) = p1 := by rw [IntKind.wrap_i64]; omega
      have i9 : max (q : Int) 0 = q := by omega
      have i10 : (0 : Int) ≤ (q : Int) := by omega
      clear hq
      have q2 := ((H2.out.sq.take q (by omega)).drop p1 i7 (if cp = p1 then some ⟨b, off, none⟩ else some ⟨b, off + p1, none⟩) (fun h => by split at h <;> cases h) (fun h => by rw [if_neg (by omega)]))
      rw [List.drop_take, show q - p1 = c by omega] at q2
      have Q2 := hide (q2.below (Below.alloc (Below.refl _ _) (Nat.le_refl _) (.cells #[] 5)))
      have R2 := hide (row_new w2 w2.heap.size (Nat.le_refl _) #[] (by decide))
      have i11 : q - p1 = c := by omega
      clear q2
      have lR := World.block_lt_of_cell? w2 _ d0
      have NR : Hid (some R ≠ some w2.heap.size) := fun e => by cases e; exact absurd lR (Nat.lt_irrefl _)
      have BA := hide (Below.alloc (Below.refl w2.heap.size w2) (Nat.le_refl _) (.cells #[] 5))
      have K0 := hide ((BA.out.cell (p := ⟨R, 0, none⟩) lR).trans d0)
      have K1 := hide ((BA.out.cell (p := ⟨R, 1, none⟩) lR).trans d1)
      go_region_held3 (fun w' => w'.cell? ⟨R, 0, none⟩ = some (.slice (some ⟨b, off, none⟩) n cp) ∧ w'.cell? ⟨R, 1, none⟩ = some (.int .i64 (q : Int))) (first | go_keep | exact ⟨hgrow3.cell K0.out NR.out, hgrow3.cell K1.out NR.out⟩)
        ((refine step_append_sq _ (by rfl) (.tmp 46) (.tmp 61) (by rfl) w2.heap.size w2.heap.size 0 0 [] (by rfl) R2.out.drew _ c (cp - p1) ((bs.drop p1).take c) (by rfl) (Q2.out.drew 1) (by omega) (by simp) ?_; intro g cp1 w3 hown3 hgrow3 hat3))
      have b3 : Below w2.heap.size w2 w3 := (BA.out.drew).grown hgrow3 (by simp) (fun k hk => by cases hk; exact Nat.le_refl _)
      simp only [List.nil_append, Nat.zero_add] at hown3
      have hlen : ((bs.drop p1).take c).length = c := by have := HL.out; simp; omega
      have r3 : Rd w3 R (some ⟨b, off, none⟩) n cp bs (p1 + c) 0 := by
        rw [← HQ.out]
        exact H2.out.grown (grown_below b3 none) (by simp) (by simp)
      have o3 : w3.ownsRow w.heap.size 5 1 (.slice (some ⟨g, 0, none⟩) c cp1) ((bs.drop p1).take c).length (vals ((bs.drop p1).take c)) := by
        rw [hlen]
        exact row_base hown3 G2.out.size
      have g3 := World.grownBy.trans G2.out (grown_below b3 (some R))
      clear hlen
      go_wp2_with fail
      all_goals
        go_ret
        rw [HV.out]
        first | exact ⟨_, rfl, o3, r3, g3⟩ | (subst_vars; exact ⟨_, rfl, o3, r3, g3⟩)
  · have HV := hide (T1.out h0)
    have hx : (x1 == 0) = false := by simpa using h0
    clear T1 T2 T3
    go_wp2_with fail
    go_ret
    rw [HV.out]
    exact ⟨_, rfl, World.ownsRow_nil _ _ _ _, H1.out, G1.out⟩
end Go.Proofs.Ytadjdiocipahhab
