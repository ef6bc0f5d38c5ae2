/- A landed log's Cut. No condition. -/
import Derived.Test.YtpaciknmmceehaaSlotsPutB
import Derived.Test.YtpaciknmmceehaaSlotsDeleteB
namespace Go.Proofs.Ytpaciknmmceehaa.Lb
open Go.ChangeShapes Go.WideShapes Go.ChangeAt Go.RowKit Sx
set_option linter.unusedVariables false

theorem delete_none (w : World) (a : Option Addr) (c : Nat) (ha : (a = none ∧ c = 0) ∨ ∃ g, a = some ⟨g, 0, none⟩) : Calls Try.prog 30 #[.slice a 0 c, .int .i64 0, .int .i64 0] w fun e w' => e = .returned (.slice a 0 c) ∧ w' = w := by
  rcases ha with ⟨rfl, rfl⟩ | ⟨g, rfl⟩
  · go_enter Try.func30, Try.ntmps30
    go_wp2_with fail
    go_ret
    exact ⟨rfl, rfl⟩
  · have t1 : (0 : Int) ≤ (c : Int) := by omega
    go_enter Try.func30, Try.ntmps30
    go_wp2_with fail
    go_ret
    exact ⟨rfl, rfl⟩
section
variable {w w1 w4 : World} {P : Nat} {L : Lay} {s : Ss Al}
theorem Lg.drewN (h : Lg w P L s) (q : Nat) : Lg (w.drewN q) P L s := h.same (fun _ _ => rfl) (fun _ _ => rfl)
theorem cut_lg (h1 : Lg w1 P L s) {d c : Nat} {a : Option Addr} {i : Int} (hs : ¬ stays s i) (hd : d = cutB s i) (hc : Chg (L.M P) w1 w4)
    (hP : w4.heap[P]? = some (.cells #[.int .i64 i, .int .i64 s.most, .slice a (L.bs.drop d).length c] 48 (0, 0)))
    (hrow : w4.ownsRow 0 59 1 (.slice a (L.bs.drop d).length c) (L.bs.drop d).length ((L.bs.drop d).map pv)) :
    Lg w4 P ⟨a, c, L.bs.drop d⟩ (cutS s i) := by
  have es : cutS s i = { s with first := i, ps := s.ps.drop d } := by
    unfold cutS
    rw [if_neg hs, hd]
  have ok := cutS_ok h1.ok i
  rw [es] at ok ⊢
  refine ⟨hP, hrow, by simp [h1.len], fun j b o hb ho => ?_, ok⟩
  replace hb : (L.bs.drop d)[j]? = some b := hb
  replace ho : (s.ps.drop d)[j]? = some o := ho
  rw [List.getElem?_drop] at hb ho
  have hp := h1.pl _ b o hb ho
  exact hp.same (fun k ek => by
    subst ek
    rcases hp.shape with ⟨e, _⟩ | ⟨k1, x1, e, _, h3⟩
    · cases e
    · cases e
      exact hc.block k (Array.getElem?_eq_some_iff.1 h3).1 (h1.vm (P' := 0) (L' := L) (s' := s) h3))
set_option maxRecDepth 100000 in
set_option maxHeartbeats 1000000 in
theorem cut_stays (h : Lg w P L s) (i : Int) (hs : stays s i) : Calls Try.prog 8 #[.pointer (some ⟨P, 0, none⟩), .int .i64 i] w fun e w' => e = .returned (.int .i64 0) ∧ w' = w := by
  obtain ⟨c0, _, _, _⟩ := h.c
  unfold stays at hs
  clear h
  by_cases h1 : i ≤ s.first
  · clear hs
    go_enter Try.func8, Try.ntmps8
    go_wp2_with fail
    go_ret
    exact ⟨rfl, rfl⟩
  · have h2 : 1099511627776 < i := by omega
    clear hs
    go_enter Try.func8, Try.ntmps8
    go_wp2_with fail
    go_ret
    exact ⟨rfl, rfl⟩
set_option maxRecDepth 100000 in
set_option maxHeartbeats 2000000 in
theorem cut_goes (h : Lg w P L s) (i : Int) (hs : ¬ stays s i) : Calls Try.prog 8 #[.pointer (some ⟨P, 0, none⟩), .int .i64 i] w fun e w' => e = .returned (.int .i64 (cutN s i)) ∧ LMv w P L (cutS s i) w' := by
  obtain ⟨c0, _, c2, cf⟩ := h.c
  have hs' := hs
  unfold stays at hs
  have f1 := h.ok.f1
  have f2 := h.ok.f2
  have m2 := h.ok.m2
  have l1 := h.ok.len
  have LN := h.len
  have x1 : ¬ (i ≤ s.first) := by omega
  have x2 : ¬ (1099511627776 < i) := by omega
  have x3 : IntKind.i64.wrap (i - s.first) = i - s.first := by rw [IntKind.wrap_i64]; omega
  have eN : cutN s i = cnt (s.ps.take (cutB s i)) := by unfold cutN; rw [if_neg hs']
  rw [eN]
  obtain ⟨d, ed⟩ : ∃ d, d = cutB s i := ⟨_, rfl⟩
  rw [← ed]
  have ed2 := ed
  unfold cutB at ed2
  have CF := hide (fun q => filled_any (h.drewN q) (m := d) (by omega) L.c)
  rw [Lay.v, h.len] at c2
  by_cases hz : s.ps.length = 0
  · obtain rfl : d = 0 := by omega
    have bz : L.bs = [] := List.eq_nil_of_length_eq_zero (by omega)
    have sh : (L.a = none ∧ L.c = 0) ∨ ∃ g, L.a = some ⟨g, 0, none⟩ := by
      obtain ⟨_, ⟨e, _⟩ | ⟨g, _, _, e, _⟩⟩ := h.row
      · simp only [Lay.v, Value.slice.injEq] at e
        exact .inl ⟨e.1, e.2.2⟩
      · simp only [Lay.v, Value.slice.injEq] at e
        exact .inr ⟨g, e.1⟩
    have CD := hide (fun q => delete_none (w.drewN q) L.a L.c sh)
    have FI : Hid (∀ q : Nat, (w.drewN q).cell? ⟨P, 2, none⟩ = some (.slice L.a 0 L.c) ∧ (∀ o, (w.drewN q).frozen? ⟨P, o, none⟩ = false) ∧ ((w.drewN q).setCell ⟨P, 2, none⟩ (.slice L.a 0 L.c)).cell? ⟨P, 0, none⟩ = some (.int .i64 s.first) ∧ (∀ o, ((w.drewN q).setCell ⟨P, 2, none⟩ (.slice L.a 0 L.c)).frozen? ⟨P, o, none⟩ = false) ∧
        LMv w P L (cutS s i) (((w.drewN q).setCell ⟨P, 2, none⟩ (.slice L.a 0 L.c)).setCell ⟨P, 0, none⟩ (.int .i64 i))) := fun q => by
      have hP2 := (h.drewN q).hd
      have cc : Chg (L.M P) w (((w.drewN q).setCell ⟨P, 2, none⟩ (.slice L.a 0 L.c)).setCell ⟨P, 0, none⟩ (.int .i64 i)) :=
        ((Chg.drewN (L.M P) w q).setCell (p := ⟨P, 2, none⟩) (.inl (.inl rfl)) _).setCell (p := ⟨P, 0, none⟩) (.inl (.inl rfl)) _
      refine ⟨by rw [cell_of_row _ _ 2 _ _ _ hP2, Lay.v, bz]; rfl, fun o => (h.drewN q).c.2.2.2 o, by rw [cell_of_row _ _ 0 _ _ _ (cell_hd hP2)]; rfl, fun o => by simp [World.frozen?, cell_hd hP2], cc, ⟨L.a, L.c, L.bs.drop 0⟩, cut_lg h hs' ed cc ?_ ?_, fun j hj => ?_⟩
      · rw [bz]
        exact cell_hd0 (cell_hd hP2)
      · rw [List.drop_zero]
        exact row_same h.row (fun j hj => by
          have hne : j ≠ P := fun e => h.apart (by rw [← e]; exact hj)
          exact (Below.heap_setCell _ _ _ _ hne).trans (Below.heap_setCell _ _ _ _ hne))
      · rw [List.drop_zero] at hj
        exact .inl hj
    have x4 : ¬ (i - s.first ≤ 0) := by omega
    rw [hz] at c2
    have c3 : (0 : Int) ≤ (L.c : Int) := by omega
    clear h hs hs' f1 f2 m2 l1 LN eN ed ed2 hz bz
    rcases sh with ⟨e1, e2⟩ | ⟨g, e1⟩
    · rw [e1, e2] at c2 CF CD FI
      clear e1 e2
      go_enter Try.func8, Try.ntmps8
      go_wp2_with fail
      go_quiet (fail)
      go_wp2_with fail
      refine (CF.out _).mono ?_
      rintro e w2 ⟨rfl, rfl⟩
      go_wp2_with fail
      refine (CD.out _).mono ?_
      rintro e w2 ⟨rfl, rfl⟩
      obtain ⟨z1, z2, z3, z4, z5⟩ := FI.out _
      have Z5 := hide z5
      clear z5
      go_wp2_with fail
      go_ret
      exact ⟨rfl, Z5.out⟩
    · rw [e1] at c2 CF CD FI
      clear e1
      go_enter Try.func8, Try.ntmps8
      go_wp2_with fail
      go_quiet (fail)
      go_wp2_with fail
      refine (CF.out _).mono ?_
      rintro e w2 ⟨rfl, rfl⟩
      go_wp2_with fail
      refine (CD.out _).mono ?_
      rintro e w2 ⟨rfl, rfl⟩
      obtain ⟨z1, z2, z3, z4, z5⟩ := FI.out _
      have Z5 := hide z5
      clear z5
      go_wp2_with fail
      go_ret
      exact ⟨rfl, Z5.out⟩
  · obtain ⟨b0, hb0⟩ : ∃ b0, L.bs[0]? = some b0 := ⟨L.bs[0]'(by omega), List.getElem?_eq_getElem _⟩
    obtain ⟨g, ea, _, _⟩ := h.at hb0
    have ob : L.v.ownBlock = some g := by simp [Lay.v, ea, Value.ownBlock]
    obtain ⟨p, ep⟩ : ∃ p, d = p + 1 := ⟨d - 1, by omega⟩
    obtain ⟨r, er⟩ : ∃ r, L.bs.length = p + 1 + r := ⟨L.bs.length - d, by omega⟩
    have r0 := h.row
    rw [Lay.v, ea, er] at r0
    have CD := hide (fun q => delete_any (w := w.drewN q) (row_same r0 (fun _ _ => rfl)) (pvs_one _) (by omega) s.ps.length (by omega))
    have gP : g ≠ P := fun e => h.apart (by rw [ob, e])
    have dl : (L.bs.drop d).length = r := by simp; omega
    have FI : Hid (∀ (q : Nat) (w2 : World), w2.ownsRow 0 59 1 (.slice (some ⟨g, 0, none⟩) r L.c) r ((L.bs.map pv).drop (p + 1)) → (w.drewN q).grownBy w2 (some g) →
        w2.cell? ⟨P, 2, none⟩ = some (.slice L.a s.ps.length L.c) ∧ (∀ o, w2.frozen? ⟨P, o, none⟩ = false) ∧ (w2.setCell ⟨P, 2, none⟩ (.slice (some ⟨g, 0, none⟩) r L.c)).cell? ⟨P, 0, none⟩ = some (.int .i64 s.first) ∧ (∀ o, (w2.setCell ⟨P, 2, none⟩ (.slice (some ⟨g, 0, none⟩) r L.c)).frozen? ⟨P, o, none⟩ = false) ∧
        LMv w P L (cutS s i) ((w2.setCell ⟨P, 2, none⟩ (.slice (some ⟨g, 0, none⟩) r L.c)).setCell ⟨P, 0, none⟩ (.int .i64 i))) := fun q w2 hr hg => by
      have hP2 : w2.heap[P]? = some (.cells #[.int .i64 s.first, .int .i64 s.most, L.v] 48 (0, 0)) := (hg.block P h.ltP (fun e => gP (by simpa using e.symm))).trans h.hd
      have cc : Chg (L.M P) w ((w2.setCell ⟨P, 2, none⟩ (.slice (some ⟨g, 0, none⟩) r L.c)).setCell ⟨P, 0, none⟩ (.int .i64 i)) :=
        ((((Chg.drewN (L.M P) w q).grown hg (fun j e => .inl (.inr (by rw [ob]; exact e)))).setCell (p := ⟨P, 2, none⟩) (.inl (.inl rfl)) _)).setCell (p := ⟨P, 0, none⟩) (.inl (.inl rfl)) _
      refine ⟨by rw [cell_of_row _ _ 2 _ _ _ hP2, Lay.v, h.len]; rfl, fun o => by simp [World.frozen?, hP2], by rw [cell_of_row _ _ 0 _ _ _ (cell_hd hP2)]; rfl, fun o => by simp [World.frozen?, cell_hd hP2], cc, ⟨some ⟨g, 0, none⟩, L.c, L.bs.drop d⟩, cut_lg h hs' ed cc ?_ ?_, fun j hj => ?_⟩
      · rw [dl]
        exact cell_hd0 (cell_hd hP2)
      · rw [dl, List.map_drop, ep]
        exact row_same hr (fun j hj => (Below.heap_setCell _ _ _ _ (fun e => gP (by simp [Value.ownBlock] at hj; rw [hj]; exact e))).trans (Below.heap_setCell _ _ _ _ (fun e => gP (by simp [Value.ownBlock] at hj; rw [hj]; exact e))))
      · rcases hj with rfl | hj
        · exact .inl (.inl rfl)
        · simp [Lay.v, Value.ownBlock] at hj
          subst hj
          exact .inl (.inr ob)
    rw [ea] at c2 CF
    have hcap : s.ps.length ≤ L.c := by
      obtain ⟨_, ⟨e, _⟩ | ⟨_, cp, _, e, _, _, h4, _⟩⟩ := r0
      · cases e
      · simp at e
        rw [← LN, er, e.2]; exact h4
    have y1 : (0 : Int) ≤ (d : Int) := by omega
    have y2 : (d : Int) ≤ (L.c : Int) := by omega
    have y3 : L.c ≠ 0 := by omega
    have y4 : (d : Int) = (p : Int) + 1 := by omega
    have Y4 := hide y4
    have Y5 : Hid ((i - s.first = (d : Int) ∧ d ≤ s.ps.length) ∨ ((s.ps.length : Int) < i - s.first ∧ s.ps.length = d)) := by show _ ∨ _; omega
    clear h hs hs' f1 f2 m2 l1 LN eN ed ed2 hb0 ob ep er r0 gP dl hcap y4 hz
    generalize s.ps.length = N at *
    rcases Y5.out with ⟨e1, e2⟩ | ⟨e1, e2⟩
    · have x4 : IntKind.i64.wrap (i - s.first) = (d : Int) := by rw [x3, e1]
      have e3 : (d : Int) ≤ (N : Int) := by omega
      clear e1 Y5 x3
      go_enter Try.func8, Try.ntmps8
      go_wp2_with fail
      go_quiet (fail)
      go_wp2_with fail
      refine (CF.out _).mono ?_
      rintro e w2 ⟨rfl, rfl⟩
      rw [Y4.out]
      go_wp2_with fail
      refine (CD.out _).mono ?_
      rintro e w2 ⟨rfl, hr, hg⟩
      obtain ⟨z1, z2, z3, z4, z5⟩ := FI.out _ w2 hr hg
      have Z5 := hide z5
      clear hr hg z5
      go_wp2_with fail
      go_ret
      exact ⟨rfl, Z5.out⟩
    · subst e2
      have e4 : ¬ (i - s.first ≤ (N : Int)) := by omega
      clear Y5
      go_enter Try.func8, Try.ntmps8
      go_wp2_with fail
      go_quiet (fail)
      go_wp2_with fail
      refine (CF.out _).mono ?_
      rintro e w2 ⟨rfl, rfl⟩
      rw [Y4.out]
      go_wp2_with fail
      refine (CD.out _).mono ?_
      rintro e w2 ⟨rfl, hr, hg⟩
      obtain ⟨z1, z2, z3, z4, z5⟩ := FI.out _ w2 hr hg
      have Z5 := hide z5
      clear hr hg z5
      go_wp2_with fail
      go_ret
      exact ⟨rfl, Z5.out⟩
theorem cut_any (h : Lg w P L s) (i : Int) : Calls Try.prog 8 #[.pointer (some ⟨P, 0, none⟩), .int .i64 i] w fun e w' => e = .returned (.int .i64 (cutN s i)) ∧ LMv w P L (cutS s i) w' := by
  by_cases hs : stays s i
  · have e1 : cutN s i = 0 := by unfold cutN; rw [if_pos hs]
    have e2 : cutS s i = s := by unfold cutS; rw [if_pos hs]
    rw [e1, e2]
    exact (cut_stays h i hs).mono fun e w' ⟨a, b⟩ => ⟨a, by rw [b]; exact LMv.stay h⟩
  · exact cut_goes h i hs
end
end Go.Proofs.Ytpaciknmmceehaa.Lb
