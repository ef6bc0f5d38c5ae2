/- The queue's Swap. No condition. -/
import Derived.Test.YtoganfdpaagomaaClockQ
import Derived.BigRegion
namespace Go.Proofs.Ytoganfdpaagomaa
open Go.ChangeShapes Go.WideShapes Go.ChangeAt Go.RowKit Cm
set_option linter.unusedVariables false

section
variable {w : World} {L : Ql} {l : List Tm} {ns : List ByteArray}
theorem Qu.room {b : Nat} (h : Qu w L l ns) (ea : L.av = some ⟨b, 0, none⟩) {o : Nat} (ho : o < l.length * 3) : (w.cell? ⟨b, o, none⟩).isSome = true ∧ w.frozen? ⟨b, o, none⟩ = false := by
  have hl := h.len
  obtain ⟨hx, ⟨e1, _⟩ | ⟨g', cp, cur, e1, e2, e3, e4, e5, e6, e7⟩⟩ := h.row
  · rw [ea] at e1; cases e1
  · rw [ea] at e1
    obtain ⟨rfl, rfl⟩ : b = g' ∧ L.cv = cp := by simpa using e1
    rw [cell_of_row w b o _ _ _ e3]
    exact ⟨by simp; omega, by simp [World.frozen?, e3]⟩
set_option maxRecDepth 100000 in
set_option maxHeartbeats 1000000 in
theorem swap_any (h : Qu w L l (names l)) {i j : Nat} (hi : i < l.length) (hj : j < l.length) (hne : i ≠ j) :
    Calls Try.prog 85 #[.pointer (some ⟨L.Q, 0, none⟩), .int .i64 i, .int .i64 j] w fun e w' => e = .returned (.tuple #[]) ∧ QS w L (swp l i j) (names (swp l i j)) w' := by
  obtain ⟨b, ea, eo, i0, i1, i2⟩ := h.at hi
  obtain ⟨b', ea', _, j0, j1, j2⟩ := h.at hj
  obtain rfl : b = b' := by rw [ea] at ea'; simpa using ea'
  have c0 := h.c0
  rw [ea] at c0
  have hl := h.len
  have x1 : (0 : Int) ≤ i := by omega
  have x2 : (i : Int) < L.m := by omega
  have y1 : (0 : Int) ≤ j := by omega
  have y2 : (j : Int) < L.m := by omega
  have fi0 : w.frozen? ⟨b, i * 3, none⟩ = false := (h.room ea (by omega)).2
  have fi1 : w.frozen? ⟨b, i * 3 + 1, none⟩ = false := (h.room ea (by omega)).2
  have fi2 : w.frozen? ⟨b, i * 3 + 2, none⟩ = false := (h.room ea (by omega)).2
  have fj0 : w.frozen? ⟨b, j * 3, none⟩ = false := (h.room ea (by omega)).2
  have fj1 : w.frozen? ⟨b, j * 3 + 1, none⟩ = false := (h.room ea (by omega)).2
  have fj2 : w.frozen? ⟨b, j * 3 + 2, none⟩ = false := (h.room ea (by omega)).2
  obtain ⟨h1, g1⟩ := h.put ea hi (g l j)
  obtain ⟨h2, g2⟩ := h1.put ea (k := j) (by simpa using hj) (g l i)
  obtain ⟨w2, e2⟩ : ∃ w2, w2 = ((w.setCells b (i * 3) (g l j).cells).setCells b (j * 3) (g l i).cells).drew := ⟨_, rfl⟩
  have Q2 : Hid (Qu w2 L (swp l i j) (names l)) := by rw [e2]; exact h2.drew
  have G2 : Hid (Chg L.M w w2) := by rw [e2]; exact (((Chg.refl _ _).grown g1 (fun k hk => .inl (.inr (.inr (eo.trans hk))))).grown g2 (fun k hk => .inl (.inr (.inr (eo.trans hk))))).drew
  have H := hide h
  have E2 := hide e2
  have n1 : i * 3 ≠ j * 3 := by omega
  have EA := hide ea
  clear h ea' hl h1 g1 h2 g2 e2 ea eo
  go_enter Try.func85, Try.ntmps85
  go_wp2_with fail
  go_cut [] (fun w3 => Hid (w2 = w3))
  case first =>
    go_region
    all_goals (go_wp2_with fail; go_meet; case rel => exact E2.out)
  case rest =>
    obtain rfl := hcut.out
    clear hcut c0 i0 i1 i2 j0 j1 j2 fi0 fi1 fi2 fj0 fj1 fj2 n1
    have hi2 : i < (swp l i j).length := by rw [swp_length]; exact hi
    have hj2 : j < (swp l i j).length := by rw [swp_length]; exact hj
    obtain ⟨b1, ea1, _, p0, _, _⟩ := Q2.out.at hi2
    obtain rfl : b = b1 := by rw [EA.out] at ea1; simpa using ea1
    obtain ⟨b1, ea1, _, p1, _, _⟩ := Q2.out.at hj2
    obtain rfl : b = b1 := by rw [EA.out] at ea1; simpa using ea1
    rw [g_swp hi hj, if_neg hne, if_pos rfl] at p0
    rw [g_swp hi hj, if_pos rfl] at p1
    have c0 := Q2.out.c0
    rw [EA.out] at c0
    have c1 := Q2.out.c1
    obtain ⟨F, hm, hx⟩ := Q2.out.mp
    have fj := hx.1 j _ (names_g hj)
    have fi := hx.1 i _ (names_g hi)
    have sj : (g l j).name.size ≤ maxLen := Q2.out.sz _ (List.mem_of_getElem? (names_g hj))
    have si : (g l i).name.size ≤ maxLen := Q2.out.sz _ (List.mem_of_getElem? (names_g hi))
    have mo := Q2.out.most
    rw [swp_length] at mo
    have hm1 : Mp w2.drew L.mb (names l).length F := hm.same rfl
    obtain ⟨u3, run3, m3, g3⟩ := mp_put hm1 (by unfold maxLen; omega) sj (i := i) (by omega)
    rw [fj, show (some j : Option Nat).isSome = true from rfl, if_pos rfl] at m3
    have bq : b ≠ L.mb := fun e => Q2.out.vM (by rw [EA.out, e]; rfl)
    have hm2 : Mp u3.drew L.mb (names l).length (upd F (g l j).name i) := m3.same rfl
    obtain ⟨u4, run4, m4, g4⟩ := mp_put hm2 (by unfold maxLen; omega) si (i := j) (by omega)
    have ed : (upd F (g l j).name i (g l i).name).isSome = true := by
      unfold upd
      split
      · rfl
      · rw [fi]; rfl
    rw [ed, if_pos rfl] at m4
    have far : ∀ (a : Addr) v, a.block ≠ L.mb → w2.cell? a = some v → u3.cell? a = some v := fun a v hn hv => g3.cell (w := w2.drew) hv (fun e => hn (Option.some.inj e))
    have d0 := far _ _ Q2.out.mQ.symm c0
    have d1 := far _ _ Q2.out.mQ.symm c1
    have q1 := far _ _ bq p1
    have nl : (names (swp l i j)).length = (names l).length := by rw [names_length, names_length, swp_length]
    have g34 : w2.grownBy u4 (some L.mb) := ⟨g4.os.trans g3.os, g4.tape.trans g3.tape, g4.output.trans g3.output, Nat.le_trans g3.size g4.size, fun k hk hn => (g4.block k (Nat.lt_of_lt_of_le hk g3.size) hn).trans (g3.block k hk hn)⟩
    have FIN : Hid (QS w L (swp l i j) (names (swp l i j)) u4) := by
      refine ⟨G2.out.trans (L' := L.M) ((Chg.refl _ _).grown g34 (fun k hk => .inl (.inr (.inl (Option.some.inj hk).symm)))) (fun k _ hk => hk), Q2.out.remap g34 (by rw [nl]; exact m4) (hx.swp hi hj hne) (fun s hs => Q2.out.sz s ?_) (by rw [nl]; exact mo.2)⟩
      exact ((swp_perm hi hj).map Tm.name).mem_iff.1 hs
    clear hm hx fj fi sj si mo hm1 m3 bq hm2 m4 ed far nl g34 g3 g4 Q2 G2 H E2 EA hi hj hi2 hj2 ea1
    go_wp2_with fail
    go_cut [] (fun w5 => Hid (u3 = w5))
    case first =>
      go_region
      all_goals (go_wp2_with fail; go_meet; case rel => exact rfl)
    case rest =>
      obtain rfl := hcut.out
      go_wp2_with fail
      go_region
      all_goals (refine bodyPost_end (results_none rfl _ _ _) rfl ?_; exact ⟨rfl, FIN.out⟩)
end
end Go.Proofs.Ytoganfdpaagomaa
