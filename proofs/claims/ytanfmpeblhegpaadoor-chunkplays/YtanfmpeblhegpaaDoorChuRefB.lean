/- The document's box: Missing. No condition. -/
import Derived.Test.YtanfmpeblhegpaaDoorChuRef
namespace Go.Proofs.YtanfmpeblhegpaaDoor
open Go.ChangeShapes Go.WideShapes Go.ChangeAt Go.RowKit B8 Ck
set_option linter.unusedVariables false

theorem has_neg {L : List Pc} {k : Int} (h : hasI L k = none) : hasV L k = -1 := by unfold hasV; rw [h]
theorem has_pos {L : List Pc} {k : Int} {i : Nat} (h : hasI L k = some i) : hasV L k = (i : Int) := by unfold hasV; rw [h]
theorem rl_m {s : Bx} {l : List Pv} {w : World} {B R : Nat} {a : Option Addr} {m c : Nat} (h : Rb w B R a m c l) (hr : Rl s (l.map Pv.pc)) : m ≤ 16 := by
  have h1 := hr.len
  have h2 := hr.ok.length
  have h3 := h.lw.len
  simp at h1
  omega
set_option maxRecDepth 100000 in
set_option maxHeartbeats 1000000 in
theorem rmissing_any {w : World} {B R : Nat} {a : Option Addr} {m c : Nat} {l : List Pv} {s : Bx} (h : Rb w B R a m c l) (hr : Rl s (l.map Pv.pc)) :
    Calls Tryd.prog 15 #[.pointer (some ⟨R, 0, none⟩)] w fun e w' => ∃ a' c', e = .returned (.slice a' (missL s).length c') ∧ Below w.heap.size w w' ∧ w'.ownsRow w.heap.size 3 1 (.slice a' (missL s).length c') (missL s).length (I8.vals (missL s)) := by
  have hm := rl_m h hr
  have H := hide h
  have HR := hide hr
  have c0 := h.c0
  rcases Nat.eq_zero_or_pos m with h0 | h0
  · subst h0
    have hl : l = [] := List.eq_nil_of_length_eq_zero h.lw.len
    have hps : s.ps = [] := hr.nil.1 (by rw [hl]; rfl)
    have em : missL s = [0] := by
      unfold missL
      rw [hps, (hr.ok.none hps).1]
      decide
    rw [em]
    clear h hr hl hps em H HR hm
    go_enter Tryd.func15, Tryd.ntmps15
    go_wp2_with fail
    go_ret
    exact ⟨_, _, rfl, below_alloc (Below.refl _ _) _, I8.row_new w w.heap.size (Nat.le_refl _) #[.int .i64 0] (by unfold maxLen; simp)⟩
  · obtain ⟨b, off, p0, rfl, hb, hp, hpl, _, d1, _, _⟩ := h.lw.at (by omega) h0
    have hof : p0.of = s.of := (hr.all p0.pc (List.mem_map.2 ⟨p0, hpl, rfl⟩)).1
    have hne : s.ps ≠ [] := fun e => by
      have := hr.nil.2 e
      have h3 := h.lw.len
      have h4 := congrArg List.length this
      simp at h4
      rw [h4] at h3
      simp at h3
      omega
    have o1 := hr.ok.of1 hne
    have o2 := hr.ok.of.2
    obtain ⟨n, en⟩ : ∃ n : Nat, (n : Int) = s.of := ⟨s.of.toNat, by omega⟩
    have EL : Hid (missL s = missN s.ps n) := by show _ = _; unfold missL; rw [show (max s.of 1).toNat = n by omega]
    rw [hof, ← en] at d1
    simp only [Nat.zero_mul, Nat.add_zero] at d1
    have hn16 : n ≤ 16 := by omega
    have D1 := hide d1
    have LB := hide hb
    have hz : ((m : Int) == 0) = false := by simp; omega
    clear h hr hp hpl hof hne en hb d1
    go_enter Tryd.func15, Tryd.ntmps15
    go_wp2_with fail
    go_loopw [3, 4] (fun t x wr => ∃ (k : Nat) (a1 : Option Addr) (m1 c1 : Nat), k ≤ n ∧ x = .int .i64 k ∧ t = .slice a1 m1 c1 ∧ Hid (m1 = (missN s.ps k).length) ∧ Hid (Below w.heap.size w wr) ∧ Hid (wr.ownsRow w.heap.size 3 1 (.slice a1 m1 c1) m1 (I8.vals (missN s.ps k)))) (fun _ x _ => n - (intOf x).toNat)
    case atStart => exact ⟨0, none, 0, 0, Nat.zero_le _, rfl, rfl, rfl, Below.refl _ _, World.ownsRow_nil _ _ _ _⟩
    case round =>
      obtain ⟨k, a1, m1, c1, hk, rfl, rfl, HM, HB, HW⟩ := hrel
      have H1 := hide (H.out.below HB.out)
      clear c0
      have c0 := H1.out.c0
      have d1 := (HB.out.cell (p := ⟨b, off + 1, none⟩) LB.out).trans D1.out
      have g0 : (0 : Int) < (m : Int) := by omega
      by_cases hlt : k < n
      · have i1 : (k : Int) < (n : Int) := by omega
        have CH := hide (rhas_any H1.out (by omega) (k : Int))
        have MS := hide (missN_succ s.ps k)
        have ML : Hid (m1 ≤ 16) := by show _ ≤ _; have := missN_length s.ps k; rw [HM.out]; omega
        cases hq : hasI (l.map Pv.pc) (k : Int) with
        | none =>
          have e1 := (rl_look HR.out (k : Int)).2 hq
          rw [has_neg hq] at CH
          obtain ⟨g, cp, w2, hr2, ho2, hb2⟩ := int_add HW.out (by have := ML.out; omega) HB.out.size (k : Int) 40
          have R2 : Hid (w2.ownsRow w.heap.size 3 1 (.slice (some ⟨g, 0, none⟩) (m1 + 1) cp) (m1 + 1) (I8.vals (missN s.ps (k + 1)))) := by
            rw [MS.out, e1]
            exact ho2
          have M2 : Hid (m1 + 1 = (missN s.ps (k + 1)).length) := by
            show _ = _
            rw [MS.out, e1]
            simp [HM.out]
          have B2 : Hid (Below w.heap.size w w2) := HB.out.trans hb2
          clear ho2 hb2 hq e1
          go_wp2_with fail
          refine CH.out.mono ?_
          rintro e w1 ⟨rfl, rfl⟩
          go_wp2_with (at_builtin; refine wp_append_run _ rfl _ _ 40 rfl _ _ hr2 ?_)
          go_roundw
          case rel => exact ⟨k + 1, _, _, _, by omega, by go_num, rfl, M2, B2, R2⟩
          case measure => simp [intOf]; omega
        | some i =>
          have e1 : (lookP s.ps (k : Int)).isNone = false := by
            cases hl : lookP s.ps (k : Int) with
            | none => rw [(rl_look HR.out (k : Int)).1 hl] at hq; cases hq
            | some _ => rfl
          rw [has_pos hq] at CH
          have g1 : ¬ (i : Int) < 0 := by omega
          have R2 : Hid (wr.ownsRow w.heap.size 3 1 (.slice a1 m1 c1) m1 (I8.vals (missN s.ps (k + 1)))) := by
            show wr.ownsRow w.heap.size 3 1 (.slice a1 m1 c1) m1 (I8.vals (missN s.ps (k + 1)))
            rw [MS.out, e1]
            simpa using HW.out
          have M2 : Hid (m1 = (missN s.ps (k + 1)).length) := by
            show _ = _
            rw [MS.out, e1]
            simp [HM.out]
          clear hq e1
          go_wp2_with fail
          refine CH.out.mono ?_
          rintro e w1 ⟨rfl, rfl⟩
          go_wp2_with fail
          go_roundw
          case rel => exact ⟨k + 1, _, _, _, by omega, by go_num, rfl, M2, HB, R2⟩
          case measure => simp [intOf]; omega
      · obtain rfl : k = n := by omega
        have R2 := HW.out
        rw [← EL.out] at R2
        have M2 := HM.out
        rw [← EL.out] at M2
        clear HW HM
        have HW := hide R2
        have HM := hide M2
        clear R2 M2
        go_wp2_with fail
        go_ret
        have hm := HM.out
        subst hm
        exact ⟨a1, c1, rfl, HB.out, HW.out⟩
end Go.Proofs.YtanfmpeblhegpaaDoor
