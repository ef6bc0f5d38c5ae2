/- Done of a landed box. Condition: the table of the half bytes holds its sixteen numbers. -/
import Derived.Test.YtanfmpeblhegpaaDoorChuLook
namespace Go.Proofs.YtanfmpeblhegpaaDoor
open Go.ChangeShapes Go.WideShapes Go.ChangeAt Go.RowKit B8 Ck
set_option linter.unusedVariables false

theorem Tab.drewK {w : World} (h : Tab w) (n : Nat) : Tab (w.drewN n) := h
set_option maxRecDepth 100000 in
set_option maxHeartbeats 1000000 in
theorem done_any {w : World} {P : Nat → Prop} {B : Nat} {mo : Option Nat} {s : Bx} (h : Bm w P B mo s) (ht : Tab w) :
    Calls Tryd.prog 11 #[.pointer (some ⟨B, 0, none⟩)] w fun e w' => ∃ a c, e = .returned (.tuple #[.slice a (doneL s).length c, .bool (doneB s)]) ∧ Below w.heap.size w w' ∧ w'.ownsRow w.heap.size 5 1 (.slice a (doneL s).length c) (doneL s).length (B8.vals (doneL s)) := by
  have H := hide h
  have HT := hide ht
  have C := hide (missing_any h)
  by_cases hm : missL s = []
  · rw [hm] at C
    simp only [List.length_nil] at C
    have o1 := h.ok.of.1
    have o2 := h.ok.of.2
    obtain ⟨n, en⟩ : ∃ n : Nat, n = s.of.toNat := ⟨_, rfl⟩
    have EN : Hid ((n : Int) = s.of) := by show _ = _; omega
    have hn : n ≤ 16 := by omega
    have ALL : Hid (∀ j : Nat, j < n → (lookP s.ps (j : Int)).isNone = false) := fun j hj => missN_nil.1 hm j (by omega)
    have EC : Hid (catL s = catN s.ps n) := by show _ = _; unfold catL; rw [en]
    have CL : Hid (∀ k, (catN s.ps k).length ≤ k * 512) := fun k => catN_length h.ok k
    have HM := hide hm
    clear h ht hm en
    go_enter Tryd.func11, Tryd.ntmps11
    go_wp2_with fail
    refine C.out.mono ?_
    rintro e w1 ⟨a1, c1, rfl, hb1, _⟩
    have B1 := hide hb1
    have c0 := (H.out.below hb1).c0
    clear hb1
    go_wp2_with fail
    go_loopw [4, 5, 19] (fun t _ x wr => ∃ (k : Nat) (a : Option Addr) (m c : Nat), k ≤ n ∧ x = .int .i64 k ∧ t = .slice a m c ∧ Hid (m = (catN s.ps k).length) ∧ Hid (Below w.heap.size w wr) ∧ Hid (wfs (catN s.ps k)) ∧ Hid (wr.ownsRow w.heap.size 5 1 (.slice a m c) m (B8.vals (catN s.ps k)))) (fun _ _ x _ => n - (intOf x).toNat)
    case atStart => exact ⟨0, none, 0, 0, Nat.zero_le _, rfl, rfl, rfl, B1, wfs_nil, World.ownsRow_nil _ _ _ _⟩
    case round =>
      obtain ⟨k, a, m, c, hk, rfl, rfl, EM, HB, HW, HR⟩ := hrel
      have H1 := hide (H.out.below HB.out)
      clear c0
      by_cases hlt : k < n
      · have i0 := EN.out
        have i1 : (k : Int) < s.of := by omega
        clear i0
        have c2 := H1.out.c2
        obtain ⟨l, hmo, hps, hin⟩ := H1.out.ex
        have hwf : (Lit.int .i64 (k : Int)).wf = true := wf64 (by omega) (by omega)
        have hlk := (mo_look hmo hwf).2
        have MS := hide (catN_succ s.ps k)
        have hal := ALL.out k hlt
        have hml : Hid (m ≤ 8192) := by show _ ≤ _; have := CL.out k; rw [EM.out]; omega
        cases hq : lkV l (k : Int) with
        | none =>
          have e1 := lk_none_look hq
          rw [← hps] at e1
          rw [e1] at hal
          cases hal
        | some q =>
          have e1 := lk_some_look hq
          rw [← hps] at e1
          rw [hq] at hlk
          simp only [lkS, Qv.val] at hlk
          have hql := (lk_mem hq).1
          have HQ := hide (hin q hql).1
          have q5 : Hid (q.m ≤ 512) := by
            show _ ≤ _
            have h1 := H1.out.ok.blen (q := q.kb) (by rw [hps]; exact List.mem_map.2 ⟨q, hql, rfl⟩)
            have h2 := HQ.out.length
            rw [← h2]
            exact h1
          have E1 : Hid (catN s.ps (k + 1) = catN s.ps k ++ q.b) := by show _ = _; rw [MS.out, e1]; rfl
          clear hq hps hin hmo e1 hwf hal hql
          go_wp2_with (at_builtin; refine wp_append_sq _ rfl (.tmp 22) (.tmp 28) rfl w.heap.size (.slice a m c) m (catN s.ps k) rfl HR.out q.a q.m q.cp q.b rfl HQ.out (by have := hml.out; have := q5.out; omega) HB.out.size ?_; intro v' w2 ho2 hg2)
          have W2 : Hid (wfs (catN s.ps (k + 1))) := by
            show wfs _
            rw [E1.out]
            exact wfs_append HW.out HQ.out.wf
          have B2 : Hid (Below w.heap.size w w2) := below_grown HB.out HR.out (Nat.le_refl _) hg2
          rw [← E1.out] at ho2
          have L2 : Hid (m + q.m = (catN s.ps (k + 1)).length) := by
            show _ = _
            rw [E1.out, List.length_append, ← EM.out, HQ.out.length]
          obtain ⟨a2, c2', rfl, _⟩ := sq_of_row L2.out.symm W2.out ho2
          have R2 := hide ho2
          clear ho2 hg2
          go_roundw
          case rel => exact ⟨k + 1, _, _, _, by omega, by go_num, rfl, L2, B2, W2, R2⟩
          case measure => simp [intOf]; omega
      · obtain rfl : k = n := by omega
        have i0 := EN.out
        have i1 : ¬ (k : Int) < s.of := by omega
        clear i0
        have c1 := H1.out.c1
        have SQ : Hid (Sq wr a m c (catL s)) := by
          show Sq _ _ _ _ _
          obtain ⟨a3, c3, e3, h3⟩ := sq_of_row EM.out.symm HW.out HR.out
          obtain ⟨rfl, rfl⟩ : a = a3 ∧ c = c3 := by simpa using e3
          rw [EC.out]
          exact h3
        have LM : Hid (m ≤ 8192) := by show _ ≤ _; have := CL.out k; rw [EM.out]; omega
        have CS : Hid (∀ i, Calls Tryd.prog 25 #[.slice a m c] (wr.drewN i) fun e w' => e = .returned (.int .u32 (fsum (catL s) : Nat)) ∧ w' = wr.drewN i) := fun i => csum_sq (SQ.out.drew i) ((HT.out.below HB.out).drewK i) (by have := LM.out; omega)
        have EF : Hid ((catL s).length = m) := by show _ = _; rw [EM.out, EC.out]
        have RF : Hid (wr.ownsRow w.heap.size 5 1 (.slice a m c) m (B8.vals (catL s))) := by show World.ownsRow _ _ _ _ _ _ _; rw [EC.out]; exact HR.out
        obtain ⟨F, eF⟩ : ∃ F : Nat, F = fsum (catL s) := ⟨_, rfl⟩
        rw [← eF] at CS
        have EFS := hide eF
        clear eF
        go_wp2_with fail
        go_quiet ((go_at_call 25; exact Calls.quiet_of_same (CS.out _)))
        by_cases hs : ((F : Nat) : Int) = s.sum
        · have D1 : Hid (doneB s = true) := by show _ = _; unfold doneB; rw [HM.out, ← EFS.out]; simp [hs]
          have D2 : Hid (doneL s = catL s) := by show _ = _; unfold doneL; rw [if_pos D1.out]
          go_wp2_with fail
          go_returns
          rw [D1.out, D2.out, EF.out]
          exact ⟨a, c, rfl, below_drewN8 HB.out _, RF.out⟩
        · have D1 : Hid (doneB s = false) := by show _ = _; unfold doneB; rw [HM.out, ← EFS.out]; simp [hs]
          have D2 : Hid (doneL s = []) := by show _ = _; unfold doneL; rw [D1.out]; rfl
          have n1 : (((F : Nat) : Int) != s.sum) = true := by simpa using hs
          go_wp2_with fail
          go_returns
          rw [D1.out, D2.out]
          exact ⟨none, 0, rfl, below_drewN8 HB.out _, World.ownsRow_nil _ _ _ _⟩
  · have D1 : Hid (doneB s = false) := by show _ = _; unfold doneB; simp [hm]
    have D2 : Hid (doneL s = []) := by show _ = _; unfold doneL; rw [D1.out]; rfl
    obtain ⟨L, eL⟩ : ∃ L, L = (missL s).length := ⟨_, rfl⟩
    have hL : 0 < L := by rw [eL]; exact List.length_pos_iff.2 hm
    have hL2 : (0 : Int) < (L : Int) := by omega
    rw [← eL] at C
    rw [D1.out, D2.out]
    clear h ht hm eL H HT
    go_enter Tryd.func11, Tryd.ntmps11
    go_wp2_with fail
    refine C.out.mono ?_
    rintro e w1 ⟨a1, c1, rfl, hb1, _⟩
    have B1 := hide hb1
    clear hb1
    go_wp2_with fail
    go_returns
    exact ⟨none, 0, rfl, B1.out, World.ownsRow_nil _ _ _ _⟩
theorem done_nil (w : World) : Calls Tryd.prog 11 #[.pointer none] w fun e w' => e = .returned (.tuple #[.slice none 0 0, .bool false]) ∧ w' = w := by
  go_enter Tryd.func11, Tryd.ntmps11
  go_wp2_with fail
  go_returns
  exact ⟨rfl, rfl⟩
end Go.Proofs.YtanfmpeblhegpaaDoor
