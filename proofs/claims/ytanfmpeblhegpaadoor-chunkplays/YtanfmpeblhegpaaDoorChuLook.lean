/- Missing and Done of a landed box. Condition: the table of the half bytes holds its sixteen numbers (Done). -/
import Derived.Test.YtanfmpeblhegpaaDoorChuSmall
import Derived.Test.YtanfmpeblhegpaaDoorRowAdd
namespace Go.Proofs.YtanfmpeblhegpaaDoor
open Go.ChangeShapes Go.WideShapes Go.ChangeAt Go.RowKit B8 Ck
set_option linter.unusedVariables false

theorem one_cell (x : Int) : ∀ u ∈ #[Value.int .i64 x], u.oneCell' = true := fun u hu => by simp at hu; subst hu; rfl
/-- one int more -/
theorem int_add {w : World} {B : Nat} {a : Option Addr} {m c : Nat} {zs : List Int} (h : w.ownsRow B 3 1 (.slice a m c) m (I8.vals zs)) (hm : m ≤ 1000) (hB : B ≤ w.heap.size) (x : Int) (ty : TypeId) :
    ∃ g cp w', (Builtin.append_ #[40, 40] ty #[.slice a m c, .slice (some ⟨w.heap.size, 0, none⟩) 1 1]).run Tryd.prog (w.alloc (.cells #[.int .i64 x] 3)) = .ok (.slice (some ⟨g, 0, none⟩) (m + 1) cp) w'
      ∧ w'.ownsRow B 3 1 (.slice (some ⟨g, 0, none⟩) (m + 1) cp) (m + 1) (I8.vals (zs ++ [x])) ∧ Below B w w' := by
  obtain ⟨i0, hi, hz0, hz1, hz2⟩ := info_parts I8.info
  obtain ⟨g, cp, w', hr, ho, _, hb, _⟩ := row_add (ty := ty) Tryd.underlying40 hi hz0 hz1 hz2 rfl (by omega) h #[.int .i64 x] rfl (one_cell x) (by omega) (by omega) hB
  refine ⟨g, cp, w', hr, ?_, hb⟩
  rw [I8.vals_append]
  exact ho
theorem lk_none_look {l : List Qv} {k : Int} (h : lkV l k = none) : lookP (l.map Qv.kb) k = none := by rw [← lk_kb, h]; rfl
theorem lk_some_look {l : List Qv} {k : Int} {q : Qv} (h : lkV l k = some q) : lookP (l.map Qv.kb) k = some q.b := by rw [← lk_kb, h]; rfl

set_option maxRecDepth 100000 in
set_option maxHeartbeats 1000000 in
theorem missing_any {w : World} {P : Nat → Prop} {B : Nat} {mo : Option Nat} {s : Bx} (h : Bm w P B mo s) :
    Calls Tryd.prog 14 #[.pointer (some ⟨B, 0, none⟩)] w fun e w' => ∃ a c, e = .returned (.slice a (missL s).length c) ∧ Below w.heap.size w w' ∧ w'.ownsRow w.heap.size 3 1 (.slice a (missL s).length c) (missL s).length (I8.vals (missL s)) := by
  have H := hide h
  have c0 := h.c0
  have o1 := h.ok.of.1
  have o2 := h.ok.of.2
  obtain ⟨n, en⟩ : ∃ n : Nat, n = (max s.of 1).toNat := ⟨_, rfl⟩
  have EN : Hid ((n : Int) = max s.of 1) := by show _ = _; omega
  have EL : Hid (missL s = missN s.ps n) := by show _ = _; unfold missL; rw [en]
  have hn : n ≤ 16 := by omega
  clear h en
  go_enter Tryd.func14, Tryd.ntmps14
  go_wp2_with fail
  all_goals
    go_loopw [3, 4, 5, 6, 15] (fun t _ _ _ x wr => ∃ (k : Nat) (a : Option Addr) (m c : Nat), k ≤ n ∧ x = .int .i64 k ∧ t = .slice a m c ∧ Hid (m = (missN s.ps k).length) ∧ Hid (Below w.heap.size w wr) ∧ Hid (wr.ownsRow w.heap.size 3 1 (.slice a m c) m (I8.vals (missN s.ps k)))) (fun _ _ _ _ x _ => n - (intOf x).toNat)
    case atStart => exact ⟨0, none, 0, 0, Nat.zero_le _, rfl, rfl, rfl, Below.refl _ _, World.ownsRow_nil _ _ _ _⟩
    case round =>
      obtain ⟨k, a, m, c, hk, rfl, rfl, HM, HB, HR⟩ := hrel
      by_cases hlt : k < n
      · have i0 := EN.out
        first
          | have i1 : (k : Int) < s.of := by omega
          | have i1 : (k : Int) < 1 := by omega
        clear i0
        have H1 := hide (H.out.below HB.out)
        clear c0
        have c2 := H1.out.c2
        obtain ⟨l, hmo, hps, hin⟩ := H1.out.ex
        have hwf : (Lit.int .i64 (k : Int)).wf = true := wf64 (by omega) (by omega)
        have hlk := (mo_look hmo hwf).1
        have MS := hide (missN_succ s.ps k)
        have ML : Hid (m ≤ 16) := by show _ ≤ _; have := missN_length s.ps k; rw [HM.out]; omega
        cases hq : lkV l (k : Int) with
        | none =>
          have e1 := lk_none_look hq
          rw [← hps] at e1
          rw [hq] at hlk
          simp only [lkS, Option.isSome_none] at hlk
          obtain ⟨g, cp, w2, hr2, ho2, hb2⟩ := int_add HR.out (by have := ML.out; omega) HB.out.size (k : Int) 40
          have R2 : Hid (w2.ownsRow w.heap.size 3 1 (.slice (some ⟨g, 0, none⟩) (m + 1) cp) (m + 1) (I8.vals (missN s.ps (k + 1)))) := by
            rw [MS.out, e1]
            exact ho2
          have M2 : Hid (m + 1 = (missN s.ps (k + 1)).length) := by
            show _ = _
            rw [MS.out, e1]
            simp [HM.out]
          have B2 : Hid (Below w.heap.size w w2) := HB.out.trans hb2
          clear ho2 hb2 hq hps hin hmo e1 hwf
          go_wp2_with (at_builtin; refine wp_append_run _ rfl _ _ 40 rfl _ _ hr2 ?_)
          go_roundw
          case rel => exact ⟨k + 1, _, _, _, by omega, by go_num, rfl, M2, B2, R2⟩
          case measure => simp [intOf]; omega
        | some q =>
          have e1 := lk_some_look hq
          rw [← hps] at e1
          rw [hq] at hlk
          simp only [lkS, Option.isSome_some, Qv.val] at hlk
          have R2 : Hid (wr.ownsRow w.heap.size 3 1 (.slice a m c) m (I8.vals (missN s.ps (k + 1)))) := by
            show wr.ownsRow w.heap.size 3 1 (.slice a m c) m (I8.vals (missN s.ps (k + 1)))
            rw [MS.out, e1]
            simpa using HR.out
          have M2 : Hid (m = (missN s.ps (k + 1)).length) := by
            show _ = _
            rw [MS.out, e1]
            simp [HM.out]
          clear hq hps hin hmo e1 hwf
          go_wp2_with fail
          go_roundw
          case rel => exact ⟨k + 1, _, _, _, by omega, by go_num, rfl, M2, HB, R2⟩
          case measure => simp [intOf]; omega
      · obtain rfl : k = n := by omega
        have R2 := HR.out
        rw [← EL.out] at R2
        have M2 := HM.out
        rw [← EL.out] at M2
        clear HR HM
        have HR := hide R2
        have HM := hide M2
        clear R2 M2
        have i0 := EN.out
        have i1 : ¬ (k : Int) < s.of := by omega
        try (have i2 : k = 1 := by omega
             subst i2)
        clear i0
        go_wp2_with fail
        go_ret
        have hm := HM.out
        subst hm
        exact ⟨a, c, rfl, HB.out, HR.out⟩
theorem missing_nil (w : World) : Calls Tryd.prog 14 #[.pointer none] w fun e w' => e = .returned (.slice none 0 0) ∧ w' = w := by
  go_enter Tryd.func14, Tryd.ntmps14
  go_wp2_with fail
  go_ret
  exact ⟨rfl, rfl⟩
end Go.Proofs.YtanfmpeblhegpaaDoor
