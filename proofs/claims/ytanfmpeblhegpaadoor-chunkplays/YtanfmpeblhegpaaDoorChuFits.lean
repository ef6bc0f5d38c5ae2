/- fits and Put of a landed box. No condition. -/
import Derived.Test.YtanfmpeblhegpaaDoorChuFork
namespace Go.Proofs.YtanfmpeblhegpaaDoor
open Go.ChangeShapes Go.WideShapes Go.ChangeAt Go.RowKit B8 Ck
set_option linter.unusedVariables false

/-- the piece's cells at N -/
def P4 (u : World) (N : Nat) (p : Pv) : Prop := u.cell? ⟨N, 0, none⟩ = some (.int .i64 p.k) ∧ u.cell? ⟨N, 1, none⟩ = some (.int .i64 p.of) ∧ u.cell? ⟨N, 2, none⟩ = some (.int .u32 p.sum) ∧ u.cell? ⟨N, 3, none⟩ = some (.slice p.a p.m p.cp)
theorem P4.below {u u' : World} {N : Nat} {p : Pv} (h : P4 u N p) (hb : Below u.heap.size u u') : P4 u' N p :=
  ⟨(hb.cell (World.block_lt_of_cell? _ _ h.1)).trans h.1, (hb.cell (World.block_lt_of_cell? _ _ h.2.1)).trans h.2.1, (hb.cell (World.block_lt_of_cell? _ _ h.2.2.1)).trans h.2.2.1, (hb.cell (World.block_lt_of_cell? _ _ h.2.2.2)).trans h.2.2.2⟩
theorem P4.drew {u : World} {N : Nat} {p : Pv} (h : P4 u N p) : P4 u.drew N p := h
theorem P4.chg {u u' : World} {N : Nat} {p : Pv} {M : Nat → Prop} (h : P4 u N p) (hc : Chg M u u') (hn : ¬ M N) : P4 u' N p := by
  have hl := World.block_lt_of_cell? _ _ h.1
  have e := hc.block N hl hn
  have c : ∀ o, u'.cell? ⟨N, o, none⟩ = u.cell? ⟨N, o, none⟩ := fun o => World.cell?_of_block (a := ⟨N, o, none⟩) e
  unfold P4
  rw [c, c, c, c]
  exact h
theorem p4_new (w : World) (p : Pv) : P4 (w.alloc (.cells #[.int .i64 p.k, .int .i64 p.of, .int .u32 p.sum, .slice p.a p.m p.cp] 32)) w.heap.size p := by
  have h := heap_alloc_new w (.cells #[.int .i64 p.k, .int .i64 p.of, .int .u32 p.sum, .slice p.a p.m p.cp] 32)
  exact ⟨by rw [cell_of_row _ _ _ _ _ _ h]; rfl, by rw [cell_of_row _ _ _ _ _ _ h]; rfl, by rw [cell_of_row _ _ _ _ _ _ h]; rfl, by rw [cell_of_row _ _ _ _ _ _ h]; rfl⟩
set_option maxRecDepth 100000 in
set_option maxHeartbeats 1000000 in
theorem fits_any {w : World} {P : Nat → Prop} {B : Nat} {mo : Option Nat} {s : Bx} (h : Bm w P B mo s) {p : Pv} (hp : POk w (fun _ => True) p) :
    Calls Tryd.prog 19 #[.pointer (some ⟨B, 0, none⟩), .agg #[.int .i64 p.k, .int .i64 p.of, .int .u32 p.sum, .slice p.a p.m p.cp]] w fun e w' => e = .returned (.bool (fitsB s p.pc)) ∧ Below w.heap.size w w' := by
  obtain ⟨u, eu⟩ : ∃ u, u = w.alloc (.cells #[.int .i64 p.k, .int .i64 p.of, .int .u32 p.sum, .slice p.a p.m p.cp] 32) := ⟨_, rfl⟩
  have BU : Hid (Below w.heap.size w u) := by rw [eu]; exact below_alloc (Below.refl _ _) _
  have X : Hid (P4 u w.heap.size p) := by rw [eu]; exact p4_new w p
  have H := hide (h.below BU.out)
  have HP := hide (hp.below BU.out)
  obtain ⟨N, eN⟩ : ∃ N, N = w.heap.size := ⟨_, rfl⟩
  rw [← eN] at X
  have c0 := H.out.c0
  have c1 := H.out.c1
  have c2 := H.out.c2
  obtain ⟨x0, x1, x2, x3⟩ := X.out
  obtain ⟨l, hmo, hps, hin⟩ := H.out.ex
  have hlen := mo_len hmo 3
  have hlk : ∀ n, (Instr.lookup 46 (.map mo) (.int .i64 p.k) true).run Tryd.prog (u.drewN n) = .ok (.tuple #[lkS (lkV l p.k), .bool (lkV l p.k).isSome]) (u.drewN n) := fun n => (mo_look (hmo.same (w' := u.drewN n) (fun _ _ => rfl)) hp.k).1
  have SA : Hid (∀ y : World, Below u.heap.size u y → Calls Tryd.prog 20 #[.agg #[.int .i64 p.k, .int .i64 p.of, .int .u32 p.sum, .slice p.a p.m p.cp]] y fun e w' => e = .returned (.agg #[.int .i64 p.of, .int .u32 p.sum]) ∧ Below y.heap.size y w') := fun y _ => says_any p y
  have EU := hide eu
  have EN := hide eN
  have c2' := c2
  rw [eu] at c2' hlen
  clear eu eN h hp
  by_cases hnil : l = []
  · subst hnil
    have e1 : fitsB s p.pc = true := decide_eq_true (.inl (by rw [hps]; rfl))
    rw [e1]
    simp only [List.length_nil] at hlen
    clear hlk hmo hps hin e1
    go_enter Tryd.func19, Tryd.ntmps19
    go_wp2_with fail
    rw [← EU.out]
    go_ret
    exact ⟨rfl, BU.out⟩
  · have hne : s.ps ≠ [] := fun e => hnil (by rw [hps] at e; simpa using e)
    have hL : (((l.length : Nat) : Int) == 0) = false := by
      have : l.length ≠ 0 := fun e => hnil (List.eq_nil_of_length_eq_zero e)
      simp; omega
    obtain ⟨L, eL⟩ : ∃ L : Nat, L = l.length := ⟨_, rfl⟩
    rw [← eL] at hlen hL
    clear eL
    have FB : Hid (fitsB s p.pc = decide (s.of = p.of ∧ s.sum = p.sum ∧ (lookP s.ps p.k = none ∨ lookP s.ps p.k = some p.b))) := by
      show _ = _
      unfold fitsB
      simp only [Pv.pc, hne, false_or]
    have HN := hide hne
    clear hnil hne
    have KP : Hid (AllCells u [(⟨B, 0, none⟩, .int .i64 s.of), (⟨B, 1, none⟩, .int .u32 s.sum), (⟨N, 0, none⟩, .int .i64 p.k), (⟨N, 1, none⟩, .int .i64 p.of), (⟨N, 2, none⟩, .int .u32 p.sum), (⟨N, 3, none⟩, .slice p.a p.m p.cp)]) := by
      show AllCells _ _
      simp [AllCells, c0, c1, x0, x1, x2, x3]
    have C2 := hide c2
    clear c1 c2 x1 x2 x3
    by_cases h1 : s.of = p.of
    · by_cases h2 : s.sum = p.sum
      · cases hq : lkV l p.k with
        | none =>
          have e1 := lk_none_look hq
          rw [← hps] at e1
          rw [FB.out, decide_eq_true ⟨h1, h2, .inl e1⟩]
          rw [hq] at hlk
          simp only [lkS, Option.isSome_none] at hlk
          clear hq hps hin hmo e1 FB
          have k1 : (s.of == p.of) = true := by simpa using h1
          have k2 : (s.sum == p.sum) = true := by simpa using h2
          clear h1 h2
          clear c0 x0
          go_enter Tryd.func19, Tryd.ntmps19
          go_wp2_with fail
          rw [← EU.out, ← EN.out]
          have c2 := C2.out
          have x0 := X.out.1
          go_quiet (fail)
          go_wp2_with fail
          refine wp_region_cells u [(⟨B, 0, none⟩, .int .i64 s.of), (⟨B, 1, none⟩, .int .u32 s.sum), (⟨N, 0, none⟩, .int .i64 p.k), (⟨N, 1, none⟩, .int .i64 p.of), (⟨N, 2, none⟩, .int .u32 p.sum), (⟨N, 3, none⟩, .slice p.a p.m p.cp)] (by kernel_rfl) (by kernel_rfl) (below_drewN8 (Below.refl _ _) _) (by exact KP.out) ?_
          intro hne qq
          simp only [AllCells, and_true] at qq
          clear c2 x0
          repeat (go_big_quiet_step (first | (go_at_call 20; exact Held.call _ (SA.out _ (Held.below _)))))
          refine wpQuiet_nil ?_
          rintro _ ⟨y, rfl⟩
          have BQ : Hid (Below u.heap.size u y.x) := y.below
          clear qq hne
          go_wp2_with fail
          go_ret
          exact ⟨rfl, below_step BU.out BQ.out⟩
        | some q =>
          have e1 := lk_some_look hq
          rw [← hps] at e1
          rw [hq] at hlk
          simp only [lkS, Option.isSome_some, Qv.val] at hlk
          have HQ := hide (hin q (lk_mem hq).1).1
          have EQ : Hid (∀ y : World, Below u.heap.size u y → Calls Tryd.prog 28 #[.slice q.a q.m q.cp, .slice p.a p.m p.cp] y fun e w' => e = .returned (.bool (decide (q.b = p.b))) ∧ Below y.heap.size y w') := fun y hy => (equal_any (HQ.out.below hy) (HP.out.bi.1.below hy)).mono fun e w' ⟨he, hw⟩ => ⟨he, by rw [hw]; exact Below.refl _ _⟩
          by_cases hb : q.b = p.b
          · rw [FB.out, decide_eq_true ⟨h1, h2, .inr (by rw [e1, hb])⟩]
            rw [decide_eq_true hb] at EQ
            clear hq hps hin hmo e1 FB hb
            have k1 : (s.of == p.of) = true := by simpa using h1
            have k2 : (s.sum == p.sum) = true := by simpa using h2
            clear h1 h2
            clear c0 x0
            go_enter Tryd.func19, Tryd.ntmps19
            go_wp2_with fail
            rw [← EU.out, ← EN.out]
            have c2 := C2.out
            have x0 := X.out.1
            go_quiet (fail)
            go_wp2_with fail
            refine wp_region_cells u [(⟨B, 0, none⟩, .int .i64 s.of), (⟨B, 1, none⟩, .int .u32 s.sum), (⟨N, 0, none⟩, .int .i64 p.k), (⟨N, 1, none⟩, .int .i64 p.of), (⟨N, 2, none⟩, .int .u32 p.sum), (⟨N, 3, none⟩, .slice p.a p.m p.cp)] (by kernel_rfl) (by kernel_rfl) (below_drewN8 (Below.refl _ _) _) (by exact KP.out) ?_
            intro hne qq
            simp only [AllCells, and_true] at qq
            clear c2 x0
            repeat (go_big_quiet_step (first | (go_at_call 20; exact Held.call _ (SA.out _ (Held.below _))) | (go_at_call 28; exact Held.call _ (EQ.out _ (Held.below _)))))
            refine wpQuiet_nil ?_
            rintro _ ⟨y, rfl⟩
            have BQ : Hid (Below u.heap.size u y.x) := y.below
            clear qq hne
            go_wp2_with fail
            go_ret
            exact ⟨rfl, below_step BU.out BQ.out⟩
          · rw [FB.out, decide_eq_false (fun e => by rcases e.2.2 with e | e <;> rw [e1] at e <;> simp at e; exact hb e)]
            rw [decide_eq_false hb] at EQ
            clear hq hps hin hmo e1 FB hb
            have k1 : (s.of == p.of) = true := by simpa using h1
            have k2 : (s.sum == p.sum) = true := by simpa using h2
            clear h1 h2
            clear c0 x0
            go_enter Tryd.func19, Tryd.ntmps19
            go_wp2_with fail
            rw [← EU.out, ← EN.out]
            have c2 := C2.out
            have x0 := X.out.1
            go_quiet (fail)
            go_wp2_with fail
            refine wp_region_cells u [(⟨B, 0, none⟩, .int .i64 s.of), (⟨B, 1, none⟩, .int .u32 s.sum), (⟨N, 0, none⟩, .int .i64 p.k), (⟨N, 1, none⟩, .int .i64 p.of), (⟨N, 2, none⟩, .int .u32 p.sum), (⟨N, 3, none⟩, .slice p.a p.m p.cp)] (by kernel_rfl) (by kernel_rfl) (below_drewN8 (Below.refl _ _) _) (by exact KP.out) ?_
            intro hne qq
            simp only [AllCells, and_true] at qq
            clear c2 x0
            repeat (go_big_quiet_step (first | (go_at_call 20; exact Held.call _ (SA.out _ (Held.below _))) | (go_at_call 28; exact Held.call _ (EQ.out _ (Held.below _)))))
            refine wpQuiet_nil ?_
            rintro _ ⟨y, rfl⟩
            have BQ : Hid (Below u.heap.size u y.x) := y.below
            clear qq hne
            go_wp2_with fail
            go_ret
            exact ⟨rfl, below_step BU.out BQ.out⟩
      · rw [FB.out, decide_eq_false (fun e => h2 e.2.1)]
        obtain ⟨vv, hvv⟩ : ∃ vv, vv = lkS (lkV l p.k) := ⟨_, rfl⟩
        obtain ⟨bb, hbb⟩ : ∃ bb, bb = (lkV l p.k).isSome := ⟨_, rfl⟩
        rw [← hvv, ← hbb] at hlk
        clear hvv hbb hps hin hmo FB
        have k1 : (s.of == p.of) = true := by simpa using h1
        have k2 : (s.sum == p.sum) = false := by simpa using h2
        clear h1 h2
        clear c0 x0
        go_enter Tryd.func19, Tryd.ntmps19
        go_wp2_with fail
        rw [← EU.out, ← EN.out]
        have c2 := C2.out
        have x0 := X.out.1
        go_quiet (fail)
        go_wp2_with fail
        refine wp_region_cells u [(⟨B, 0, none⟩, .int .i64 s.of), (⟨B, 1, none⟩, .int .u32 s.sum), (⟨N, 0, none⟩, .int .i64 p.k), (⟨N, 1, none⟩, .int .i64 p.of), (⟨N, 2, none⟩, .int .u32 p.sum), (⟨N, 3, none⟩, .slice p.a p.m p.cp)] (by kernel_rfl) (by kernel_rfl) (below_drewN8 (Below.refl _ _) _) (by exact KP.out) ?_
        intro hne qq
        simp only [AllCells, and_true] at qq
        clear c2 x0
        repeat (go_big_quiet_step (first | (go_at_call 20; exact Held.call _ (SA.out _ (Held.below _)))))
        refine wpQuiet_nil ?_
        rintro _ ⟨y, rfl⟩
        have BQ : Hid (Below u.heap.size u y.x) := y.below
        clear qq hne
        go_wp2_with fail
        go_ret
        exact ⟨rfl, below_step BU.out BQ.out⟩
    · rw [FB.out, decide_eq_false (fun e => h1 e.1)]
      obtain ⟨vv, hvv⟩ : ∃ vv, vv = lkS (lkV l p.k) := ⟨_, rfl⟩
      obtain ⟨bb, hbb⟩ : ∃ bb, bb = (lkV l p.k).isSome := ⟨_, rfl⟩
      rw [← hvv, ← hbb] at hlk
      clear hvv hbb hps hin hmo FB
      have k1 : (s.of == p.of) = false := by simpa using h1
      clear h1
      clear c0 x0
      go_enter Tryd.func19, Tryd.ntmps19
      go_wp2_with fail
      rw [← EU.out, ← EN.out]
      have c2 := C2.out
      have x0 := X.out.1
      go_quiet (fail)
      go_wp2_with fail
      refine wp_region_cells u [(⟨B, 0, none⟩, .int .i64 s.of), (⟨B, 1, none⟩, .int .u32 s.sum), (⟨N, 0, none⟩, .int .i64 p.k), (⟨N, 1, none⟩, .int .i64 p.of), (⟨N, 2, none⟩, .int .u32 p.sum), (⟨N, 3, none⟩, .slice p.a p.m p.cp)] (by kernel_rfl) (by kernel_rfl) (below_drewN8 (Below.refl _ _) _) (by exact KP.out) ?_
      intro hne qq
      simp only [AllCells, and_true] at qq
      clear c2 x0
      repeat (go_big_quiet_step (first | (go_at_call 20; exact Held.call _ (SA.out _ (Held.below _)))))
      refine wpQuiet_nil ?_
      rintro _ ⟨y, rfl⟩
      have BQ : Hid (Below u.heap.size u y.x) := y.below
      clear qq hne
      go_wp2_with fail
      go_ret
      exact ⟨rfl, below_step BU.out BQ.out⟩
end Go.Proofs.YtanfmpeblhegpaaDoor
