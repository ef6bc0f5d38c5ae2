/- The document's Room. Condition: the account can be read. -/
import Derived.Test.YtfolpnjndlklkaaAcoRefC
namespace Go.Proofs.Ytfolpnjndlklkaa
open Go.ChangeShapes Go.WideShapes Go.ChangeAt Go.RowKit Ao
set_option linter.unusedVariables false

/-- an account in its block, and two wide numbers -/
structure Rm (w W : World) (A : Ac) (a : Option Addr) (n c p q : Nat) (dl uh : Int) : Prop where
  b : Below w.heap.size w W
  ab : Ab W w.heap.size A a n c
  fp : Wb W p dl
  fq : Wb W q uh
theorem Rm.below {w W W' : World} {A : Ac} {a : Option Addr} {n c p q : Nat} {dl uh : Int} (h : Rm w W A a n c p q dl uh) (hb : Below W.heap.size W W') : Rm w W' A a n c p q dl uh :=
  ⟨h.b.trans (hb.mono h.b.size), h.ab.below hb, h.fp.below hb, h.fq.below hb⟩
theorem Rm.facts {w W : World} {A : Ac} {a : Option Addr} {n c p q : Nat} {dl uh : Int} (h : Rm w W A a n c p q dl uh) :
    W.cell? ⟨p, 0, none⟩ = some (.int .i64 (hiOf dl)) ∧ W.cell? ⟨p, 1, none⟩ = some (.int .u64 (loOf dl)) ∧ W.cell? ⟨q, 1, none⟩ = some (.int .u64 (loOf uh)) ∧ W.cell? ⟨w.heap.size, 1, none⟩ = some (.int .i64 A.lo) ∧ W.cell? ⟨w.heap.size, 2, none⟩ = some (.int .i64 A.hi) := by
  obtain ⟨z0, z1, z2, z3, z4, z5, z6, z7, z8, z9⟩ := h.ab.at_
  exact ⟨h.fp.at_.1, h.fp.at_.2, h.fq.at_.2, z1, z2⟩
theorem rm_arr {w u : World} {A : Ac} {a : Option Addr} {n c p q : Nat} {dl uh : Int} (h : Rm w u A a n c p q dl uh) : ∃ (v : World) (b : Nat), v = u.alloc (.cells #[.int .i64 A.hi] 3) ∧ b = u.heap.size ∧ Hid (Rm w v A a n c p q dl uh) ∧ Hid (v.cell? ⟨b, 0, none⟩ = some (.int .i64 A.hi)) := by
  have hb := below_new u (.cells #[.int .i64 A.hi] 3)
  refine ⟨_, _, rfl, rfl, h.below hb, ?_⟩
  show _ = _
  rw [cell_of_row _ _ _ _ _ _ (heap_alloc_new u _)]
  rfl
theorem fl_two (a b : Int) (w : World) : (Instr.field 56 (.agg #[.int .i64 a, .int .u64 b]) 1).run Try.prog w = .ok (.int .u64 b) w := by kernel_rfl
set_option maxRecDepth 100000 in
set_option maxHeartbeats 2000000 in
theorem rroom_any {w : World} {a : Option Addr} {n c : Nat} {A : Ac} (h : Hs w a n A.hs) (hw : AcW A) : Calls Try.prog 14 #[.agg #[.string A.key, .int .i64 A.lo, .int .i64 A.hi, .int .i64 A.base, .int .i64 A.rd, .slice a n c, .int .i64 A.lk.c, .int .i64 A.lk.s, .int .i64 A.lk.h, .int .i64 A.lk.n]] w fun e w' => e = .returned (.tuple #[.int .u64 (downR A), .int .u64 (upR A)]) ∧ Below w.heap.size w w' := by
  have RR := fun W => hide (fun hW : Below w.heap.size w W => rright_any (c := c) (h.below hW) hw)
  by_cases hr : rightB A = true
  · rw [hr] at RR
    by_cases hl : A.lk.c = 0
    · have hR := (right_iff A).1 hr
      have EN := fun W => hide (fun hW : Below w.heap.size w W => ends_any (c := c) (h.below hW) hw hR.hs)
      have q0 := ups_nonneg hR.hs
      have q1 := hR.base
      have q2 := hR.up
      have q3 := hR.dn
      have q4 := hw.lo
      have q5 := hw.hi
      have HI := hide q5
      have e1 : downR A = A.base - downs A.hs - A.lo := by unfold downR; rw [if_pos ⟨hr, hl⟩]
      have e2 : upR A = A.hi - (A.base + ups A.hs) := by unfold upR; rw [if_pos ⟨hr, hl⟩]
      rw [e1, e2]
      obtain ⟨dl, edl⟩ : ∃ z, z = A.base - downs A.hs := ⟨_, rfl⟩
      obtain ⟨uh, euh⟩ : ∃ z, z = A.base + ups A.hs := ⟨_, rfl⟩
      rw [← edl, ← euh] at EN ⊢
      unfold I64 at q4 q5
      have LE := fun W => hide (less_w (z := dl) (n := A.lo) W (by omega) (by omega) hw.lo)
      have E1 : Hid (dl - A.lo = loOf (dl - A.lo)) := by show _ = _; unfold loOf; omega
      have E2 : Hid (A.hi - uh = IntKind.u64.wrap (loOf A.hi - loOf uh)) := by
        show _ = _
        rw [show IntKind.u64.wrap (loOf A.hi - loOf uh) = (loOf A.hi - loOf uh) % 18446744073709551616 from rfl]
        unfold loOf
        omega
      simp only [hl] at EN
      have HLK := hide hl
      have E3 : Hid (Ending.returned (.tuple #[.int .u64 (loOf (dl - A.lo)), .int .u64 (IntKind.u64.wrap (loOf A.hi - loOf uh))]) = Ending.returned (.tuple #[.int .u64 (dl - A.lo), .int .u64 (A.hi - uh)])) := by show _ = _; rw [← E1.out, ← E2.out]
      clear E1 E2 e1 e2 edl euh q0 q1 q2 q3 q4 q5 hr hR hw h hl
      go_enter Try.func14, Try.ntmps14
      go_wp2_with fail
      obtain ⟨w1, ew, hb1, ha1⟩ := one_new w A a n c
      rw [← ew]
      have HB1 := hide hb1
      have HA1 := hide ha1
      clear hb1 ha1 ew
      obtain ⟨z0, z1, z2, z3, z4, z5, z6, z7, z8, z9⟩ := HA1.out.at_
      have hs1 : w.heap.size < w1.heap.size := HA1.out.lt
      refine ((RR _).out HB1.out).mono ?_
      rintro e w2 ⟨rfl, hb⟩
      have HB2 : Hid (Below w.heap.size w w2) := HB1.out.trans (hb.mono HB1.out.size)
      have HA2 := hide (HA1.out.below hb)
      clear hb z0 z1 z2 z3 z4 z5 z6 z7 z8 z9
      obtain ⟨z0, z1, z2, z3, z4, z5, z6, z7, z8, z9⟩ := HA2.out.at_
      have hs2 : w.heap.size < w2.heap.size := HA2.out.lt
      have hl := HLK.out
      go_wp2_with fail
      refine ((EN _).out HB2.out).mono ?_
      rintro e w5 ⟨rfl, hb⟩
      obtain ⟨w6, ew, hbu, hl6, hh6⟩ := two_wide w5 dl uh
      have hb6 : Below w2.heap.size w2 w6 := hb.trans (hbu.mono hb.size)
      have HR : Hid (Rm w w6 A a n c w5.heap.size (w5.heap.size + 1) dl uh) := ⟨HB2.out.trans (hb6.mono HB2.out.size), HA2.out.below hb6, hl6, hh6⟩
      clear hb hbu hb6 hl6 hh6 z0 z1 z2 z3 z4 z5 z6 z7 z8 z9 RR EN HB1 HB2 HA1 HA2
      go_upto_region 4 with fail
      rw [← ew]
      clear ew
      generalize w5.heap.size + 1 = q at HR ⊢
      generalize w5.heap.size = p at HR ⊢
      refine region_tree (n := 17) (fun v => v.cell? ⟨p, 0, none⟩ = some (.int .i64 (hiOf dl)) ∧ v.cell? ⟨p, 1, none⟩ = some (.int .u64 (loOf dl)) ∧ v.cell? ⟨q, 1, none⟩ = some (.int .u64 (loOf uh)) ∧ v.cell? ⟨w.heap.size, 1, none⟩ = some (.int .i64 A.lo) ∧ v.cell? ⟨w.heap.size, 2, none⟩ = some (.int .i64 A.hi)) (by kernel_rfl) (by kernel_rfl) ?_
      have HR0 : Hid (Rm w w6.drew A a n c p q dl uh) := HR.out.below (below_drew1 _)
      generalize w6.drew = u0 at HR0 ⊢
      clear HR
      obtain ⟨ka0, kb0, kc0, kd0, ke0⟩ := HR0.out.facts
      refine any_take 0 (v := ?_) (by kernel_rfl) (by kernel_rfl) (by kernel_rfl) rfl (fun _ _ _ h => h) (by rfl) (And.intro ka0 (And.intro kb0 (And.intro kc0 (And.intro kd0 ke0)))) ?_ ?_
      rotate_left
      · (intro y hy; obtain ⟨q0, q1, q2, q3, q4⟩ := hy; simp only [List.getElem_toArray, List.getElem_cons_zero]; go_simp; try with_reducible rfl)
      simp only [List.getElem_toArray, List.getElem_cons_zero, Act.put, List.setIfInBounds_toArray, List.set_cons_zero, List.set_cons_succ]
      refine any_take 1 (v := ?_) (by kernel_rfl) (by kernel_rfl) (by kernel_rfl) rfl (fun _ _ _ h => h) (by rfl) (And.intro ka0 (And.intro kb0 (And.intro kc0 (And.intro kd0 ke0)))) ?_ ?_
      rotate_left
      · (intro y hy; simp only [List.getElem_toArray, List.getElem_cons_zero, List.getElem_cons_succ]; go_simp; try with_reducible rfl)
      simp only [List.getElem_toArray, List.getElem_cons_zero, List.getElem_cons_succ, Act.put, List.setIfInBounds_toArray, List.set_cons_zero, List.set_cons_succ]
      refine any_take 2 (v := ?_) (by kernel_rfl) (by kernel_rfl) (by kernel_rfl) rfl (fun _ _ _ h => h) (by rfl) (And.intro ka0 (And.intro kb0 (And.intro kc0 (And.intro kd0 ke0)))) ?_ ?_
      rotate_left
      · (intro y hy; simp only [List.getElem_toArray, List.getElem_cons_zero, List.getElem_cons_succ]; go_simp; try with_reducible rfl)
      simp only [List.getElem_toArray, List.getElem_cons_zero, List.getElem_cons_succ, Act.put, List.setIfInBounds_toArray, List.set_cons_zero, List.set_cons_succ]
      refine any_take 3 (v := ?_) (by kernel_rfl) (by kernel_rfl) (by kernel_rfl) rfl (fun _ _ _ h => h) (by rfl) (And.intro ka0 (And.intro kb0 (And.intro kc0 (And.intro kd0 ke0)))) ?_ ?_
      rotate_left
      · (intro y hy; obtain ⟨q0, q1, q2, q3, q4⟩ := hy; simp only [List.getElem_toArray, List.getElem_cons_zero, List.getElem_cons_succ]; go_simp; try with_reducible rfl)
      simp only [List.getElem_toArray, List.getElem_cons_zero, List.getElem_cons_succ, Act.put, List.setIfInBounds_toArray, List.set_cons_zero, List.set_cons_succ]
      refine any_take 6 (v := ?_) (by kernel_rfl) (by kernel_rfl) (by kernel_rfl) rfl (fun _ _ _ h => h) (by rfl) (And.intro ka0 (And.intro kb0 (And.intro kc0 (And.intro kd0 ke0)))) ?_ ?_
      rotate_left
      · (intro y hy; simp only [List.getElem_toArray, List.getElem_cons_zero, List.getElem_cons_succ]; go_simp; try with_reducible rfl)
      simp only [List.getElem_toArray, List.getElem_cons_zero, List.getElem_cons_succ, Act.put, List.setIfInBounds_toArray, List.set_cons_zero, List.set_cons_succ]
      refine any_take 7 (v := ?_) (by kernel_rfl) (by kernel_rfl) (by kernel_rfl) rfl (fun _ _ _ h => h) (by rfl) (And.intro ka0 (And.intro kb0 (And.intro kc0 (And.intro kd0 ke0)))) ?_ ?_
      rotate_left
      · (intro y hy; simp only [List.getElem_toArray, List.getElem_cons_zero, List.getElem_cons_succ]; go_simp; try with_reducible rfl)
      simp only [List.getElem_toArray, List.getElem_cons_zero, List.getElem_cons_succ, Act.put, List.setIfInBounds_toArray, List.set_cons_zero, List.set_cons_succ]
      refine any_take 8 (v := ?_) (by kernel_rfl) (by kernel_rfl) (by kernel_rfl) rfl (fun _ _ _ h => h) (by rfl) (And.intro ka0 (And.intro kb0 (And.intro kc0 (And.intro kd0 ke0)))) ?_ ?_
      rotate_left
      · (intro y hy; obtain ⟨q0, q1, q2, q3, q4⟩ := hy; simp only [List.getElem_toArray, List.getElem_cons_zero, List.getElem_cons_succ]; go_simp; try with_reducible rfl)
      simp only [List.getElem_toArray, List.getElem_cons_zero, List.getElem_cons_succ, Act.put, List.setIfInBounds_toArray, List.set_cons_zero, List.set_cons_succ]
      refine any_take 12 (v := ?_) (by kernel_rfl) (by kernel_rfl) (by kernel_rfl) rfl (fun _ _ _ h => h) (by rfl) (And.intro ka0 (And.intro kb0 (And.intro kc0 (And.intro kd0 ke0)))) ?_ ?_
      rotate_left
      · (intro y hy; simp only [List.getElem_toArray, List.getElem_cons_zero, List.getElem_cons_succ]; go_simp; try with_reducible rfl)
      simp only [List.getElem_toArray, List.getElem_cons_zero, List.getElem_cons_succ, Act.put, List.setIfInBounds_toArray, List.set_cons_zero, List.set_cons_succ]
      refine any_take 13 (v := ?_) (by kernel_rfl) (by kernel_rfl) (by kernel_rfl) rfl (fun _ _ _ h => h) (by rfl) (And.intro ka0 (And.intro kb0 (And.intro kc0 (And.intro kd0 ke0)))) ?_ ?_
      rotate_left
      · (intro y hy; obtain ⟨q0, q1, q2, q3, q4⟩ := hy; simp only [List.getElem_toArray, List.getElem_cons_zero, List.getElem_cons_succ]; go_simp; try with_reducible rfl)
      simp only [List.getElem_toArray, List.getElem_cons_zero, List.getElem_cons_succ, Act.put, List.setIfInBounds_toArray, List.set_cons_zero, List.set_cons_succ]
      refine any_fork [4, 9] (by kernel_rfl) (by simp) ?_
      refine fork_more ?_ ?_
      · skip
        refine any_op rfl (fun K' hK => ?_)
        simp only [List.getElem_toArray, List.getElem_cons_zero, List.getElem_cons_succ]
        go_simp
        refine (LE _).out.mono ?_; rintro e u1 ⟨rfl, hb⟩; have HR1 := hide (HR0.out.below hb); clear ka0 kb0 kc0 kd0 ke0
        clear hb
        obtain ⟨ka1, kb1, kc1, kd1, ke1⟩ := HR1.out.facts
        refine hK _ _ ⟨(And.intro ka1 (And.intro kb1 (And.intro kc1 (And.intro kd1 ke1)))), ?_⟩
        clear hK K'
        refine any_take 5 (v := ?_) (by kernel_rfl) (by kernel_rfl) (by kernel_rfl) rfl (fun _ _ _ h => h) (by rfl) (And.intro ka1 (And.intro kb1 (And.intro kc1 (And.intro kd1 ke1)))) ?_ ?_
        rotate_left
        · (intro y hy; simp only [List.getElem_toArray, List.getElem_cons_zero, List.getElem_cons_succ]; go_simp; rw [fl_two]; exact rfl)
        simp only [List.getElem_toArray, List.getElem_cons_zero, List.getElem_cons_succ, Act.put, List.setIfInBounds_toArray, List.set_cons_zero, List.set_cons_succ]
        refine any_fork [9] (by kernel_rfl) (by simp) ?_
        refine fork_one ?_
        refine any_op rfl (fun K' hK => ?_)
        simp only [List.getElem_toArray, List.getElem_cons_zero, List.getElem_cons_succ]
        go_simp
        obtain ⟨u2, g, ev, el, HR2, H9⟩ := rm_arr HR1.out
        rw [← ev, ← el]; clear ev el
        clear ka1 kb1 kc1 kd1 ke1
        obtain ⟨ka2, kb2, kc2, kd2, ke2⟩ := HR2.out.facts
        refine hK _ _ ⟨(And.intro ka2 (And.intro kb2 (And.intro kc2 (And.intro kd2 ke2)))), ?_⟩
        clear hK K'
        refine any_fork [10] (by kernel_rfl) (by simp) ?_
        refine fork_one ?_
        refine any_op rfl (fun K' hK => ?_)
        simp only [List.getElem_toArray, List.getElem_cons_zero, List.getElem_cons_succ]
        go_simp
        refine (of_one H9.out HI.out).mono ?_; rintro e u3 ⟨rfl, hb⟩; have HR3 := hide (HR2.out.below hb); clear hb H9 ka2 kb2 kc2 kd2 ke2
        obtain ⟨ka3, kb3, kc3, kd3, ke3⟩ := HR3.out.facts
        refine hK _ _ ⟨(And.intro ka3 (And.intro kb3 (And.intro kc3 (And.intro kd3 ke3)))), ?_⟩
        clear hK K'
        refine any_take 11 (v := ?_) (by kernel_rfl) (by kernel_rfl) (by kernel_rfl) rfl (fun _ _ _ h => h) (by rfl) (And.intro ka3 (And.intro kb3 (And.intro kc3 (And.intro kd3 ke3)))) ?_ ?_
        rotate_left
        · (intro y hy; simp only [List.getElem_toArray, List.getElem_cons_zero, List.getElem_cons_succ]; go_simp; rw [fl_two]; exact rfl)
        simp only [List.getElem_toArray, List.getElem_cons_zero, List.getElem_cons_succ, Act.put, List.setIfInBounds_toArray, List.set_cons_zero, List.set_cons_succ]
        refine any_take 14 (v := ?_) (by kernel_rfl) (by kernel_rfl) (by kernel_rfl) rfl (fun _ _ _ h => h) (by rfl) (And.intro ka3 (And.intro kb3 (And.intro kc3 (And.intro kd3 ke3)))) ?_ ?_
        rotate_left
        · (intro y hy; simp only [List.getElem_toArray, List.getElem_cons_zero, List.getElem_cons_succ]; go_simp; try with_reducible rfl)
        simp only [List.getElem_toArray, List.getElem_cons_zero, List.getElem_cons_succ, Act.put, List.setIfInBounds_toArray, List.set_cons_zero, List.set_cons_succ]
        refine any_take 15 (v := ?_) (by kernel_rfl) (by kernel_rfl) (by kernel_rfl) rfl (fun _ _ _ h => h) (by rfl) (And.intro ka3 (And.intro kb3 (And.intro kc3 (And.intro kd3 ke3)))) ?_ ?_
        rotate_left
        · (intro y hy; simp only [List.getElem_toArray, List.getElem_cons_zero, List.getElem_cons_succ]; go_simp; try with_reducible rfl)
        simp only [List.getElem_toArray, List.getElem_cons_zero, List.getElem_cons_succ, Act.put, List.setIfInBounds_toArray, List.set_cons_zero, List.set_cons_succ]
        refine any_take 16 (v := ?_) (by kernel_rfl) (by kernel_rfl) (by kernel_rfl) rfl (fun _ _ _ h => h) (by rfl) (And.intro ka3 (And.intro kb3 (And.intro kc3 (And.intro kd3 ke3)))) ?_ ?_
        rotate_left
        · (intro y hy; simp only [List.getElem_toArray, List.getElem_cons_zero, List.getElem_cons_succ]; go_simp; try with_reducible rfl)
        simp only [List.getElem_toArray, List.getElem_cons_zero, List.getElem_cons_succ, Act.put, List.setIfInBounds_toArray, List.set_cons_zero, List.set_cons_succ]
        refine any_done (by kernel_rfl) ?_
        go_wp2_with fail
        go_returns
        exact ⟨E3.out, HR3.out.b⟩
      refine fork_one ?_
      refine any_op rfl (fun K' hK => ?_)
      simp only [List.getElem_toArray, List.getElem_cons_zero, List.getElem_cons_succ]
      go_simp
      obtain ⟨u1, g, ev, el, HR1, H9⟩ := rm_arr HR0.out
      rw [← ev, ← el]; clear ev el
      clear ka0 kb0 kc0 kd0 ke0
      obtain ⟨ka1, kb1, kc1, kd1, ke1⟩ := HR1.out.facts
      refine hK _ _ ⟨(And.intro ka1 (And.intro kb1 (And.intro kc1 (And.intro kd1 ke1)))), ?_⟩
      clear hK K'
      refine any_fork [4] (by kernel_rfl) (by simp) ?_
      refine fork_one ?_
      refine any_op rfl (fun K' hK => ?_)
      simp only [List.getElem_toArray, List.getElem_cons_zero, List.getElem_cons_succ]
      go_simp
      refine (LE _).out.mono ?_; rintro e u2 ⟨rfl, hb⟩; have HR2 := hide (HR1.out.below hb); clear ka1 kb1 kc1 kd1 ke1
      have H9 := cell_on hb H9.out
      clear hb
      obtain ⟨ka2, kb2, kc2, kd2, ke2⟩ := HR2.out.facts
      refine hK _ _ ⟨(And.intro ka2 (And.intro kb2 (And.intro kc2 (And.intro kd2 ke2)))), ?_⟩
      clear hK K'
      refine any_take 5 (v := ?_) (by kernel_rfl) (by kernel_rfl) (by kernel_rfl) rfl (fun _ _ _ h => h) (by rfl) (And.intro ka2 (And.intro kb2 (And.intro kc2 (And.intro kd2 ke2)))) ?_ ?_
      rotate_left
      · (intro y hy; simp only [List.getElem_toArray, List.getElem_cons_zero, List.getElem_cons_succ]; go_simp; rw [fl_two]; exact rfl)
      simp only [List.getElem_toArray, List.getElem_cons_zero, List.getElem_cons_succ, Act.put, List.setIfInBounds_toArray, List.set_cons_zero, List.set_cons_succ]
      refine any_fork [10] (by kernel_rfl) (by simp) ?_
      refine fork_one ?_
      refine any_op rfl (fun K' hK => ?_)
      simp only [List.getElem_toArray, List.getElem_cons_zero, List.getElem_cons_succ]
      go_simp
      refine (of_one H9.out HI.out).mono ?_; rintro e u3 ⟨rfl, hb⟩; have HR3 := hide (HR2.out.below hb); clear hb H9 ka2 kb2 kc2 kd2 ke2
      obtain ⟨ka3, kb3, kc3, kd3, ke3⟩ := HR3.out.facts
      refine hK _ _ ⟨(And.intro ka3 (And.intro kb3 (And.intro kc3 (And.intro kd3 ke3)))), ?_⟩
      clear hK K'
      refine any_take 11 (v := ?_) (by kernel_rfl) (by kernel_rfl) (by kernel_rfl) rfl (fun _ _ _ h => h) (by rfl) (And.intro ka3 (And.intro kb3 (And.intro kc3 (And.intro kd3 ke3)))) ?_ ?_
      rotate_left
      · (intro y hy; simp only [List.getElem_toArray, List.getElem_cons_zero, List.getElem_cons_succ]; go_simp; rw [fl_two]; exact rfl)
      simp only [List.getElem_toArray, List.getElem_cons_zero, List.getElem_cons_succ, Act.put, List.setIfInBounds_toArray, List.set_cons_zero, List.set_cons_succ]
      refine any_take 14 (v := ?_) (by kernel_rfl) (by kernel_rfl) (by kernel_rfl) rfl (fun _ _ _ h => h) (by rfl) (And.intro ka3 (And.intro kb3 (And.intro kc3 (And.intro kd3 ke3)))) ?_ ?_
      rotate_left
      · (intro y hy; simp only [List.getElem_toArray, List.getElem_cons_zero, List.getElem_cons_succ]; go_simp; try with_reducible rfl)
      simp only [List.getElem_toArray, List.getElem_cons_zero, List.getElem_cons_succ, Act.put, List.setIfInBounds_toArray, List.set_cons_zero, List.set_cons_succ]
      refine any_take 15 (v := ?_) (by kernel_rfl) (by kernel_rfl) (by kernel_rfl) rfl (fun _ _ _ h => h) (by rfl) (And.intro ka3 (And.intro kb3 (And.intro kc3 (And.intro kd3 ke3)))) ?_ ?_
      rotate_left
      · (intro y hy; simp only [List.getElem_toArray, List.getElem_cons_zero, List.getElem_cons_succ]; go_simp; try with_reducible rfl)
      simp only [List.getElem_toArray, List.getElem_cons_zero, List.getElem_cons_succ, Act.put, List.setIfInBounds_toArray, List.set_cons_zero, List.set_cons_succ]
      refine any_take 16 (v := ?_) (by kernel_rfl) (by kernel_rfl) (by kernel_rfl) rfl (fun _ _ _ h => h) (by rfl) (And.intro ka3 (And.intro kb3 (And.intro kc3 (And.intro kd3 ke3)))) ?_ ?_
      rotate_left
      · (intro y hy; simp only [List.getElem_toArray, List.getElem_cons_zero, List.getElem_cons_succ]; go_simp; try with_reducible rfl)
      simp only [List.getElem_toArray, List.getElem_cons_zero, List.getElem_cons_succ, Act.put, List.setIfInBounds_toArray, List.set_cons_zero, List.set_cons_succ]
      refine any_done (by kernel_rfl) ?_
      go_wp2_with fail
      go_returns
      exact ⟨E3.out, HR3.out.b⟩
    · have e1 : downR A = 0 := by unfold downR; rw [if_neg (fun e => hl e.2)]
      have e2 : upR A = 0 := by unfold upR; rw [if_neg (fun e => hl e.2)]
      rw [e1, e2]
      have hc2 : (A.lk.c == 0) = false := by simpa using hl
      clear e1 e2 hr hw h
      go_enter Try.func14, Try.ntmps14
      go_wp2_with fail
      obtain ⟨w1, ew, hb1, ha1⟩ := one_new w A a n c
      rw [← ew]
      have HB1 := hide hb1
      have HA1 := hide ha1
      clear hb1 ha1 ew
      obtain ⟨z0, z1, z2, z3, z4, z5, z6, z7, z8, z9⟩ := HA1.out.at_
      have hs1 : w.heap.size < w1.heap.size := HA1.out.lt
      refine ((RR _).out HB1.out).mono ?_
      rintro e w2 ⟨rfl, hb⟩
      have HB2 : Hid (Below w.heap.size w w2) := HB1.out.trans (hb.mono HB1.out.size)
      have HA2 := hide (HA1.out.below hb)
      clear hb z0 z1 z2 z3 z4 z5 z6 z7 z8 z9
      obtain ⟨z0, z1, z2, z3, z4, z5, z6, z7, z8, z9⟩ := HA2.out.at_
      have hs2 : w.heap.size < w2.heap.size := HA2.out.lt
      go_wp2_with fail
      go_returns
      exact ⟨rfl, HB2.out⟩
  · have e1 : downR A = 0 := by unfold downR; rw [if_neg (fun e => hr e.1)]
    have e2 : upR A = 0 := by unfold upR; rw [if_neg (fun e => hr e.1)]
    have hr2 : rightB A = false := by simpa using hr
    rw [hr2] at RR
    rw [e1, e2]
    clear e1 e2 hr hr2 hw h
    go_enter Try.func14, Try.ntmps14
    go_wp2_with fail
    obtain ⟨w1, ew, hb1, ha1⟩ := one_new w A a n c
    rw [← ew]
    have HB1 := hide hb1
    have HA1 := hide ha1
    clear hb1 ha1 ew
    obtain ⟨z0, z1, z2, z3, z4, z5, z6, z7, z8, z9⟩ := HA1.out.at_
    have hs1 : w.heap.size < w1.heap.size := HA1.out.lt
    refine ((RR _).out HB1.out).mono ?_
    rintro e w2 ⟨rfl, hb⟩
    have HB2 : Hid (Below w.heap.size w w2) := HB1.out.trans (hb.mono HB1.out.size)
    have HA2 := hide (HA1.out.below hb)
    clear hb z0 z1 z2 z3 z4 z5 z6 z7 z8 z9
    obtain ⟨z0, z1, z2, z3, z4, z5, z6, z7, z8, z9⟩ := HA2.out.at_
    have hs2 : w.heap.size < w2.heap.size := HA2.out.lt
    go_wp2_with fail
    go_returns
    exact ⟨rfl, HB2.out⟩
end Go.Proofs.Ytfolpnjndlklkaa
