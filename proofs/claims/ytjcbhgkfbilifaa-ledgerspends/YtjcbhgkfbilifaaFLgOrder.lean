/- How two rights stand to one another: the landed order. No condition. -/
import Derived.Test.YtjcbhgkfbilifaaFLgSmall
import Derived.Test.YtjcbhgkfbilifaaJV
import Derived.Deep.Cut
namespace Go.Proofs.Ytjcbhgkfbilifaa
open Go.ChangeShapes Go.WideShapes Go.ChangeAt Go.RowKit Ao Lg
set_option linter.unusedVariables false

theorem below_alloc1 (u : World) (o : Obj) : Below u.heap.size u (u.alloc o) := Below.alloc (Below.refl _ _) (Nat.le_refl _) _
theorem below_drew1' (w : World) : Below w.heap.size w w.drew := ⟨rfl, rfl, rfl, Nat.le_refl _, fun _ _ => rfl⟩
theorem two_rights (w : World) (a b : Rt) : ∃ w1, w1 = (w.alloc (.cells #[.int .i64 a.g, .string a.k, .int .i64 a.ls, .int .i64 a.nt] 43)).alloc (.cells #[.int .i64 b.g, .string b.k, .int .i64 b.ls, .int .i64 b.nt] 43) ∧ Below w.heap.size w w1 ∧ Rb w1 w.heap.size a ∧ Rb w1 (w.heap.size + 1) b := by
  refine ⟨_, rfl, (Below.alloc (Below.refl _ _) (Nat.le_refl _) _).alloc (by simp) _, (rb_new w a).below (Below.alloc (Below.refl _ _) (Nat.le_refl _) _), ?_⟩
  have := rb_new (w.alloc (.cells #[.int .i64 a.g, .string a.k, .int .i64 a.ls, .int .i64 a.nt] 43)) b
  simpa using this
/-- two rights in their blocks -/
structure Tr (w W : World) (p q : Nat) (a b : Rt) : Prop where
  bl : Below w.heap.size w W
  fp : Rb W p a
  fq : Rb W q b
theorem Tr.below {w W W' : World} {p q : Nat} {a b : Rt} (h : Tr w W p q a b) (hb : Below W.heap.size W W') : Tr w W' p q a b := ⟨h.bl.trans (hb.mono h.bl.size), h.fp.below hb, h.fq.below hb⟩
theorem Tr.facts {w W : World} {p q : Nat} {a b : Rt} (h : Tr w W p q a b) : W.cell? ⟨p, 0, none⟩ = some (.int .i64 a.g) ∧ W.cell? ⟨p, 1, none⟩ = some (.string a.k) ∧ W.cell? ⟨q, 0, none⟩ = some (.int .i64 b.g) ∧ W.cell? ⟨q, 1, none⟩ = some (.string b.k) := by
  have h1 := h.fp.at_
  have h2 := h.fq.at_
  exact ⟨h1.c0, h1.c1, h2.c0, h2.c1⟩
theorem tr_arr {w u : World} {p q : Nat} {a b : Rt} (x y : Int) (h : Tr w u p q a b) : ∃ (v : World) (g : Nat), v = u.alloc (.cells #[.int .i64 x, .int .i64 y] 3) ∧ g = u.heap.size ∧ Hid (Tr w v p q a b) ∧ Hid (v.cell? ⟨g, 0, none⟩ = some (.int .i64 x)) ∧ Hid (v.cell? ⟨g, 1, none⟩ = some (.int .i64 y)) := by
  have hb := below_alloc1 u (.cells #[.int .i64 x, .int .i64 y] 3)
  refine ⟨_, _, rfl, rfl, h.below hb, ?_, ?_⟩ <;> (show _ = _; rw [cell_of_row _ _ _ _ _ _ (heap_alloc_new u _)]; rfl)
set_option maxRecDepth 100000 in
set_option maxHeartbeats 2000000 in
theorem order_any (a b : Rt) (w : World) : Calls Try.prog 64 #[rval a, rval b] w fun e w' => e = .returned (.int .i64 (ordR a b)) ∧ Below w.heap.size w w' := by
  have C1 := fun W => hide (compare_any a.g b.g W)
  have C2 := fun W => hide (scmp_any a.k b.k W)
  have E1 : Hid ((if cmpI a.g b.g = 0 then cmpB a.k.data.toList b.k.data.toList else cmpI a.g b.g) = ordR a b) := rfl
  generalize ordR a b = z at E1 ⊢
  generalize cmpI a.g b.g = x at C1 E1
  generalize cmpB a.k.data.toList b.k.data.toList = y at C2 E1
  obtain ⟨w1, ew, hb, hp, hq⟩ := two_rights w a b
  have HR : Hid (Tr w w1 w.heap.size (w.heap.size + 1) a b) := ⟨hb, hp, hq⟩
  clear hb hp hq
  unfold rval
  go_enter Try.func64, Try.ntmps64
  go_upto_region 1 with fail
  rw [← ew]
  clear ew
  generalize w.heap.size + 1 = q at HR ⊢
  obtain ⟨p, ep⟩ : ∃ p, p = w.heap.size := ⟨_, rfl⟩
  rw [← ep] at HR ⊢
  clear ep
  refine region_tree (n := 13) (fun v => v.cell? ⟨p, 0, none⟩ = some (.int .i64 a.g) ∧ v.cell? ⟨p, 1, none⟩ = some (.string a.k) ∧ v.cell? ⟨q, 0, none⟩ = some (.int .i64 b.g) ∧ v.cell? ⟨q, 1, none⟩ = some (.string b.k)) (by kernel_rfl) (by kernel_rfl) ?_
  have HR0 : Hid (Tr w w1.drew p q a b) := HR.out.below (below_drew1' _)
  generalize w1.drew = u0 at HR0 ⊢
  clear HR
  obtain ⟨ka0, kb0, kc0, kd0⟩ := HR0.out.facts
  refine any_take 0 (v := ?_) (by kernel_rfl) (by kernel_rfl) (by kernel_rfl) rfl (fun _ _ _ h => h) (by rfl) (And.intro ka0 (And.intro kb0 (And.intro kc0 kd0))) ?_ ?_
  rotate_left
  · (intro y hy; simp only [List.getElem_toArray, List.getElem_cons_zero]; go_simp; try with_reducible rfl)
  simp only [List.getElem_toArray, List.getElem_cons_zero, Act.put, List.setIfInBounds_toArray, List.set_cons_zero, List.set_cons_succ]
  refine any_take 1 (v := ?_) (by kernel_rfl) (by kernel_rfl) (by kernel_rfl) rfl (fun _ _ _ h => h) (by rfl) (And.intro ka0 (And.intro kb0 (And.intro kc0 kd0))) ?_ ?_
  rotate_left
  · (intro y hy; obtain ⟨q0, q1, q2, q3⟩ := hy; simp only [List.getElem_toArray, List.getElem_cons_zero, List.getElem_cons_succ]; go_simp; try with_reducible rfl)
  simp only [List.getElem_toArray, List.getElem_cons_zero, List.getElem_cons_succ, Act.put, List.setIfInBounds_toArray, List.set_cons_zero, List.set_cons_succ]
  refine any_take 2 (v := ?_) (by kernel_rfl) (by kernel_rfl) (by kernel_rfl) rfl (fun _ _ _ h => h) (by rfl) (And.intro ka0 (And.intro kb0 (And.intro kc0 kd0))) ?_ ?_
  rotate_left
  · (intro y hy; simp only [List.getElem_toArray, List.getElem_cons_zero, List.getElem_cons_succ]; go_simp; try with_reducible rfl)
  simp only [List.getElem_toArray, List.getElem_cons_zero, List.getElem_cons_succ, Act.put, List.setIfInBounds_toArray, List.set_cons_zero, List.set_cons_succ]
  refine any_take 3 (v := ?_) (by kernel_rfl) (by kernel_rfl) (by kernel_rfl) rfl (fun _ _ _ h => h) (by rfl) (And.intro ka0 (And.intro kb0 (And.intro kc0 kd0))) ?_ ?_
  rotate_left
  · (intro y hy; obtain ⟨q0, q1, q2, q3⟩ := hy; simp only [List.getElem_toArray, List.getElem_cons_zero, List.getElem_cons_succ]; go_simp; try with_reducible rfl)
  simp only [List.getElem_toArray, List.getElem_cons_zero, List.getElem_cons_succ, Act.put, List.setIfInBounds_toArray, List.set_cons_zero, List.set_cons_succ]
  refine any_take 5 (v := ?_) (by kernel_rfl) (by kernel_rfl) (by kernel_rfl) rfl (fun _ _ _ h => h) (by rfl) (And.intro ka0 (And.intro kb0 (And.intro kc0 kd0))) ?_ ?_
  rotate_left
  · (intro y hy; simp only [List.getElem_toArray, List.getElem_cons_zero, List.getElem_cons_succ]; go_simp; try with_reducible rfl)
  simp only [List.getElem_toArray, List.getElem_cons_zero, List.getElem_cons_succ, Act.put, List.setIfInBounds_toArray, List.set_cons_zero, List.set_cons_succ]
  refine any_take 6 (v := ?_) (by kernel_rfl) (by kernel_rfl) (by kernel_rfl) rfl (fun _ _ _ h => h) (by rfl) (And.intro ka0 (And.intro kb0 (And.intro kc0 kd0))) ?_ ?_
  rotate_left
  · (intro y hy; obtain ⟨q0, q1, q2, q3⟩ := hy; simp only [List.getElem_toArray, List.getElem_cons_zero, List.getElem_cons_succ]; go_simp; try with_reducible rfl)
  simp only [List.getElem_toArray, List.getElem_cons_zero, List.getElem_cons_succ, Act.put, List.setIfInBounds_toArray, List.set_cons_zero, List.set_cons_succ]
  refine any_take 7 (v := ?_) (by kernel_rfl) (by kernel_rfl) (by kernel_rfl) rfl (fun _ _ _ h => h) (by rfl) (And.intro ka0 (And.intro kb0 (And.intro kc0 kd0))) ?_ ?_
  rotate_left
  · (intro y hy; simp only [List.getElem_toArray, List.getElem_cons_zero, List.getElem_cons_succ]; go_simp; try with_reducible rfl)
  simp only [List.getElem_toArray, List.getElem_cons_zero, List.getElem_cons_succ, Act.put, List.setIfInBounds_toArray, List.set_cons_zero, List.set_cons_succ]
  refine any_take 8 (v := ?_) (by kernel_rfl) (by kernel_rfl) (by kernel_rfl) rfl (fun _ _ _ h => h) (by rfl) (And.intro ka0 (And.intro kb0 (And.intro kc0 kd0))) ?_ ?_
  rotate_left
  · (intro y hy; obtain ⟨q0, q1, q2, q3⟩ := hy; simp only [List.getElem_toArray, List.getElem_cons_zero, List.getElem_cons_succ]; go_simp; try with_reducible rfl)
  simp only [List.getElem_toArray, List.getElem_cons_zero, List.getElem_cons_succ, Act.put, List.setIfInBounds_toArray, List.set_cons_zero, List.set_cons_succ]
  refine any_fork [4] (by kernel_rfl) (by simp) ?_
  refine fork_one ?_
  refine any_op rfl (fun K' hK => ?_)
  simp only [List.getElem_toArray, List.getElem_cons_zero, List.getElem_cons_succ]
  go_simp
  refine (C1 _).out.mono ?_; rintro e v ⟨rfl, rfl⟩
  refine hK _ _ ⟨(And.intro ka0 (And.intro kb0 (And.intro kc0 kd0))), ?_⟩
  clear hK K'
  refine any_fork [9] (by kernel_rfl) (by simp) ?_
  refine fork_one ?_
  refine any_op rfl (fun K' hK => ?_)
  simp only [List.getElem_toArray, List.getElem_cons_zero, List.getElem_cons_succ]
  go_simp
  refine (C2 _).out.mono ?_; rintro e v ⟨rfl, rfl⟩
  refine hK _ _ ⟨(And.intro ka0 (And.intro kb0 (And.intro kc0 kd0))), ?_⟩
  clear hK K'
  refine any_fork [10] (by kernel_rfl) (by simp) ?_
  refine fork_one ?_
  refine any_op rfl (fun K' hK => ?_)
  simp only [List.getElem_toArray, List.getElem_cons_zero, List.getElem_cons_succ]
  go_simp
  obtain ⟨u1, g, ev, el, HR1, H9, H10⟩ := tr_arr _ _ HR0.out
  rw [← ev, ← el]; clear ev el
  clear ka0 kb0 kc0 kd0
  obtain ⟨ka1, kb1, kc1, kd1⟩ := HR1.out.facts
  refine hK _ _ ⟨(And.intro ka1 (And.intro kb1 (And.intro kc1 kd1))), ?_⟩
  clear hK K'
  refine any_fork [11] (by kernel_rfl) (by simp) ?_
  refine fork_one ?_
  refine any_op rfl (fun K' hK => ?_)
  simp only [List.getElem_toArray, List.getElem_cons_zero, List.getElem_cons_succ]
  go_simp
  refine (or_any E1.out H9.out H10.out).mono ?_; rintro e u2 ⟨rfl, hb⟩; have HR2 := hide (HR1.out.below hb); clear hb H9 H10 ka1 kb1 kc1 kd1
  obtain ⟨ka2, kb2, kc2, kd2⟩ := HR2.out.facts
  refine hK _ _ ⟨(And.intro ka2 (And.intro kb2 (And.intro kc2 kd2))), ?_⟩
  clear hK K'
  refine any_take 12 (v := ?_) (by kernel_rfl) (by kernel_rfl) (by kernel_rfl) rfl (fun _ _ _ h => h) (by rfl) (And.intro ka2 (And.intro kb2 (And.intro kc2 kd2))) ?_ ?_
  rotate_left
  · (intro y hy; simp only [List.getElem_toArray, List.getElem_cons_zero, List.getElem_cons_succ]; go_simp; try with_reducible rfl)
  simp only [List.getElem_toArray, List.getElem_cons_zero, List.getElem_cons_succ, Act.put, List.setIfInBounds_toArray, List.set_cons_zero, List.set_cons_succ]
  refine any_done (by kernel_rfl) ?_
  go_wp2_with fail
  go_returns
  exact ⟨rfl, HR2.out.bl⟩
end Go.Proofs.Ytjcbhgkfbilifaa
