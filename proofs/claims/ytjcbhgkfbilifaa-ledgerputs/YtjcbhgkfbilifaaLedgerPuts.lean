/- LedgerPuts: what is put in is there, in the place of what was there; all else stays; put in twice it is there once; no condition. -/
import Derived.Test.YtjcbhgkfbilifaaLgHelp
import Derived.Deep.Cut
namespace Go.Proofs.Ytjcbhgkfbilifaa
namespace LedgerPuts
open Go.ChangeShapes Go.WideShapes Go.ChangeAt Go.RowKit Ao Lg
set_option linter.unusedVariables false

theorem ins_twice {r : Rt} : ∀ l : List Rt, insR (insR l r) r = insR l r
  | [] => by
    show insR [r] r = [r]
    rw [ins_cons, if_neg (by rw [ord_zero.2 ⟨rfl, rfl⟩]; omega), if_pos (ord_zero.2 ⟨rfl, rfl⟩)]
  | x :: t => by
    have e0 : ordR r r = 0 := ord_zero.2 ⟨rfl, rfl⟩
    rw [ins_cons]
    by_cases a : ordR x r < 0
    · rw [if_pos a, ins_cons, if_pos a, ins_twice t]
    · rw [if_neg a]
      by_cases b : ordR x r = 0
      · rw [if_pos b, ins_cons, if_neg (by omega), if_pos e0]
      · rw [if_neg b, ins_cons, if_neg (by omega), if_pos e0]
theorem ins_len {r : Rt} : ∀ l : List Rt, (insR l r).length ≤ l.length + 1
  | [] => by show 1 ≤ 1; omega
  | x :: t => by
    rw [ins_cons]
    have := ins_len (r := r) t
    by_cases a : ordR x r < 0
    · rw [if_pos a]; simp; omega
    · rw [if_neg a]
      by_cases b : ordR x r = 0
      · rw [if_pos b]; simp
      · rw [if_neg b]; simp
theorem key_eq (a b : ByteArray) : (a.toList == b.toList) = decide (a = b) := by
  by_cases h : a = b
  · subst h; simp
  · rw [decide_eq_false h, beq_eq_false_iff_ne]
    exact fun e => h ((FnR.tl_inj a b).1 e)
set_option maxRecDepth 100000 in
set_option maxHeartbeats 40000000 in
theorem walk_arg {w : World} {a : Option Addr} {n c : Nat} {l : List Rt} {r : Rt} {g ls : Int} {k : ByteArray} (h : Rs w a n l) (hc : Cp a n c) (hq : n * 40 ≤ 140737488351232) (hl : ledB l = true) (hm : mayB r = false) :
    Calls Try.prog 7 #[.slice a n c, rval r, .int .i64 g, .string k, .int .i64 ls] w fun e w' => e = .returned (.bool true) ∧ Below w.heap.size w w' := by
      have AW := fun W => hide (lawake_any W)
      have H := hide h
      have HC := hide hc
      have HLn := hide h.len
      have hrm := h.room
      clear h hc
      have eE : putE l r = 1 := by unfold putE; rw [if_pos hl, hm]; rfl
      have eL : putL l r = [] := by unfold putL; rw [eE]; rfl
      have HE := hide eE
      have HEL := hide eL
      clear eE eL
      obtain ⟨w1, ew⟩ : ∃ w1, w1 = w.alloc (.cells #[.int .i64 r.g, .string r.k, .int .i64 r.ls, .int .i64 r.nt] 43) := ⟨_, rfl⟩
      have HB1 : Hid (Below w.heap.size w w1) := by rw [ew]; exact Below.alloc (Below.refl _ _) (Nat.le_refl _) _
      have HR1 : Hid (Rb w1 w.heap.size r) := by rw [ew]; exact rb_new w r
      unfold rval
      go_enter Try.func7, Try.ntmps7
      go_wp2_with fail
      rw [← ew]
      clear ew
      refine (AW _).out.mono ?_
      rintro e w2 ⟨rfl, hb⟩
      have HB2 : Hid (Below w.heap.size w w2) := HB1.out.trans (hb.mono HB1.out.size)
      have HR2 := hide (HR1.out.below hb)
      clear hb HR1 HB1
      obtain ⟨q, eq⟩ : ∃ q, q = w.heap.size := ⟨_, rfl⟩
      rw [← eq] at HR2 ⊢
      have HQ := hide eq
      clear eq
      go_upto_region 3 with fail
      refine region_tree (n := 9) (fun v => v.cell? ⟨q, 0, none⟩ = some (.int .i64 r.g) ∧ v.cell? ⟨q, 1, none⟩ = some (.string r.k) ∧ v.cell? ⟨q, 2, none⟩ = some (.int .i64 r.ls) ∧ v.cell? ⟨q, 3, none⟩ = some (.int .i64 r.nt)) (by kernel_rfl) (by kernel_rfl) ?_
      have HR0 := hide (HR2.out.below (below_drew1' _))
      have HU0 : Hid (Below w.heap.size w w2.drew) := HB2.out.trans ((below_drew1' _).mono HB2.out.size)
      generalize w2.drew = u0 at HR0 HU0 ⊢
      obtain ⟨ka0, kb0, kc0, kd0⟩ := HR0.out.at_
      refine any_take 0 (v := ?_) (by kernel_rfl) (by kernel_rfl) (by kernel_rfl) rfl (fun _ _ _ h => h) (by rfl) (And.intro ka0 (And.intro kb0 (And.intro kc0 kd0))) ?_ ?_
      rotate_left
      · (intro y hy; simp only [List.getElem_toArray, List.getElem_cons_zero]; go_simp; try with_reducible rfl)
      simp only [List.getElem_toArray, List.getElem_cons_zero, Act.put, List.setIfInBounds_toArray, List.set_cons_zero, List.set_cons_succ]
      refine any_take 2 (v := ?_) (by kernel_rfl) (by kernel_rfl) (by kernel_rfl) rfl (fun _ _ _ h => h) (by rfl) (And.intro ka0 (And.intro kb0 (And.intro kc0 kd0))) ?_ ?_
      rotate_left
      · (intro y hy; obtain ⟨q0, q1, q2, q3⟩ := hy; simp only [List.getElem_toArray, List.getElem_cons_zero, List.getElem_cons_succ]; go_simp; try with_reducible rfl)
      simp only [List.getElem_toArray, List.getElem_cons_zero, List.getElem_cons_succ, Act.put, List.setIfInBounds_toArray, List.set_cons_zero, List.set_cons_succ]
      refine any_fork [1] (by kernel_rfl) (by simp) ?_
      refine fork_one ?_
      refine any_op rfl (fun K' hK => ?_)
      simp only [List.getElem_toArray, List.getElem_cons_zero, List.getElem_cons_succ]
      go_simp
      refine (lown_any (H.out.below HU0.out) HC.out).mono ?_; rintro e u1 ⟨gO, rfl, hb, ho⟩; have HR1 := hide (HR0.out.below hb); have HU1 : Hid (Below w.heap.size w u1) := HU0.out.trans (hb.mono HU0.out.size); have HO := hide ho.rs; clear hb ho ka0 kb0 kc0 kd0
      obtain ⟨ka1, kb1, kc1, kd1⟩ := HR1.out.at_
      refine hK _ _ ⟨(And.intro ka1 (And.intro kb1 (And.intro kc1 kd1))), ?_⟩
      clear hK K'
      refine any_fork [3] (by kernel_rfl) (by simp) ?_
      refine fork_one ?_
      refine any_op rfl (fun K' hK => ?_)
      simp only [List.getElem_toArray, List.getElem_cons_zero, List.getElem_cons_succ]
      go_simp
      refine (lput_x HO.out (by omega) HE.out HEL.out).mono ?_; rintro e u2 ⟨a2, n2, c2, rfl, hL, hb, hF, _⟩; have HR2b := hide (HR1.out.below hb); have HU2 : Hid (Below w.heap.size w u2) := HU1.out.trans (hb.mono HU1.out.size); have HL := hide hL; clear hb hL hF ka1 kb1 kc1 kd1
      obtain ⟨ka2, kb2, kc2, kd2⟩ := HR2b.out.at_
      refine hK _ _ ⟨(And.intro ka2 (And.intro kb2 (And.intro kc2 kd2))), ?_⟩
      clear hK K'
      refine any_take 4 (v := ?_) (by kernel_rfl) (by kernel_rfl) (by kernel_rfl) rfl (fun _ _ _ h => h) (by rfl) (And.intro ka2 (And.intro kb2 (And.intro kc2 kd2))) ?_ ?_
      rotate_left
      · (intro y hy; simp only [List.getElem_toArray, List.getElem_cons_zero, List.getElem_cons_succ]; go_simp; try with_reducible rfl)
      simp only [List.getElem_toArray, List.getElem_cons_zero, List.getElem_cons_succ, Act.put, List.setIfInBounds_toArray, List.set_cons_zero, List.set_cons_succ]
      refine any_take 5 (v := ?_) (by kernel_rfl) (by kernel_rfl) (by kernel_rfl) rfl (fun _ _ _ h => h) (by rfl) (And.intro ka2 (And.intro kb2 (And.intro kc2 kd2))) ?_ ?_
      rotate_left
      · (intro y hy; simp only [List.getElem_toArray, List.getElem_cons_zero, List.getElem_cons_succ]; go_simp; try with_reducible rfl)
      simp only [List.getElem_toArray, List.getElem_cons_zero, List.getElem_cons_succ, Act.put, List.setIfInBounds_toArray, List.set_cons_zero, List.set_cons_succ]
      refine any_take 6 (v := ?_) (by kernel_rfl) (by kernel_rfl) (by kernel_rfl) rfl (fun _ _ _ h => h) (by rfl) (And.intro ka2 (And.intro kb2 (And.intro kc2 kd2))) ?_ ?_
      rotate_left
      · (intro y hy; simp only [List.getElem_toArray, List.getElem_cons_zero, List.getElem_cons_succ]; go_simp; try with_reducible rfl)
      simp only [List.getElem_toArray, List.getElem_cons_zero, List.getElem_cons_succ, Act.put, List.setIfInBounds_toArray, List.set_cons_zero, List.set_cons_succ]
      refine any_take 7 (v := ?_) (by kernel_rfl) (by kernel_rfl) (by kernel_rfl) rfl (fun _ _ _ h => h) (by rfl) (And.intro ka2 (And.intro kb2 (And.intro kc2 kd2))) ?_ ?_
      rotate_left
      · (intro y hy; simp only [List.getElem_toArray, List.getElem_cons_zero, List.getElem_cons_succ]; go_simp; try with_reducible rfl)
      simp only [List.getElem_toArray, List.getElem_cons_zero, List.getElem_cons_succ, Act.put, List.setIfInBounds_toArray, List.set_cons_zero, List.set_cons_succ]
      refine any_take 8 (v := ?_) (by kernel_rfl) (by kernel_rfl) (by kernel_rfl) rfl (fun _ _ _ h => h) (by rfl) (And.intro ka2 (And.intro kb2 (And.intro kc2 kd2))) ?_ ?_
      rotate_left
      · (intro y hy; simp only [List.getElem_toArray, List.getElem_cons_zero, List.getElem_cons_succ]; go_simp; try with_reducible rfl)
      simp only [List.getElem_toArray, List.getElem_cons_zero, List.getElem_cons_succ, Act.put, List.setIfInBounds_toArray, List.set_cons_zero, List.set_cons_succ]
      refine any_done (by kernel_rfl) ?_
      obtain rfl : n2 = 0 := HL.out.len.symm
      go_wp2_with fail
      go_returns
      exact ⟨rfl, HU2.out⟩
set_option maxRecDepth 100000 in
set_option maxHeartbeats 40000000 in
theorem walk_ok {w : World} {a : Option Addr} {n c : Nat} {l : List Rt} {r : Rt} {g ls : Int} {k : ByteArray} (h : Rs w a n l) (hc : Cp a n c) (hq : n * 40 ≤ 140737488351232) (hl : ledB l = true) (hm : mayB r = true) :
    Calls Try.prog 7 #[.slice a n c, rval r, .int .i64 g, .string k, .int .i64 ls] w fun e w' => e = .returned (.bool true) ∧ Below w.heap.size w w' := by
      have AW := fun W => hide (lawake_any W)
      have H := hide h
      have HC := hide hc
      have HLn := hide h.len
      have hrm := h.room
      clear h hc
      have hled := led_iff.1 hl
      have hX := led_ins hm hled
      have eE : putE l r = 0 := by unfold putE; rw [if_pos hl, hm]; rfl
      have eL : putL l r = insR l r := by unfold putL; rw [if_pos eE]
      have eE2 : putE (insR l r) r = 0 := by unfold putE; rw [if_pos (led_iff.2 hX), hm]; rfl
      have eL2 : putL (insR l r) r = insR l r := by unfold putL; rw [if_pos eE2, ins_twice]
      have eC : lcheckE (insR l r) = 0 := by unfold lcheckE; rw [if_pos (led_iff.2 hX)]
      have eN : ∀ g k ls, netV (insR l r) g k ls = if r.g = g ∧ r.k = k then (if r.ls = ls then r.nt else 0) else netV l g k ls := fun g k ls => by
        unfold netV
        rw [if_pos (led_iff.2 hX), if_pos hl, net_ins hled]
      have eN0 : netV (insR l r) r.g r.k r.ls = r.nt := by rw [eN, if_pos ⟨rfl, rfl⟩, if_pos rfl]
      have hlen : (insR l r).length ≤ n + 1 := by rw [← HLn.out]; exact ins_len l
      generalize insR l r = X at *
      have HE := hide eE
      have HEL := hide eL
      have HE2 := hide eE2
      have HEL2 := hide eL2
      have HEC := hide eC
      have HEN := hide eN
      have HEN0 := hide eN0
      have HXL := hide hlen
      clear eE eL eE2 eL2 eC eN eN0 hX hled hlen
      obtain ⟨w1, ew⟩ : ∃ w1, w1 = w.alloc (.cells #[.int .i64 r.g, .string r.k, .int .i64 r.ls, .int .i64 r.nt] 43) := ⟨_, rfl⟩
      have HB1 : Hid (Below w.heap.size w w1) := by rw [ew]; exact Below.alloc (Below.refl _ _) (Nat.le_refl _) _
      have HR1 : Hid (Rb w1 w.heap.size r) := by rw [ew]; exact rb_new w r
      unfold rval
      go_enter Try.func7, Try.ntmps7
      go_wp2_with fail
      rw [← ew]
      clear ew
      refine (AW _).out.mono ?_
      rintro e w2 ⟨rfl, hb⟩
      have HB2 : Hid (Below w.heap.size w w2) := HB1.out.trans (hb.mono HB1.out.size)
      have HR2 := hide (HR1.out.below hb)
      clear hb HR1 HB1
      obtain ⟨q, eq⟩ : ∃ q, q = w.heap.size := ⟨_, rfl⟩
      rw [← eq] at HR2 ⊢
      have HQ := hide eq
      clear eq
      go_upto_region 3 with fail
      refine region_tree (n := 9) (fun v => v.cell? ⟨q, 0, none⟩ = some (.int .i64 r.g) ∧ v.cell? ⟨q, 1, none⟩ = some (.string r.k) ∧ v.cell? ⟨q, 2, none⟩ = some (.int .i64 r.ls) ∧ v.cell? ⟨q, 3, none⟩ = some (.int .i64 r.nt)) (by kernel_rfl) (by kernel_rfl) ?_
      have HR0 := hide (HR2.out.below (below_drew1' _))
      have HU0 : Hid (Below w.heap.size w w2.drew) := HB2.out.trans ((below_drew1' _).mono HB2.out.size)
      generalize w2.drew = u0 at HR0 HU0 ⊢
      obtain ⟨ka0, kb0, kc0, kd0⟩ := HR0.out.at_
      refine any_take 0 (v := ?_) (by kernel_rfl) (by kernel_rfl) (by kernel_rfl) rfl (fun _ _ _ h => h) (by rfl) (And.intro ka0 (And.intro kb0 (And.intro kc0 kd0))) ?_ ?_
      rotate_left
      · (intro y hy; simp only [List.getElem_toArray, List.getElem_cons_zero]; go_simp; try with_reducible rfl)
      simp only [List.getElem_toArray, List.getElem_cons_zero, Act.put, List.setIfInBounds_toArray, List.set_cons_zero, List.set_cons_succ]
      refine any_take 2 (v := ?_) (by kernel_rfl) (by kernel_rfl) (by kernel_rfl) rfl (fun _ _ _ h => h) (by rfl) (And.intro ka0 (And.intro kb0 (And.intro kc0 kd0))) ?_ ?_
      rotate_left
      · (intro y hy; obtain ⟨q0, q1, q2, q3⟩ := hy; simp only [List.getElem_toArray, List.getElem_cons_zero, List.getElem_cons_succ]; go_simp; try with_reducible rfl)
      simp only [List.getElem_toArray, List.getElem_cons_zero, List.getElem_cons_succ, Act.put, List.setIfInBounds_toArray, List.set_cons_zero, List.set_cons_succ]
      refine any_fork [1] (by kernel_rfl) (by simp) ?_
      refine fork_one ?_
      refine any_op rfl (fun K' hK => ?_)
      simp only [List.getElem_toArray, List.getElem_cons_zero, List.getElem_cons_succ]
      go_simp
      refine (lown_any (H.out.below HU0.out) HC.out).mono ?_; rintro e u1 ⟨gO, rfl, hb, ho⟩; have HR1 := hide (HR0.out.below hb); have HU1 : Hid (Below w.heap.size w u1) := HU0.out.trans (hb.mono HU0.out.size); have HO := hide ho.rs; clear hb ho ka0 kb0 kc0 kd0
      obtain ⟨ka1, kb1, kc1, kd1⟩ := HR1.out.at_
      refine hK _ _ ⟨(And.intro ka1 (And.intro kb1 (And.intro kc1 kd1))), ?_⟩
      clear hK K'
      refine any_fork [3] (by kernel_rfl) (by simp) ?_
      refine fork_one ?_
      refine any_op rfl (fun K' hK => ?_)
      simp only [List.getElem_toArray, List.getElem_cons_zero, List.getElem_cons_succ]
      go_simp
      refine (lput_x HO.out (by omega) HE.out HEL.out).mono ?_; rintro e u2 ⟨a2, n2, c2, rfl, hL, hb, hF, _⟩; have HR2b := hide (HR1.out.below hb); have HU2 : Hid (Below w.heap.size w u2) := HU1.out.trans (hb.mono HU1.out.size); have HL := hide hL; clear hb hL hF ka1 kb1 kc1 kd1
      obtain ⟨ka2, kb2, kc2, kd2⟩ := HR2b.out.at_
      refine hK _ _ ⟨(And.intro ka2 (And.intro kb2 (And.intro kc2 kd2))), ?_⟩
      clear hK K'
      refine any_take 4 (v := ?_) (by kernel_rfl) (by kernel_rfl) (by kernel_rfl) rfl (fun _ _ _ h => h) (by rfl) (And.intro ka2 (And.intro kb2 (And.intro kc2 kd2))) ?_ ?_
      rotate_left
      · (intro y hy; simp only [List.getElem_toArray, List.getElem_cons_zero, List.getElem_cons_succ]; go_simp; try with_reducible rfl)
      simp only [List.getElem_toArray, List.getElem_cons_zero, List.getElem_cons_succ, Act.put, List.setIfInBounds_toArray, List.set_cons_zero, List.set_cons_succ]
      refine any_take 5 (v := ?_) (by kernel_rfl) (by kernel_rfl) (by kernel_rfl) rfl (fun _ _ _ h => h) (by rfl) (And.intro ka2 (And.intro kb2 (And.intro kc2 kd2))) ?_ ?_
      rotate_left
      · (intro y hy; simp only [List.getElem_toArray, List.getElem_cons_zero, List.getElem_cons_succ]; go_simp; try with_reducible rfl)
      simp only [List.getElem_toArray, List.getElem_cons_zero, List.getElem_cons_succ, Act.put, List.setIfInBounds_toArray, List.set_cons_zero, List.set_cons_succ]
      refine any_take 6 (v := ?_) (by kernel_rfl) (by kernel_rfl) (by kernel_rfl) rfl (fun _ _ _ h => h) (by rfl) (And.intro ka2 (And.intro kb2 (And.intro kc2 kd2))) ?_ ?_
      rotate_left
      · (intro y hy; simp only [List.getElem_toArray, List.getElem_cons_zero, List.getElem_cons_succ]; go_simp; try with_reducible rfl)
      simp only [List.getElem_toArray, List.getElem_cons_zero, List.getElem_cons_succ, Act.put, List.setIfInBounds_toArray, List.set_cons_zero, List.set_cons_succ]
      refine any_take 7 (v := ?_) (by kernel_rfl) (by kernel_rfl) (by kernel_rfl) rfl (fun _ _ _ h => h) (by rfl) (And.intro ka2 (And.intro kb2 (And.intro kc2 kd2))) ?_ ?_
      rotate_left
      · (intro y hy; simp only [List.getElem_toArray, List.getElem_cons_zero, List.getElem_cons_succ]; go_simp; try with_reducible rfl)
      simp only [List.getElem_toArray, List.getElem_cons_zero, List.getElem_cons_succ, Act.put, List.setIfInBounds_toArray, List.set_cons_zero, List.set_cons_succ]
      refine any_take 8 (v := ?_) (by kernel_rfl) (by kernel_rfl) (by kernel_rfl) rfl (fun _ _ _ h => h) (by rfl) (And.intro ka2 (And.intro kb2 (And.intro kc2 kd2))) ?_ ?_
      rotate_left
      · (intro y hy; simp only [List.getElem_toArray, List.getElem_cons_zero, List.getElem_cons_succ]; go_simp; try with_reducible rfl)
      simp only [List.getElem_toArray, List.getElem_cons_zero, List.getElem_cons_succ, Act.put, List.setIfInBounds_toArray, List.set_cons_zero, List.set_cons_succ]
      refine any_done (by kernel_rfl) ?_
      have hn2 : n2 ≤ n + 1 := by rw [← HL.out.len]; exact HXL.out
      go_wp2_with fail
      refine (lput_x HL.out (by omega) HE2.out HEL2.out).mono ?_
      rintro e w4 ⟨a4, n4, c4, rfl, hL, hb, hF, _⟩
      have HL4 := hide hL
      have HU4 : Hid (Below w.heap.size w w4) := HU2.out.trans (hb.mono HU2.out.size)
      have HL2 := hide (HL.out.below hb)
      have HR4 := hide (HR2b.out.below hb)
      obtain ⟨j0, j1, j2, j3⟩ := HR4.out.at_
      clear hL hb hF ka2 kb2 kc2 kd2
      have PL := fun W => hide (fun hW : Below w4.heap.size w4 W => rplain_yes (c := c2) (c' := c4) (HL2.out.below hW) (HL4.out.below hW) rfl)
      have CK := fun W => hide (fun hW : Below w4.heap.size w4 W => lcheck_x (c := c2) (HL2.out.below hW) HEC.out)
      have NT := fun W => hide (fun hW : Below w4.heap.size w4 W => lnet_x (c := c2) (HL2.out.below hW) HEN0.out)
      go_wp2_with fail
      refine wp_region_cells w4 [(⟨q, 0, none⟩, .int .i64 r.g), (⟨q, 1, none⟩, .string r.k), (⟨q, 2, none⟩, .int .i64 r.ls), (⟨q, 3, none⟩, .int .i64 r.nt)] (by kernel_rfl) (by kernel_rfl) (Below.refl _ _) (by simp [AllCells, j0, j1, j2, j3]) ?_
      intro hne qq
      simp only [AllCells, and_true] at qq
      clear j0 j1 j2 j3
      repeat (go_big_quiet_step (first | (go_at_call 21; exact Held.call _ ((PL _).out (Held.below _))) | (go_at_call 20; exact Held.call _ ((CK _).out (Held.below _))) | (go_at_call 22; exact Held.call _ ((NT _).out (Held.below _)))))
      refine wpQuiet_nil ?_
      rintro _ ⟨y9, rfl⟩
      have HB9 : Hid (Below w4.heap.size w4 y9.x) := y9.below
      have HU9 : Hid (Below w.heap.size w y9.x) := HU4.out.trans (y9.below.mono HU4.out.size)
      clear qq hne PL CK NT
      obtain ⟨j0, j1, j2, j3⟩ := (HR4.out.below HB9.out).at_
      have HL9 := hide (HL2.out.below HB9.out)
      have H9 := hide (H.out.below HU9.out)
      have q9 := key_eq k r.k
      by_cases ek : r.k = k
      · by_cases eg : r.g = g
        · rw [decide_eq_true ek.symm] at q9
          have HN := hide (HEN.out g k ls)
          simp only [if_pos (show r.g = g ∧ r.k = k from ⟨eg, ek⟩)] at HN
          subst eg
          clear ek HEN
          by_cases el : r.ls = ls
          · subst el
            clear HN
            go_wp2_with fail
            go_returns
            exact ⟨by simp, HU9.out⟩
          · simp only [if_neg el] at HN
            have el2 : ¬ ls = r.ls := fun e => el e.symm
            clear el
            go_wp2_with fail
            refine (lnet_x HL9.out HN.out).mono ?_
            rintro e w5 ⟨rfl, hb⟩
            have HU5 : Hid (Below w.heap.size w w5) := HU9.out.trans (hb.mono HU9.out.size)
            clear hb
            go_wp2_with fail
            go_returns
            exact ⟨by simp, HU5.out⟩
        · have eg2 : ¬ g = r.g := fun e => eg e.symm
          have HN := hide (HEN.out g k ls)
          simp only [if_neg (show ¬ (r.g = g ∧ r.k = k) from fun e => eg e.1)] at HN
          clear eg ek q9 HEN
          go_wp2_with fail
          refine (lnet_x HL9.out HN.out).mono ?_
          rintro e w5 ⟨rfl, hb⟩
          have HU5 : Hid (Below w.heap.size w w5) := HU9.out.trans (hb.mono HU9.out.size)
          have H5 := hide (H9.out.below hb)
          clear hb
          go_wp2_with fail
          refine (lnet_x H5.out rfl).mono ?_
          rintro e w6 ⟨rfl, hb⟩
          have HU6 : Hid (Below w.heap.size w w6) := HU5.out.trans (hb.mono HU5.out.size)
          clear hb
          go_wp2_with fail
          go_returns
          exact ⟨by simp, HU6.out⟩
      · rw [decide_eq_false (fun e => ek e.symm)] at q9
        have HN := hide (HEN.out g k ls)
        simp only [if_neg (show ¬ (r.g = g ∧ r.k = k) from fun e => ek e.2)] at HN
        clear ek HEN
        by_cases eg2 : g = r.g
        · subst eg2
          go_wp2_with fail
          refine (lnet_x HL9.out HN.out).mono ?_
          rintro e w5 ⟨rfl, hb⟩
          have HU5 : Hid (Below w.heap.size w w5) := HU9.out.trans (hb.mono HU9.out.size)
          have H5 := hide (H9.out.below hb)
          clear hb
          go_wp2_with fail
          refine (lnet_x H5.out rfl).mono ?_
          rintro e w6 ⟨rfl, hb⟩
          have HU6 : Hid (Below w.heap.size w w6) := HU5.out.trans (hb.mono HU5.out.size)
          clear hb
          go_wp2_with fail
          go_returns
          exact ⟨by simp, HU6.out⟩
        · go_wp2_with fail
          refine (lnet_x HL9.out HN.out).mono ?_
          rintro e w5 ⟨rfl, hb⟩
          have HU5 : Hid (Below w.heap.size w w5) := HU9.out.trans (hb.mono HU9.out.size)
          have H5 := hide (H9.out.below hb)
          clear hb
          go_wp2_with fail
          refine (lnet_x H5.out rfl).mono ?_
          rintro e w6 ⟨rfl, hb⟩
          have HU6 : Hid (Below w.heap.size w w6) := HU5.out.trans (hb.mono HU5.out.size)
          clear hb
          go_wp2_with fail
          go_returns
          exact ⟨by simp, HU6.out⟩
set_option maxRecDepth 100000 in
set_option maxHeartbeats 40000000 in
theorem walk_form {w : World} {a : Option Addr} {n c : Nat} {l : List Rt} {r : Rt} {g ls : Int} {k : ByteArray} (h : Rs w a n l) (hc : Cp a n c) (hq : n * 40 ≤ 140737488351232) (hl : ¬ ledB l = true) :
    Calls Try.prog 7 #[.slice a n c, rval r, .int .i64 g, .string k, .int .i64 ls] w fun e w' => e = .returned (.bool true) ∧ Below w.heap.size w w' := by
      have AW := fun W => hide (lawake_any W)
      have H := hide h
      have HC := hide hc
      have HLn := hide h.len
      have hrm := h.room
      clear h hc
      have eE : putE l r = 21 := by unfold putE; rw [if_neg hl]
      have eL : putL l r = [] := by unfold putL; rw [eE]; rfl
      have eC : lcheckE l = 21 := by unfold lcheckE; rw [if_neg hl]
      have HE := hide eE
      have HEL := hide eL
      have HEC := hide eC
      clear eE eL eC
      obtain ⟨w1, ew⟩ : ∃ w1, w1 = w.alloc (.cells #[.int .i64 r.g, .string r.k, .int .i64 r.ls, .int .i64 r.nt] 43) := ⟨_, rfl⟩
      have HB1 : Hid (Below w.heap.size w w1) := by rw [ew]; exact Below.alloc (Below.refl _ _) (Nat.le_refl _) _
      have HR1 : Hid (Rb w1 w.heap.size r) := by rw [ew]; exact rb_new w r
      unfold rval
      go_enter Try.func7, Try.ntmps7
      go_wp2_with fail
      rw [← ew]
      clear ew
      refine (AW _).out.mono ?_
      rintro e w2 ⟨rfl, hb⟩
      have HB2 : Hid (Below w.heap.size w w2) := HB1.out.trans (hb.mono HB1.out.size)
      have HR2 := hide (HR1.out.below hb)
      clear hb HR1 HB1
      obtain ⟨q, eq⟩ : ∃ q, q = w.heap.size := ⟨_, rfl⟩
      rw [← eq] at HR2 ⊢
      have HQ := hide eq
      clear eq
      go_upto_region 3 with fail
      refine region_tree (n := 9) (fun v => v.cell? ⟨q, 0, none⟩ = some (.int .i64 r.g) ∧ v.cell? ⟨q, 1, none⟩ = some (.string r.k) ∧ v.cell? ⟨q, 2, none⟩ = some (.int .i64 r.ls) ∧ v.cell? ⟨q, 3, none⟩ = some (.int .i64 r.nt)) (by kernel_rfl) (by kernel_rfl) ?_
      have HR0 := hide (HR2.out.below (below_drew1' _))
      have HU0 : Hid (Below w.heap.size w w2.drew) := HB2.out.trans ((below_drew1' _).mono HB2.out.size)
      generalize w2.drew = u0 at HR0 HU0 ⊢
      obtain ⟨ka0, kb0, kc0, kd0⟩ := HR0.out.at_
      refine any_take 0 (v := ?_) (by kernel_rfl) (by kernel_rfl) (by kernel_rfl) rfl (fun _ _ _ h => h) (by rfl) (And.intro ka0 (And.intro kb0 (And.intro kc0 kd0))) ?_ ?_
      rotate_left
      · (intro y hy; simp only [List.getElem_toArray, List.getElem_cons_zero]; go_simp; try with_reducible rfl)
      simp only [List.getElem_toArray, List.getElem_cons_zero, Act.put, List.setIfInBounds_toArray, List.set_cons_zero, List.set_cons_succ]
      refine any_take 2 (v := ?_) (by kernel_rfl) (by kernel_rfl) (by kernel_rfl) rfl (fun _ _ _ h => h) (by rfl) (And.intro ka0 (And.intro kb0 (And.intro kc0 kd0))) ?_ ?_
      rotate_left
      · (intro y hy; obtain ⟨q0, q1, q2, q3⟩ := hy; simp only [List.getElem_toArray, List.getElem_cons_zero, List.getElem_cons_succ]; go_simp; try with_reducible rfl)
      simp only [List.getElem_toArray, List.getElem_cons_zero, List.getElem_cons_succ, Act.put, List.setIfInBounds_toArray, List.set_cons_zero, List.set_cons_succ]
      refine any_fork [1] (by kernel_rfl) (by simp) ?_
      refine fork_one ?_
      refine any_op rfl (fun K' hK => ?_)
      simp only [List.getElem_toArray, List.getElem_cons_zero, List.getElem_cons_succ]
      go_simp
      refine (lown_any (H.out.below HU0.out) HC.out).mono ?_; rintro e u1 ⟨gO, rfl, hb, ho⟩; have HR1 := hide (HR0.out.below hb); have HU1 : Hid (Below w.heap.size w u1) := HU0.out.trans (hb.mono HU0.out.size); have HO := hide ho.rs; clear hb ho ka0 kb0 kc0 kd0
      obtain ⟨ka1, kb1, kc1, kd1⟩ := HR1.out.at_
      refine hK _ _ ⟨(And.intro ka1 (And.intro kb1 (And.intro kc1 kd1))), ?_⟩
      clear hK K'
      refine any_fork [3] (by kernel_rfl) (by simp) ?_
      refine fork_one ?_
      refine any_op rfl (fun K' hK => ?_)
      simp only [List.getElem_toArray, List.getElem_cons_zero, List.getElem_cons_succ]
      go_simp
      refine (lput_x HO.out (by omega) HE.out HEL.out).mono ?_; rintro e u2 ⟨a2, n2, c2, rfl, hL, hb, hF, _⟩; have HR2b := hide (HR1.out.below hb); have HU2 : Hid (Below w.heap.size w u2) := HU1.out.trans (hb.mono HU1.out.size); have HL := hide hL; clear hb hL hF ka1 kb1 kc1 kd1
      obtain ⟨ka2, kb2, kc2, kd2⟩ := HR2b.out.at_
      refine hK _ _ ⟨(And.intro ka2 (And.intro kb2 (And.intro kc2 kd2))), ?_⟩
      clear hK K'
      refine any_take 4 (v := ?_) (by kernel_rfl) (by kernel_rfl) (by kernel_rfl) rfl (fun _ _ _ h => h) (by rfl) (And.intro ka2 (And.intro kb2 (And.intro kc2 kd2))) ?_ ?_
      rotate_left
      · (intro y hy; simp only [List.getElem_toArray, List.getElem_cons_zero, List.getElem_cons_succ]; go_simp; try with_reducible rfl)
      simp only [List.getElem_toArray, List.getElem_cons_zero, List.getElem_cons_succ, Act.put, List.setIfInBounds_toArray, List.set_cons_zero, List.set_cons_succ]
      refine any_take 5 (v := ?_) (by kernel_rfl) (by kernel_rfl) (by kernel_rfl) rfl (fun _ _ _ h => h) (by rfl) (And.intro ka2 (And.intro kb2 (And.intro kc2 kd2))) ?_ ?_
      rotate_left
      · (intro y hy; simp only [List.getElem_toArray, List.getElem_cons_zero, List.getElem_cons_succ]; go_simp; try with_reducible rfl)
      simp only [List.getElem_toArray, List.getElem_cons_zero, List.getElem_cons_succ, Act.put, List.setIfInBounds_toArray, List.set_cons_zero, List.set_cons_succ]
      refine any_take 6 (v := ?_) (by kernel_rfl) (by kernel_rfl) (by kernel_rfl) rfl (fun _ _ _ h => h) (by rfl) (And.intro ka2 (And.intro kb2 (And.intro kc2 kd2))) ?_ ?_
      rotate_left
      · (intro y hy; simp only [List.getElem_toArray, List.getElem_cons_zero, List.getElem_cons_succ]; go_simp; try with_reducible rfl)
      simp only [List.getElem_toArray, List.getElem_cons_zero, List.getElem_cons_succ, Act.put, List.setIfInBounds_toArray, List.set_cons_zero, List.set_cons_succ]
      refine any_take 7 (v := ?_) (by kernel_rfl) (by kernel_rfl) (by kernel_rfl) rfl (fun _ _ _ h => h) (by rfl) (And.intro ka2 (And.intro kb2 (And.intro kc2 kd2))) ?_ ?_
      rotate_left
      · (intro y hy; simp only [List.getElem_toArray, List.getElem_cons_zero, List.getElem_cons_succ]; go_simp; try with_reducible rfl)
      simp only [List.getElem_toArray, List.getElem_cons_zero, List.getElem_cons_succ, Act.put, List.setIfInBounds_toArray, List.set_cons_zero, List.set_cons_succ]
      refine any_take 8 (v := ?_) (by kernel_rfl) (by kernel_rfl) (by kernel_rfl) rfl (fun _ _ _ h => h) (by rfl) (And.intro ka2 (And.intro kb2 (And.intro kc2 kd2))) ?_ ?_
      rotate_left
      · (intro y hy; simp only [List.getElem_toArray, List.getElem_cons_zero, List.getElem_cons_succ]; go_simp; try with_reducible rfl)
      simp only [List.getElem_toArray, List.getElem_cons_zero, List.getElem_cons_succ, Act.put, List.setIfInBounds_toArray, List.set_cons_zero, List.set_cons_succ]
      refine any_done (by kernel_rfl) ?_
      obtain rfl : n2 = 0 := HL.out.len.symm
      go_wp2_with fail
      refine (lcheck_x (H.out.below HU2.out) HEC.out).mono ?_
      rintro e w3 ⟨rfl, hb⟩
      have HU3 : Hid (Below w.heap.size w w3) := HU2.out.trans (hb.mono HU2.out.size)
      clear hb
      go_wp2_with fail
      go_returns
      exact ⟨rfl, HU3.out⟩
theorem walk {w : World} {a : Option Addr} {n c : Nat} {l : List Rt} {r : Rt} {g ls : Int} {k : ByteArray} (h : Rs w a n l) (hc : Cp a n c) (hq : n * 40 ≤ 140737488351232) :
    Calls Try.prog 7 #[.slice a n c, rval r, .int .i64 g, .string k, .int .i64 ls] w fun e w' => e = .returned (.bool true) ∧ Below w.heap.size w w' := by
  by_cases hl : ledB l = true
  · cases hm : mayB r
    · exact walk_arg h hc hq hl hm
    · exact walk_ok h hc hq hl hm
  · exact walk_form h hc hq hl

set_option maxRecDepth 100000 in
theorem lifted (os : Os) (started : os.Started) (H : Type) (enc : TypeId × Value → H) :
    ReturnsInHanded {} Try.checked os 7 .any (Rows.ledgerPutsSpec.pre6 enc Try.prog Try.f7 Rows.ledgerPutsRow.domain false) (Rows.ledgerPutsSpec.post enc Try.prog Try.f7 false true false false) := by
  refine returnsInHanded_of_change_sized (C := Try.checked) own started (by kernel_rfl) Try.func7
    (ChangeSpec.witness6 (enc := enc) (C := Try.checked) false ⟨#[], #[.slice none 0 0, .agg #[.int .i64 0, .string ByteArray.empty, .int .i64 0, .int .i64 0], .int .i64 0, .string ByteArray.empty, .int .i64 0], []⟩ 8 (by kernel_rfl) (by kernel_rfl) (by kernel_rfl) (by kernel_rfl)) ?_
  intro W base args ds gs before hval0 hW hcnd hsz0 _
  have hsz : (DataW.weightsEach Try.prog (Try.f7.params.toList ++ Rows.ledgerPutsSpec.plain.varTypes Try.prog) (ds ++ gs)).all (· ≤ reachBytes) = true := hsz0
  have hval : ∀ (j : Nat) t v, Try.f7.params[j]? = some t → args[j]? = some v → Value.okWide Try.prog W .any base t v := hval0
  have hW' := hW
  obtain ⟨p, q, hA0, hV, rfl, hfz, hnd⟩ := hW
  have hA : DataW.TrodAll enc Try.prog W 0 (fun _ => true) true Try.f7.params.toList args.toList ds p := hA0
  rw [Try.params7] at hA hval hsz
  obtain ⟨v0, vs0, d0, ds0, p0, q0, hargs, rfl, rfl, h0, r0⟩ := trodAll_cons hA
  obtain ⟨v1, vs1, d1, ds1, p1, q1, rfl, rfl, rfl, h1, r1⟩ := trodAll_cons r0
  obtain ⟨v2, vs2, d2, ds2, p2, q2, rfl, rfl, rfl, h2, r2⟩ := trodAll_cons r1
  obtain ⟨v3, vs3, d3, ds3, p3, q3, rfl, rfl, rfl, h3, r3⟩ := trodAll_cons r2
  obtain ⟨v4, vs4, d4, ds4, p4, q4, rfl, rfl, rfl, h4, r4⟩ := trodAll_cons r3
  obtain ⟨rfl, rfl, rfl⟩ := trodAll_nil r4
  obtain rfl : args = #[v0, v1, v2, v3, v4] := by cases args; simp_all
  obtain ⟨rfl, rfl⟩ := trodVars_none hV
  have lt0 : ∀ x ∈ p0, x.block < W.heap.size := by obtain ⟨m, hm⟩ := h0; exact DataW.trod_lt m _ _ _ hm
  obtain ⟨a, n, c, l, rfl, k0, kw0, kc0, kq0⟩ := open_rights_held (hval 0 41 v0 rfl rfl) h0 (fun n hn => by have h := List.all_eq_true.1 hsz n (DataW.weights_mem_each (j := 0) rfl rfl n hn); simpa using h)
  have lt1 : ∀ x ∈ p1, x.block < W.heap.size := by obtain ⟨m, hm⟩ := h1; exact DataW.trod_lt m _ _ _ hm
  obtain ⟨r, rfl, hr⟩ := open_right_held (hval 1 43 v1 rfl rfl) h1 (fun n hn => by have h := List.all_eq_true.1 hsz n (DataW.weights_mem_each (j := 1) rfl rfl n hn); simpa using h)
  have lt2 : ∀ x ∈ p2, x.block < W.heap.size := by obtain ⟨m, hm⟩ := h2; exact DataW.trod_lt m _ _ _ hm
  obtain ⟨g, rfl, hg⟩ := open_i64 (hval 2 3 v2 rfl rfl) h2
  have lt3 : ∀ x ∈ p3, x.block < W.heap.size := by obtain ⟨m, hm⟩ := h3; exact DataW.trod_lt m _ _ _ hm
  obtain ⟨k, rfl, hk⟩ := open_str (hval 3 9 v3 rfl rfl) h3
  have lt4 : ∀ x ∈ p4, x.block < W.heap.size := by obtain ⟨m, hm⟩ := h4; exact DataW.trod_lt m _ _ _ hm
  obtain ⟨ls, rfl, hls⟩ := open_i64 (hval 4 3 v4 rfl rfl) h4
  clear hA0 hval0
  refine (walk k0 kc0 kq0).mono fun e W' ⟨he, bel⟩ => ?_
  subst he
  exact ⟨_, rfl, _, _, _, [], _, [], hW', trodAll_mk1 (shut_bool Try.underlying4 _), (trodAll_cons_mk (Below.trod laidOut (by kernel_rfl) (of_decide_eq_true (by kernel_rfl)) h0 bel lt0) (trodAll_cons_mk (Below.trod laidOut (by kernel_rfl) (of_decide_eq_true (by kernel_rfl)) h1 bel lt1) (trodAll_cons_mk (Below.trod laidOut (by kernel_rfl) (of_decide_eq_true (by kernel_rfl)) h2 bel lt2) (trodAll_cons_mk (Below.trod laidOut (by kernel_rfl) (of_decide_eq_true (by kernel_rfl)) h3 bel lt3) (trodAll_cons_mk (Below.trod laidOut (by kernel_rfl) (of_decide_eq_true (by kernel_rfl)) h4 bel lt4) trodAll_mk0))))), rfl, bel.frame _, fun h => by cases h⟩

theorem over : Rows.ledgerPutsRow.holds Try.pinned (OpenSpec.ofChange Rows.ledgerPutsSpec) :=
  OpenClaim.holds_of_wide 7 Try.f7 rfl rfl rfl rfl rfl rfl rfl ⟨rfl, rfl, rfl, rfl, rfl⟩ rfl rfl rfl rfl rfl (by kernel_rfl) Try.func7 (by kernel_rfl)
    (of_decide_eq_true (by kernel_rfl)) (by unfold Func.isWrapper; first | (rw [if_pos (by decide +kernel)]; kernel_rfl) | (rw [if_neg (by decide +kernel)]; exact ⟨rfl, rfl⟩))
    (fun os started H enc _ => lifted os started H enc)

theorem proved : Rows.LedgerPutsSaid := over
#print axioms proved
end LedgerPuts
theorem ledgerPuts_holds : Rows.LedgerPutsSaid := LedgerPuts.proved
end Go.Proofs.Ytjcbhgkfbilifaa
