/- AccountLent: whatever holders spend, each between its Down and its Up: the total is within the bounds; no condition. -/
import Derived.Deep.Cut
import Derived.Deep.CutRange
import Derived.Test.YtfolpnjndlklkaaAcoTen
import Derived.Laws.Tables
namespace Go.Proofs.Ytfolpnjndlklkaa
namespace AccountLent
open Go.ChangeShapes Go.WideShapes Go.ChangeAt Go.RowKit Ao
set_option linter.unusedVariables false

theorem sum_le {l : List Hd} {k : Nat} {x : Hd} {S v : Int} (hx : l[k]? = some x) (h1 : -downs (l.take k) ≤ S ∧ S ≤ ups (l.take k)) (h2 : -x.dn ≤ v ∧ v ≤ x.up) : -downs (l.take (k + 1)) ≤ S + v ∧ S + v ≤ ups (l.take (k + 1)) := by
  have := sums_take hx
  omega
set_option maxRecDepth 100000 in
set_option maxHeartbeats 8000000 in
theorem walk {w : World} {key : ByteArray} {lo hi base : Int} {as_ sp : Option Addr} {ns cs np cp : Nat} {script : List Opd} {spent : List Int} {nodes : Int} (hkey : key.size ≤ maxLen) (hlo : I64 lo) (hhi : I64 hi) (hbase : I64 base) (hs : Rl oenc 12 96 w as_ ns script) (hsw : ∀ o ∈ script, OpW o) (hp : Rl ienc 1 8 w sp np spent) (hpi : ∀ x ∈ spent, I64 x) :
    Calls Try.prog 6 #[.string key, sval lo hi, .int .i64 base, .slice as_ ns cs, .int .i64 nodes, .slice sp np cp] w fun e w' => e = .returned (.bool true) ∧ Below w.heap.size w w' := by
  have N := hide hs
  have P := hide hp
  have SW := hide hsw
  have PI := hide hpi
  have AWN : Hid (∀ g, w.heap.size ≤ g → Aw g as_ ns) := fun g hg => aw_rl hs hg
  have AWP : Hid (∀ g, w.heap.size ≤ g → Aw g sp np) := fun g hg => aw_rl hp hg
  have hslen := hs.len
  have hsroom := hs.room
  have hproom := hp.room
  obtain ⟨A, eA⟩ : ∃ A : Ac, A = ⟨key, lo, hi, base, 0, [], ⟨0, 0, 0, 0⟩⟩ := ⟨_, rfl⟩
  have hw : AcW A := by rw [eA]; exact ⟨hkey, hlo, hhi, hbase, acw0.rd, lkw0, fun h hh => by cases hh⟩
  have HW := hide hw
  have HC : Hid (Cp none 0 0) := cp_none
  obtain ⟨g0, eg⟩ : ∃ g, g = w.heap.size + 1 := ⟨_, rfl⟩
  have G0 : Hid (w.heap.size ≤ g0) := by show _ ≤ _; omega
  have START : ∃ w1, w1 = (w.alloc (.cells #[.int .i64 lo, .int .i64 hi] 23)).alloc (.cells #[.string key, .int .i64 lo, .int .i64 hi, .int .i64 base, .int .i64 0, .slice none 0 0, .int .i64 0, .int .i64 0, .int .i64 0, .int .i64 0] 28) ∧ Below w.heap.size w w1 ∧ Ab w1 g0 A none 0 0 ∧ Hs w1 none 0 A.hs := by
    have b0 := below_new w (.cells #[.int .i64 lo, .int .i64 hi] 23)
    have b1 := below_new (w.alloc (.cells #[.int .i64 lo, .int .i64 hi] 23)) (.cells #[.string key, .int .i64 lo, .int .i64 hi, .int .i64 base, .int .i64 0, .slice none 0 0, .int .i64 0, .int .i64 0, .int .i64 0, .int .i64 0] 28)
    have h1 := heap_alloc_new (w.alloc (.cells #[.int .i64 lo, .int .i64 hi] 23)) (.cells #[.string key, .int .i64 lo, .int .i64 hi, .int .i64 base, .int .i64 0, .slice none 0 0, .int .i64 0, .int .i64 0, .int .i64 0, .int .i64 0] 28)
    rw [show (w.alloc (.cells #[.int .i64 lo, .int .i64 hi] 23)).heap.size = w.heap.size + 1 by simp] at h1
    refine ⟨_, rfl, b0.trans (b1.mono b0.size), ?_, ?_⟩
    · rw [eA, eg]; exact ⟨h1⟩
    · rw [eA]; exact Rl.nil _
  obtain ⟨w1, ew, hb1, ha1, hh1⟩ := START
  have HB1 := hide hb1
  have HA := hide ha1
  have H := hide hh1
  replace N := hide (N.out.below hb1)
  replace P := hide (P.out.below hb1)
  have HL : Hid (w.heap.size < w1.heap.size) := by have := ha1.lt; show _ < _; omega
  have EW := hide ew.symm
  have AW0 : Hid (Aw g0 none 0) := fun h => absurd h (by omega)
  by_cases hr : rightB A = true
  · have CE : Hid (checkE A = 0) := by show _ = _; unfold checkE; rw [if_pos hr]
    have R0 : Hid (Right A ∧ AcW A) := ⟨(right_iff A).1 hr, hw⟩
    have EG := hide eg
    clear ew hb1 ha1 hh1 eA hw hr hs hsw hp hpi hkey hlo hhi hbase eg
    unfold sval
    go_enter Try.func6, Try.ntmps6
    go_wp2_with fail
    rw [EW.out]
    try rw [← EG.out]
    clear EW
    refine (awake_any _).mono ?_
    rintro e w2 ⟨rfl, hb⟩
    have HB2 : Hid (Below w.heap.size w w2) := HB1.out.trans (hb.mono HB1.out.size)
    replace H := hide (H.out.below hb)
    replace N := hide (N.out.below hb)
    replace P := hide (P.out.below hb)
    replace HA := hide (HA.out.below hb)
    replace HL := hide (Nat.lt_of_lt_of_le HL.out hb.size)
    clear hb HB1
    obtain ⟨z0, z1, z2, z3, z4, z5, z6, z7, z8, z9⟩ := HA.out.at_
    have zl : g0 < w2.heap.size := HA.out.lt
    go_wp2_with fail
    clear z0 z1 z2 z3 z4 z5 z6 z7 z8 z9 zl
    refine (check_x H.out HW.out CE.out).mono ?_
    rintro e w3 ⟨rfl, hb⟩
    have HB3 : Hid (Below w.heap.size w w3) := HB2.out.trans (hb.mono HB2.out.size)
    replace H := hide (H.out.below hb)
    replace N := hide (N.out.below hb)
    replace P := hide (P.out.below hb)
    replace HA := hide (HA.out.below hb)
    replace HL := hide (Nat.lt_of_lt_of_le HL.out hb.size)
    clear hb HB2
    go_wp2_with fail
    go_loopw [14, 15, 16] (fun iv _ _ wr => ∃ (k : Nat) (X : Ac) (ax : Option Addr) (nx cx : Nat), k ≤ ns ∧ iv = .int .i64 k ∧ Hid (Right X ∧ AcW X) ∧ Hid (Below w.heap.size w wr) ∧ Hid (Ab wr g0 X ax nx cx) ∧ Hid (Hs wr ax nx X.hs) ∧ Hid (Cp ax nx cx) ∧ Hid (Aw g0 ax nx) ∧ Hid (Rl oenc 12 96 wr as_ ns script) ∧ Hid (Rl ienc 1 8 wr sp np spent)) (fun iv _ _ _ => ns - (intOf iv).toNat)
    case atStart => exact ⟨0, A, none, 0, 0, Nat.zero_le _, rfl, R0.out, HB3.out, HA.out, H.out, HC.out, AW0.out, N.out, P.out⟩
    case round =>
      clear H N P HA HC R0 AW0 HB3 CE
      obtain ⟨k, X, ax, nx, cx, hk, rfl, HR, HB, HA, HX, HC, AWX, N, P⟩ := hrel
      by_cases hlt : k < ns
      · obtain ⟨ob, ooff, o, rfl, ho, hob, hcell⟩ := N.out.at_ hlt
        have OW : Hid (OpW o) := SW.out o (List.mem_of_getElem? ho)
        have i1 : (k : Int) < (ns : Int) := by omega
        have i2 : (0 : Int) ≤ (k : Int) := by omega
        have i3 : (ns : Int) ≤ 9223372036854775807 := by omega
        obtain ⟨Y, eY⟩ : ∃ Y, Y = stepA X o nodes := ⟨_, rfl⟩
        obtain ⟨E, eE⟩ : ∃ E, E = stepE X o nodes := ⟨_, rfl⟩
        have EY := hide eY.symm
        have EE := hide eE.symm
        have HOC : Hid (wr.rangeAt ob (ooff + k * 12) (oenc o)) := hcell
        clear eY eE ho hcell
        go_upto_region 9 with fail
        go_cut [15, 16] from 39 to 48 (fun v8 v9 wc => ∃ (q : Nat) (ay : Option Addr) (ny cy : Nat), v8 = .pointer (some ⟨q, 0, none⟩) ∧ v9 = .int .i64 E ∧ Hid (Below w.heap.size w wc) ∧ Hid (Ab wc g0 X ax nx cx) ∧ Hid (Ab wc q Y ay ny cy) ∧ Hid (Hs wc ax nx X.hs) ∧ Hid (Hs wc ay ny Y.hs) ∧ Hid (Cp ay ny cy) ∧ Hid (Aw g0 ay ny) ∧ Hid (Rl oenc 12 96 wc (some ⟨ob, ooff, none⟩) ns script) ∧ Hid (Rl ienc 1 8 wc sp np spent) ∧ Hid (g0 < q))
        case first =>
          refine region_tree (n := 13) (fun v => v.cell? ⟨g0, 0, none⟩ = some (.string X.key) ∧ v.cell? ⟨g0, 1, none⟩ = some (.int .i64 X.lo) ∧ v.cell? ⟨g0, 2, none⟩ = some (.int .i64 X.hi) ∧ v.cell? ⟨g0, 3, none⟩ = some (.int .i64 X.base) ∧ v.cell? ⟨g0, 4, none⟩ = some (.int .i64 X.rd) ∧ v.cell? ⟨g0, 5, none⟩ = some (.slice ax nx cx) ∧ v.cell? ⟨g0, 6, none⟩ = some (.int .i64 X.lk.c) ∧ v.cell? ⟨g0, 7, none⟩ = some (.int .i64 X.lk.s) ∧ v.cell? ⟨g0, 8, none⟩ = some (.int .i64 X.lk.h) ∧ v.cell? ⟨g0, 9, none⟩ = some (.int .i64 X.lk.n) ∧ v.cell? ⟨ob, ooff + k * 12, none⟩ = some (.int .i64 o.k) ∧ v.cell? ⟨ob, ooff + k * 12 + 1, none⟩ = some (.int .i64 o.nd) ∧ v.cell? ⟨ob, ooff + k * 12 + 2, none⟩ = some (.int .i64 o.ls) ∧ v.cell? ⟨ob, ooff + k * 12 + 3, none⟩ = some (.int .i64 o.rd) ∧ v.cell? ⟨ob, ooff + k * 12 + 4, none⟩ = some (.int .i64 o.n) ∧ v.cell? ⟨ob, ooff + k * 12 + 5, none⟩ = some (.int .i64 o.lo) ∧ v.cell? ⟨ob, ooff + k * 12 + 6, none⟩ = some (.int .i64 o.hi) ∧ v.cell? ⟨ob, ooff + k * 12 + 7, none⟩ = some (.int .i64 o.lk.c) ∧ v.cell? ⟨ob, ooff + k * 12 + 8, none⟩ = some (.int .i64 o.lk.s) ∧ v.cell? ⟨ob, ooff + k * 12 + 9, none⟩ = some (.int .i64 o.lk.h) ∧ v.cell? ⟨ob, ooff + k * 12 + 10, none⟩ = some (.int .i64 o.lk.n) ∧ v.cell? ⟨ob, ooff + k * 12 + 11, none⟩ = some (.bool o.cm)) (by kernel_rfl) (by kernel_rfl) ?_
          have B0 : Hid (Below w.heap.size w wr.drew) := ⟨HB.out.os, HB.out.tape, HB.out.output, HB.out.size, HB.out.block⟩
          have A0 : Hid (Ab wr.drew g0 X ax nx cx) := ⟨HA.out.row⟩
          have X0 : Hid (Hs wr.drew ax nx X.hs) := HX.out.drew 1
          have N0 : Hid (Rl oenc 12 96 wr.drew (some ⟨ob, ooff, none⟩) ns script) := N.out.drew 1
          have P0 : Hid (Rl ienc 1 8 wr.drew sp np spent) := P.out.drew 1
          have O0 : Hid (wr.drew.rangeAt ob (ooff + k * 12) (oenc o)) := HOC.out
          have L0 : Hid (ob < wr.drew.heap.size) := hob
          generalize wr.drew = u0 at B0 A0 X0 N0 P0 O0 L0 ⊢
          obtain ⟨z0, z1, z2, z3, z4, z5, z6, z7, z8, z9⟩ := A0.out.at_
          obtain ⟨x0, x1, x2, x3, x4, x5, x6, x7, x8, x9, x10, x11⟩ := op_cells O0.out
          refine any_take 0 (v := ?_) (by kernel_rfl) (by kernel_rfl) (by kernel_rfl) rfl (fun _ _ _ h => h) (by rfl) (And.intro z0 (And.intro z1 (And.intro z2 (And.intro z3 (And.intro z4 (And.intro z5 (And.intro z6 (And.intro z7 (And.intro z8 (And.intro z9 (And.intro x0 (And.intro x1 (And.intro x2 (And.intro x3 (And.intro x4 (And.intro x5 (And.intro x6 (And.intro x7 (And.intro x8 (And.intro x9 (And.intro x10 x11))))))))))))))))))))) ?_ ?_
          rotate_left
          · (intro y hy; obtain ⟨q0, q1, q2, q3, q4, q5, q6, q7, q8, q9, q10, q11, q12, q13, q14, q15, q16, q17, q18, q19, q20, q21⟩ := hy; simp only [List.getElem_toArray, List.getElem_cons_zero]; go_simp; try with_reducible rfl)
          simp only [List.getElem_toArray, List.getElem_cons_zero, Act.put, List.setIfInBounds_toArray, List.set_cons_zero, List.set_cons_succ]
          refine any_take 1 (v := ?_) (by kernel_rfl) (by kernel_rfl) (by kernel_rfl) rfl (fun _ _ _ h => h) (by rfl) (And.intro z0 (And.intro z1 (And.intro z2 (And.intro z3 (And.intro z4 (And.intro z5 (And.intro z6 (And.intro z7 (And.intro z8 (And.intro z9 (And.intro x0 (And.intro x1 (And.intro x2 (And.intro x3 (And.intro x4 (And.intro x5 (And.intro x6 (And.intro x7 (And.intro x8 (And.intro x9 (And.intro x10 x11))))))))))))))))))))) ?_ ?_
          rotate_left
          · (intro y hy; simp only [List.getElem_toArray, List.getElem_cons_zero, List.getElem_cons_succ]; go_simp; try with_reducible rfl)
          simp only [List.getElem_toArray, List.getElem_cons_zero, List.getElem_cons_succ, Act.put, List.setIfInBounds_toArray, List.set_cons_zero, List.set_cons_succ]
          refine any_take 2 (v := ?_) (by kernel_rfl) (by kernel_rfl) (by kernel_rfl) rfl (fun _ _ _ h => h) (by rfl) (And.intro z0 (And.intro z1 (And.intro z2 (And.intro z3 (And.intro z4 (And.intro z5 (And.intro z6 (And.intro z7 (And.intro z8 (And.intro z9 (And.intro x0 (And.intro x1 (And.intro x2 (And.intro x3 (And.intro x4 (And.intro x5 (And.intro x6 (And.intro x7 (And.intro x8 (And.intro x9 (And.intro x10 x11))))))))))))))))))))) ?_ ?_
          rotate_left
          · (intro y hy; simp only [List.getElem_toArray, List.getElem_cons_zero, List.getElem_cons_succ]; go_simp; try with_reducible rfl)
          simp only [List.getElem_toArray, List.getElem_cons_zero, List.getElem_cons_succ, Act.put, List.setIfInBounds_toArray, List.set_cons_zero, List.set_cons_succ]
          refine any_take 3 (v := ?_) (by kernel_rfl) (by kernel_rfl) (by kernel_rfl) rfl (fun _ _ _ h => h) (by rfl) (And.intro z0 (And.intro z1 (And.intro z2 (And.intro z3 (And.intro z4 (And.intro z5 (And.intro z6 (And.intro z7 (And.intro z8 (And.intro z9 (And.intro x0 (And.intro x1 (And.intro x2 (And.intro x3 (And.intro x4 (And.intro x5 (And.intro x6 (And.intro x7 (And.intro x8 (And.intro x9 (And.intro x10 x11))))))))))))))))))))) ?_ ?_
          rotate_left
          · (intro y hy; simp only [List.getElem_toArray, List.getElem_cons_zero, List.getElem_cons_succ]; go_simp; try with_reducible rfl)
          simp only [List.getElem_toArray, List.getElem_cons_zero, List.getElem_cons_succ, Act.put, List.setIfInBounds_toArray, List.set_cons_zero, List.set_cons_succ]
          refine any_take 4 (v := ?_) (by kernel_rfl) (by kernel_rfl) (by kernel_rfl) rfl (fun _ _ _ h => h) (by rfl) (And.intro z0 (And.intro z1 (And.intro z2 (And.intro z3 (And.intro z4 (And.intro z5 (And.intro z6 (And.intro z7 (And.intro z8 (And.intro z9 (And.intro x0 (And.intro x1 (And.intro x2 (And.intro x3 (And.intro x4 (And.intro x5 (And.intro x6 (And.intro x7 (And.intro x8 (And.intro x9 (And.intro x10 x11))))))))))))))))))))) ?_ ?_
          rotate_left
          · (intro y hy; obtain ⟨q0, q1, q2, q3, q4, q5, q6, q7, q8, q9, q10, q11, q12, q13, q14, q15, q16, q17, q18, q19, q20, q21⟩ := hy; simp only [List.getElem_toArray, List.getElem_cons_zero, List.getElem_cons_succ]; go_simp; try with_reducible rfl)
          simp only [List.getElem_toArray, List.getElem_cons_zero, List.getElem_cons_succ, Act.put, List.setIfInBounds_toArray, List.set_cons_zero, List.set_cons_succ]
          refine any_take 5 (v := ?_) (by kernel_rfl) (by kernel_rfl) (by kernel_rfl) rfl (fun _ _ _ h => h) (by rfl) (And.intro z0 (And.intro z1 (And.intro z2 (And.intro z3 (And.intro z4 (And.intro z5 (And.intro z6 (And.intro z7 (And.intro z8 (And.intro z9 (And.intro x0 (And.intro x1 (And.intro x2 (And.intro x3 (And.intro x4 (And.intro x5 (And.intro x6 (And.intro x7 (And.intro x8 (And.intro x9 (And.intro x10 x11))))))))))))))))))))) ?_ ?_
          rotate_left
          · (intro y hy; simp only [List.getElem_toArray, List.getElem_cons_zero, List.getElem_cons_succ]; go_simp; try with_reducible rfl)
          simp only [List.getElem_toArray, List.getElem_cons_zero, List.getElem_cons_succ, Act.put, List.setIfInBounds_toArray, List.set_cons_zero, List.set_cons_succ]
          refine any_fork [6, 10] (by kernel_rfl) (by simp) ?_
          refine fork_more ?_ ?_
          · skip
            refine any_op rfl (fun K' hK => ?_)
            simp only [List.getElem_toArray, List.getElem_cons_zero, List.getElem_cons_succ]
            go_simp
            refine (call_x X0.out HR.out.2 HC.out OW.out EY.out EE.out).mono ?_
            rintro e u1 ⟨ay, ny, cy, rfl, hy, hb, hf, hcy⟩
            have Y1 : Hid (Hs u1 ay ny Y.hs) := hy
            have CY := hide hcy
            have AYS : Hid (Aw g0 ay ny) := aw_new hf A0.out.lt
            have B1 : Hid (Below w.heap.size w u1) := B0.out.trans (hb.mono B0.out.size)
            have A1 := hide (A0.out.below hb)
            have X1 := hide (X0.out.below hb)
            have N1 := hide (N0.out.below hb)
            have P1 := hide (P0.out.below hb)
            have O1 : Hid (u1.rangeAt ob (ooff + k * 12) (oenc o)) := range_same O0.out (hb.block _ L0.out)
            have L1 : Hid (ob < u1.heap.size) := Nat.lt_of_lt_of_le L0.out hb.size
            clear z0 z1 z2 z3 z4 z5 z6 z7 z8 z9 x0 x1 x2 x3 x4 x5 x6 x7 x8 x9 x10 x11
            obtain ⟨z0, z1, z2, z3, z4, z5, z6, z7, z8, z9⟩ := A1.out.at_
            obtain ⟨x0, x1, x2, x3, x4, x5, x6, x7, x8, x9, x10, x11⟩ := op_cells O1.out
            clear hb hy hcy hf
            refine hK _ _ ⟨(And.intro z0 (And.intro z1 (And.intro z2 (And.intro z3 (And.intro z4 (And.intro z5 (And.intro z6 (And.intro z7 (And.intro z8 (And.intro z9 (And.intro x0 (And.intro x1 (And.intro x2 (And.intro x3 (And.intro x4 (And.intro x5 (And.intro x6 (And.intro x7 (And.intro x8 (And.intro x9 (And.intro x10 x11))))))))))))))))))))), ?_⟩
            clear hK K'
            refine any_take 7 (v := ?_) (by kernel_rfl) (by kernel_rfl) (by kernel_rfl) rfl (fun _ _ _ h => h) (by rfl) (And.intro z0 (And.intro z1 (And.intro z2 (And.intro z3 (And.intro z4 (And.intro z5 (And.intro z6 (And.intro z7 (And.intro z8 (And.intro z9 (And.intro x0 (And.intro x1 (And.intro x2 (And.intro x3 (And.intro x4 (And.intro x5 (And.intro x6 (And.intro x7 (And.intro x8 (And.intro x9 (And.intro x10 x11))))))))))))))))))))) ?_ ?_
            rotate_left
            · (intro y hy; simp only [List.getElem_toArray, List.getElem_cons_zero, List.getElem_cons_succ]; go_simp; try with_reducible rfl)
            simp only [List.getElem_toArray, List.getElem_cons_zero, List.getElem_cons_succ, Act.put, List.setIfInBounds_toArray, List.set_cons_zero, List.set_cons_succ]
            refine any_take 8 (v := ?_) (by kernel_rfl) (by kernel_rfl) (by kernel_rfl) rfl (fun _ _ _ h => h) (by rfl) (And.intro z0 (And.intro z1 (And.intro z2 (And.intro z3 (And.intro z4 (And.intro z5 (And.intro z6 (And.intro z7 (And.intro z8 (And.intro z9 (And.intro x0 (And.intro x1 (And.intro x2 (And.intro x3 (And.intro x4 (And.intro x5 (And.intro x6 (And.intro x7 (And.intro x8 (And.intro x9 (And.intro x10 x11))))))))))))))))))))) ?_ ?_
            rotate_left
            · (intro y hy; simp only [List.getElem_toArray, List.getElem_cons_zero, List.getElem_cons_succ]; go_simp; try with_reducible rfl)
            simp only [List.getElem_toArray, List.getElem_cons_zero, List.getElem_cons_succ, Act.put, List.setIfInBounds_toArray, List.set_cons_zero, List.set_cons_succ]
            refine any_take 9 (v := ?_) (by kernel_rfl) (by kernel_rfl) (by kernel_rfl) rfl (fun _ _ _ h => h) (by rfl) (And.intro z0 (And.intro z1 (And.intro z2 (And.intro z3 (And.intro z4 (And.intro z5 (And.intro z6 (And.intro z7 (And.intro z8 (And.intro z9 (And.intro x0 (And.intro x1 (And.intro x2 (And.intro x3 (And.intro x4 (And.intro x5 (And.intro x6 (And.intro x7 (And.intro x8 (And.intro x9 (And.intro x10 x11))))))))))))))))))))) ?_ ?_
            rotate_left
            · (intro y hy; simp only [List.getElem_toArray, List.getElem_cons_zero, List.getElem_cons_succ]; go_simp; try with_reducible rfl)
            simp only [List.getElem_toArray, List.getElem_cons_zero, List.getElem_cons_succ, Act.put, List.setIfInBounds_toArray, List.set_cons_zero, List.set_cons_succ]
            refine any_fork [10] (by kernel_rfl) (by simp) ?_
            refine fork_one ?_
            refine any_op rfl (fun K' hK => ?_)
            simp only [List.getElem_toArray, List.getElem_cons_zero, List.getElem_cons_succ]
            go_simp
            obtain ⟨u2, ev⟩ : ∃ u, u = u1.alloc (.cells #[.string ⟨#[]⟩, .int .i64 0, .int .i64 0, .int .i64 0, .int .i64 0, .slice none 0 0, .int .i64 0, .int .i64 0, .int .i64 0, .int .i64 0] 28) := ⟨_, rfl⟩
            obtain ⟨q, el⟩ : ∃ b, b = u1.heap.size := ⟨_, rfl⟩
            have hb : Below u1.heap.size u1 u2 := by rw [ev]; exact below_new _ _
            have Z2 : Hid (Zr u2 q) := by show Zr _ _; rw [ev, el]; exact (ab_new u1 ac0 none 0 0).zr
            have LQ : Hid (g0 < q ∧ ob < q ∧ u1.heap.size ≤ q ∧ q < u2.heap.size) := by
              have h1 := A1.out.lt
              have h2 := L1.out
              have h3 : u2.heap.size = u1.heap.size + 1 := by rw [ev]; simp
              show _ ∧ _ ∧ _ ∧ _
              omega
            have AQX : Hid (Aw q ax nx) := aw_rl X1.out LQ.out.2.2.1
            have AQY : Hid (Aw q ay ny) := aw_rl Y1.out LQ.out.2.2.1
            have B2 : Hid (Below w.heap.size w u2) := B1.out.trans (hb.mono B1.out.size)
            have A2 := hide (A1.out.below hb)
            have X2 := hide (X1.out.below hb)
            have N2 := hide (N1.out.below hb)
            have P2 := hide (P1.out.below hb)
            have O2 : Hid (u2.rangeAt ob (ooff + k * 12) (oenc o)) := range_same O1.out (hb.block _ L1.out)
            have L2 : Hid (ob < u2.heap.size) := Nat.lt_of_lt_of_le L1.out hb.size
            have Y2 := hide (Y1.out.below hb)
            clear z0 z1 z2 z3 z4 z5 z6 z7 z8 z9 x0 x1 x2 x3 x4 x5 x6 x7 x8 x9 x10 x11
            obtain ⟨z0, z1, z2, z3, z4, z5, z6, z7, z8, z9⟩ := A2.out.at_
            obtain ⟨x0, x1, x2, x3, x4, x5, x6, x7, x8, x9, x10, x11⟩ := op_cells O2.out
            rw [← ev, ← el]
            clear ev el hb
            refine hK _ _ ⟨(And.intro z0 (And.intro z1 (And.intro z2 (And.intro z3 (And.intro z4 (And.intro z5 (And.intro z6 (And.intro z7 (And.intro z8 (And.intro z9 (And.intro x0 (And.intro x1 (And.intro x2 (And.intro x3 (And.intro x4 (And.intro x5 (And.intro x6 (And.intro x7 (And.intro x8 (And.intro x9 (And.intro x10 x11))))))))))))))))))))), ?_⟩
            clear hK K'
            refine any_fork [11] (by kernel_rfl) (by simp) ?_
            refine fork_one ?_
            obtain ⟨p0, p1, p2, p3, p4, p5, p6, p7, p8, p9⟩ := zr_at Z2.out
            have pf := zr_fz Z2.out
            have pl := Z2.out.lt
            refine any_op rfl (fun K' hK => ?_)
            simp only [List.getElem_toArray, List.getElem_cons_zero, List.getElem_cons_succ]
            go_simp
            obtain ⟨W, eW⟩ : ∃ W, W = ((((((((((u2.setCell ⟨q, 0, none⟩ (.string Y.key)).setCell ⟨q, 1, none⟩ (.int .i64 Y.lo)).setCell ⟨q, 2, none⟩ (.int .i64 Y.hi)).setCell ⟨q, 3, none⟩ (.int .i64 Y.base)).setCell ⟨q, 4, none⟩ (.int .i64 Y.rd)).setCell ⟨q, 5, none⟩ (.slice ay ny cy)).setCell ⟨q, 6, none⟩ (.int .i64 Y.lk.c)).setCell ⟨q, 7, none⟩ (.int .i64 Y.lk.s)).setCell ⟨q, 8, none⟩ (.int .i64 Y.lk.h)).setCell ⟨q, 9, none⟩ (.int .i64 Y.lk.n)) := ⟨_, rfl⟩
            have WB : Hid (Below w.heap.size w W) := by show Below _ _ _; rw [eW]; exact ten_below Y ay ny cy B2.out (by have := LQ.out; have := G0.out; omega)
            have WA : Hid (Ab W g0 X ax nx cx) := by show Ab _ _ _ _ _ _; rw [eW]; exact ⟨(ten_far Y ay ny cy (by have := LQ.out; have := G0.out; omega)).trans A2.out.row⟩
            have WY : Hid (Ab W q Y ay ny cy) := by show Ab _ _ _ _ _ _; rw [eW]; exact ten_put Y ay ny cy Z2.out
            have WX : Hid (Hs W ax nx X.hs) := by show Rl _ _ _ _ _ _ _; rw [eW]; exact ten_rl Y ay ny cy X2.out AQX.out
            have WYS : Hid (Hs W ay ny Y.hs) := by show Rl _ _ _ _ _ _ _; rw [eW]; exact ten_rl Y ay ny cy Y2.out AQY.out
            have WN : Hid (Rl oenc 12 96 W (some ⟨ob, ooff, none⟩) ns script) := by show Rl _ _ _ _ _ _ _; rw [eW]; exact ten_rl Y ay ny cy N2.out (AWN.out q (by have := LQ.out; have := G0.out; omega))
            have WP : Hid (Rl ienc 1 8 W sp np spent) := by show Rl _ _ _ _ _ _ _; rw [eW]; exact ten_rl Y ay ny cy P2.out (AWP.out q (by have := LQ.out; have := G0.out; omega))
            have WO : Hid (W.rangeAt ob (ooff + k * 12) (oenc o)) := range_same O2.out (by rw [eW]; exact ten_far Y ay ny cy (by have := LQ.out; have := G0.out; omega))
            rw [← eW]
            clear eW p0 p1 p2 p3 p4 p5 p6 p7 p8 p9 pf pl z0 z1 z2 z3 z4 z5 z6 z7 z8 z9 x0 x1 x2 x3 x4 x5 x6 x7 x8 x9 x10 x11
            obtain ⟨z0, z1, z2, z3, z4, z5, z6, z7, z8, z9⟩ := WA.out.at_
            obtain ⟨x0, x1, x2, x3, x4, x5, x6, x7, x8, x9, x10, x11⟩ := op_cells WO.out
            refine hK _ _ ⟨(And.intro z0 (And.intro z1 (And.intro z2 (And.intro z3 (And.intro z4 (And.intro z5 (And.intro z6 (And.intro z7 (And.intro z8 (And.intro z9 (And.intro x0 (And.intro x1 (And.intro x2 (And.intro x3 (And.intro x4 (And.intro x5 (And.intro x6 (And.intro x7 (And.intro x8 (And.intro x9 (And.intro x10 x11))))))))))))))))))))), ?_⟩
            clear hK K'
            refine any_take 12 (v := ?_) (by kernel_rfl) (by kernel_rfl) (by kernel_rfl) rfl (fun _ _ _ h => h) (by rfl) (And.intro z0 (And.intro z1 (And.intro z2 (And.intro z3 (And.intro z4 (And.intro z5 (And.intro z6 (And.intro z7 (And.intro z8 (And.intro z9 (And.intro x0 (And.intro x1 (And.intro x2 (And.intro x3 (And.intro x4 (And.intro x5 (And.intro x6 (And.intro x7 (And.intro x8 (And.intro x9 (And.intro x10 x11))))))))))))))))))))) ?_ ?_
            rotate_left
            · (intro y hy; simp only [List.getElem_toArray, List.getElem_cons_zero, List.getElem_cons_succ]; go_simp; try with_reducible rfl)
            simp only [List.getElem_toArray, List.getElem_cons_zero, List.getElem_cons_succ, Act.put, List.setIfInBounds_toArray, List.set_cons_zero, List.set_cons_succ]
            refine any_done (by kernel_rfl) ?_
            go_wp2_with fail
            go_meet
            case rel => exact ⟨q, ay, ny, cy, rfl, rfl, WB.out, WA.out, WY.out, WX.out, WYS.out, CY.out, AYS.out, WN.out, WP.out, LQ.out.1⟩
          refine fork_one ?_
          refine any_op rfl (fun K' hK => ?_)
          simp only [List.getElem_toArray, List.getElem_cons_zero, List.getElem_cons_succ]
          go_simp
          obtain ⟨u1, ev⟩ : ∃ u, u = u0.alloc (.cells #[.string ⟨#[]⟩, .int .i64 0, .int .i64 0, .int .i64 0, .int .i64 0, .slice none 0 0, .int .i64 0, .int .i64 0, .int .i64 0, .int .i64 0] 28) := ⟨_, rfl⟩
          obtain ⟨q, el⟩ : ∃ b, b = u0.heap.size := ⟨_, rfl⟩
          have hb : Below u0.heap.size u0 u1 := by rw [ev]; exact below_new _ _
          have Z1 : Hid (Zr u1 q) := by show Zr _ _; rw [ev, el]; exact (ab_new u0 ac0 none 0 0).zr
          have LQ : Hid (g0 < q ∧ ob < q ∧ u0.heap.size ≤ q ∧ q < u1.heap.size) := by
            have h1 := A0.out.lt
            have h2 := L0.out
            have h3 : u1.heap.size = u0.heap.size + 1 := by rw [ev]; simp
            show _ ∧ _ ∧ _ ∧ _
            omega
          have AQX : Hid (Aw q ax nx) := aw_rl X0.out LQ.out.2.2.1
          have B1 : Hid (Below w.heap.size w u1) := B0.out.trans (hb.mono B0.out.size)
          have A1 := hide (A0.out.below hb)
          have X1 := hide (X0.out.below hb)
          have N1 := hide (N0.out.below hb)
          have P1 := hide (P0.out.below hb)
          have O1 : Hid (u1.rangeAt ob (ooff + k * 12) (oenc o)) := range_same O0.out (hb.block _ L0.out)
          have L1 : Hid (ob < u1.heap.size) := Nat.lt_of_lt_of_le L0.out hb.size
          clear z0 z1 z2 z3 z4 z5 z6 z7 z8 z9 x0 x1 x2 x3 x4 x5 x6 x7 x8 x9 x10 x11
          obtain ⟨z0, z1, z2, z3, z4, z5, z6, z7, z8, z9⟩ := A1.out.at_
          obtain ⟨x0, x1, x2, x3, x4, x5, x6, x7, x8, x9, x10, x11⟩ := op_cells O1.out
          rw [← ev, ← el]
          clear ev el hb
          refine hK _ _ ⟨(And.intro z0 (And.intro z1 (And.intro z2 (And.intro z3 (And.intro z4 (And.intro z5 (And.intro z6 (And.intro z7 (And.intro z8 (And.intro z9 (And.intro x0 (And.intro x1 (And.intro x2 (And.intro x3 (And.intro x4 (And.intro x5 (And.intro x6 (And.intro x7 (And.intro x8 (And.intro x9 (And.intro x10 x11))))))))))))))))))))), ?_⟩
          clear hK K'
          refine any_fork [6] (by kernel_rfl) (by simp) ?_
          refine fork_one ?_
          refine any_op rfl (fun K' hK => ?_)
          simp only [List.getElem_toArray, List.getElem_cons_zero, List.getElem_cons_succ]
          go_simp
          refine (call_x X1.out HR.out.2 HC.out OW.out EY.out EE.out).mono ?_
          rintro e u2 ⟨ay, ny, cy, rfl, hy, hb, hf, hcy⟩
          have Y2 : Hid (Hs u2 ay ny Y.hs) := hy
          have CY := hide hcy
          have AYS : Hid (Aw g0 ay ny) := aw_new hf A1.out.lt
          have AQY : Hid (Aw q ay ny) := aw_new hf LQ.out.2.2.2
          have B2 : Hid (Below w.heap.size w u2) := B1.out.trans (hb.mono B1.out.size)
          have A2 := hide (A1.out.below hb)
          have X2 := hide (X1.out.below hb)
          have N2 := hide (N1.out.below hb)
          have P2 := hide (P1.out.below hb)
          have O2 : Hid (u2.rangeAt ob (ooff + k * 12) (oenc o)) := range_same O1.out (hb.block _ L1.out)
          have L2 : Hid (ob < u2.heap.size) := Nat.lt_of_lt_of_le L1.out hb.size
          have Z2 := hide (Z1.out.below hb)
          clear z0 z1 z2 z3 z4 z5 z6 z7 z8 z9 x0 x1 x2 x3 x4 x5 x6 x7 x8 x9 x10 x11
          obtain ⟨z0, z1, z2, z3, z4, z5, z6, z7, z8, z9⟩ := A2.out.at_
          obtain ⟨x0, x1, x2, x3, x4, x5, x6, x7, x8, x9, x10, x11⟩ := op_cells O2.out
          clear hb hy hcy hf
          refine hK _ _ ⟨(And.intro z0 (And.intro z1 (And.intro z2 (And.intro z3 (And.intro z4 (And.intro z5 (And.intro z6 (And.intro z7 (And.intro z8 (And.intro z9 (And.intro x0 (And.intro x1 (And.intro x2 (And.intro x3 (And.intro x4 (And.intro x5 (And.intro x6 (And.intro x7 (And.intro x8 (And.intro x9 (And.intro x10 x11))))))))))))))))))))), ?_⟩
          clear hK K'
          refine any_take 7 (v := ?_) (by kernel_rfl) (by kernel_rfl) (by kernel_rfl) rfl (fun _ _ _ h => h) (by rfl) (And.intro z0 (And.intro z1 (And.intro z2 (And.intro z3 (And.intro z4 (And.intro z5 (And.intro z6 (And.intro z7 (And.intro z8 (And.intro z9 (And.intro x0 (And.intro x1 (And.intro x2 (And.intro x3 (And.intro x4 (And.intro x5 (And.intro x6 (And.intro x7 (And.intro x8 (And.intro x9 (And.intro x10 x11))))))))))))))))))))) ?_ ?_
          rotate_left
          · (intro y hy; simp only [List.getElem_toArray, List.getElem_cons_zero, List.getElem_cons_succ]; go_simp; try with_reducible rfl)
          simp only [List.getElem_toArray, List.getElem_cons_zero, List.getElem_cons_succ, Act.put, List.setIfInBounds_toArray, List.set_cons_zero, List.set_cons_succ]
          refine any_take 8 (v := ?_) (by kernel_rfl) (by kernel_rfl) (by kernel_rfl) rfl (fun _ _ _ h => h) (by rfl) (And.intro z0 (And.intro z1 (And.intro z2 (And.intro z3 (And.intro z4 (And.intro z5 (And.intro z6 (And.intro z7 (And.intro z8 (And.intro z9 (And.intro x0 (And.intro x1 (And.intro x2 (And.intro x3 (And.intro x4 (And.intro x5 (And.intro x6 (And.intro x7 (And.intro x8 (And.intro x9 (And.intro x10 x11))))))))))))))))))))) ?_ ?_
          rotate_left
          · (intro y hy; simp only [List.getElem_toArray, List.getElem_cons_zero, List.getElem_cons_succ]; go_simp; try with_reducible rfl)
          simp only [List.getElem_toArray, List.getElem_cons_zero, List.getElem_cons_succ, Act.put, List.setIfInBounds_toArray, List.set_cons_zero, List.set_cons_succ]
          refine any_take 9 (v := ?_) (by kernel_rfl) (by kernel_rfl) (by kernel_rfl) rfl (fun _ _ _ h => h) (by rfl) (And.intro z0 (And.intro z1 (And.intro z2 (And.intro z3 (And.intro z4 (And.intro z5 (And.intro z6 (And.intro z7 (And.intro z8 (And.intro z9 (And.intro x0 (And.intro x1 (And.intro x2 (And.intro x3 (And.intro x4 (And.intro x5 (And.intro x6 (And.intro x7 (And.intro x8 (And.intro x9 (And.intro x10 x11))))))))))))))))))))) ?_ ?_
          rotate_left
          · (intro y hy; simp only [List.getElem_toArray, List.getElem_cons_zero, List.getElem_cons_succ]; go_simp; try with_reducible rfl)
          simp only [List.getElem_toArray, List.getElem_cons_zero, List.getElem_cons_succ, Act.put, List.setIfInBounds_toArray, List.set_cons_zero, List.set_cons_succ]
          refine any_fork [11] (by kernel_rfl) (by simp) ?_
          refine fork_one ?_
          obtain ⟨p0, p1, p2, p3, p4, p5, p6, p7, p8, p9⟩ := zr_at Z2.out
          have pf := zr_fz Z2.out
          have pl := Z2.out.lt
          refine any_op rfl (fun K' hK => ?_)
          simp only [List.getElem_toArray, List.getElem_cons_zero, List.getElem_cons_succ]
          go_simp
          obtain ⟨W, eW⟩ : ∃ W, W = ((((((((((u2.setCell ⟨q, 0, none⟩ (.string Y.key)).setCell ⟨q, 1, none⟩ (.int .i64 Y.lo)).setCell ⟨q, 2, none⟩ (.int .i64 Y.hi)).setCell ⟨q, 3, none⟩ (.int .i64 Y.base)).setCell ⟨q, 4, none⟩ (.int .i64 Y.rd)).setCell ⟨q, 5, none⟩ (.slice ay ny cy)).setCell ⟨q, 6, none⟩ (.int .i64 Y.lk.c)).setCell ⟨q, 7, none⟩ (.int .i64 Y.lk.s)).setCell ⟨q, 8, none⟩ (.int .i64 Y.lk.h)).setCell ⟨q, 9, none⟩ (.int .i64 Y.lk.n)) := ⟨_, rfl⟩
          have WB : Hid (Below w.heap.size w W) := by show Below _ _ _; rw [eW]; exact ten_below Y ay ny cy B2.out (by have := LQ.out; have := G0.out; omega)
          have WA : Hid (Ab W g0 X ax nx cx) := by show Ab _ _ _ _ _ _; rw [eW]; exact ⟨(ten_far Y ay ny cy (by have := LQ.out; have := G0.out; omega)).trans A2.out.row⟩
          have WY : Hid (Ab W q Y ay ny cy) := by show Ab _ _ _ _ _ _; rw [eW]; exact ten_put Y ay ny cy Z2.out
          have WX : Hid (Hs W ax nx X.hs) := by show Rl _ _ _ _ _ _ _; rw [eW]; exact ten_rl Y ay ny cy X2.out AQX.out
          have WYS : Hid (Hs W ay ny Y.hs) := by show Rl _ _ _ _ _ _ _; rw [eW]; exact ten_rl Y ay ny cy Y2.out AQY.out
          have WN : Hid (Rl oenc 12 96 W (some ⟨ob, ooff, none⟩) ns script) := by show Rl _ _ _ _ _ _ _; rw [eW]; exact ten_rl Y ay ny cy N2.out (AWN.out q (by have := LQ.out; have := G0.out; omega))
          have WP : Hid (Rl ienc 1 8 W sp np spent) := by show Rl _ _ _ _ _ _ _; rw [eW]; exact ten_rl Y ay ny cy P2.out (AWP.out q (by have := LQ.out; have := G0.out; omega))
          have WO : Hid (W.rangeAt ob (ooff + k * 12) (oenc o)) := range_same O2.out (by rw [eW]; exact ten_far Y ay ny cy (by have := LQ.out; have := G0.out; omega))
          rw [← eW]
          clear eW p0 p1 p2 p3 p4 p5 p6 p7 p8 p9 pf pl z0 z1 z2 z3 z4 z5 z6 z7 z8 z9 x0 x1 x2 x3 x4 x5 x6 x7 x8 x9 x10 x11
          obtain ⟨z0, z1, z2, z3, z4, z5, z6, z7, z8, z9⟩ := WA.out.at_
          obtain ⟨x0, x1, x2, x3, x4, x5, x6, x7, x8, x9, x10, x11⟩ := op_cells WO.out
          refine hK _ _ ⟨(And.intro z0 (And.intro z1 (And.intro z2 (And.intro z3 (And.intro z4 (And.intro z5 (And.intro z6 (And.intro z7 (And.intro z8 (And.intro z9 (And.intro x0 (And.intro x1 (And.intro x2 (And.intro x3 (And.intro x4 (And.intro x5 (And.intro x6 (And.intro x7 (And.intro x8 (And.intro x9 (And.intro x10 x11))))))))))))))))))))), ?_⟩
          clear hK K'
          refine any_take 12 (v := ?_) (by kernel_rfl) (by kernel_rfl) (by kernel_rfl) rfl (fun _ _ _ h => h) (by rfl) (And.intro z0 (And.intro z1 (And.intro z2 (And.intro z3 (And.intro z4 (And.intro z5 (And.intro z6 (And.intro z7 (And.intro z8 (And.intro z9 (And.intro x0 (And.intro x1 (And.intro x2 (And.intro x3 (And.intro x4 (And.intro x5 (And.intro x6 (And.intro x7 (And.intro x8 (And.intro x9 (And.intro x10 x11))))))))))))))))))))) ?_ ?_
          rotate_left
          · (intro y hy; simp only [List.getElem_toArray, List.getElem_cons_zero, List.getElem_cons_succ]; go_simp; try with_reducible rfl)
          simp only [List.getElem_toArray, List.getElem_cons_zero, List.getElem_cons_succ, Act.put, List.setIfInBounds_toArray, List.set_cons_zero, List.set_cons_succ]
          refine any_done (by kernel_rfl) ?_
          go_wp2_with fail
          go_meet
          case rel => exact ⟨q, ay, ny, cy, rfl, rfl, WB.out, WA.out, WY.out, WX.out, WYS.out, CY.out, AYS.out, WN.out, WP.out, LQ.out.1⟩
        case rest =>
          obtain ⟨q, ay, ny, cy, rfl, rfl, HB2, HA2, HY2, HX2, HYS, HCY, AWY, N2, P2, HQ⟩ := hcut
          rename_i wc
          by_cases he : E = 0
          · have RS : Hid (Right Y ∧ AcW Y) := by
              have e1 : stepE X o nodes = 0 := EE.out.trans he
              have r1 := right_step HR.out.2 e1
              have w1 := acw_step (nodes := nodes) HR.out.2 OW.out
              rw [EY.out] at r1 w1
              exact ⟨r1.1, w1⟩
            obtain ⟨z0, z1, z2, z3, z4, z5, z6, z7, z8, z9⟩ := HA2.out.at_
            have zl := HA2.out.lt
            obtain ⟨y0, y1, y2, y3, y4, y5, y6, y7, y8, y9⟩ := HY2.out.at_
            have yl := HY2.out.lt
            have hq0 : ¬ q = g0 := by have := HQ.out; omega
            go_upto_region 11 with fail
            go_wp2_with (refine wpList_store_row rfl 28 (.tmp 13) (.tmp 51) rfl (g0) #[.string Y.key, .int .i64 Y.lo, .int .i64 Y.hi, .int .i64 Y.base, .int .i64 Y.rd, .slice ay ny cy, .int .i64 Y.lk.c, .int .i64 Y.lk.s, .int .i64 Y.lk.h, .int .i64 Y.lk.n] rfl rfl 28 #[.string X.key, .int .i64 X.lo, .int .i64 X.hi, .int .i64 X.base, .int .i64 X.rd, .slice ax nx cx, .int .i64 X.lk.c, .int .i64 X.lk.s, .int .i64 X.lk.h, .int .i64 X.lk.n] HA2.out.row ac_info rfl (by simp [Value.oneCell']) ?_)
            clear z0 z1 z2 z3 z4 z5 z6 z7 z8 z9 zl y0 y1 y2 y3 y4 y5 y6 y7 y8 y9 yl
            go_roundw
            case rel => exact ⟨k + 1, Y, ay, ny, cy, by omega, by go_num, RS.out, below_setRow HB2.out G0.out _, HA2.out.row_self, rl_row HYS.out AWY.out, HCY.out, AWY.out, rl_row N2.out (AWN.out _ G0.out), rl_row P2.out (AWP.out _ G0.out)⟩
            case measure => simp [intOf]; omega
          · have he2 : (E == 0) = false := by simpa using he
            go_wp2_with fail
            go_roundw
            case rel => exact ⟨k + 1, X, ax, nx, cx, by omega, by go_num, HR.out, HB2.out, HA2.out, HX2.out, HC.out, AWX.out, N2.out, P2.out⟩
            case measure => simp [intOf]; omega
      · skip
        obtain rfl : k = ns := by omega
        have hn5 : nx ≤ 5 := by have := hs_length HR.out.1.hs; have := HX.out.len; omega
        have HN5 := hide hn5
        have HLX : Hid (X.hs.length = nx) := HX.out.len
        clear AWX N SW AWN HC hslen hsroom hlt hk hn5
        go_upto_region 12 with fail
        go_cut [17] from 52 to 55 (fun v17 wc => ∃ q5, v17 = .pointer (some ⟨q5, 0, none⟩) ∧ Hid (Below w.heap.size w wc) ∧ Hid (Ab wc g0 X ax nx cx) ∧ Hid (Hs wc ax nx X.hs) ∧ Hid (Rl ienc 1 8 wc sp np spent) ∧ Hid (Wb wc q5 X.base) ∧ Hid (g0 < q5) ∧ Hid (Aw q5 ax nx))
        case first =>
          have hba := below_new wr (.cells #[.int .i64 X.base] 3)
          obtain ⟨z0, z1, z2, z3, z4, z5, z6, z7, z8, z9⟩ := HA.out.at_
          have zl := HA.out.lt
          go_wp2_with fail
          refine (of_one (v := X.base) (by rw [cell_of_row _ _ _ _ _ _ (heap_alloc_new wr _)]; rfl) HR.out.2.base).mono ?_
          rintro e u1 ⟨rfl, hb⟩
          have hB : Below wr.heap.size wr u1 := hba.trans (hb.mono hba.size)
          obtain ⟨u2, eu2, hb2, hw2⟩ := wb_new u1 X.base
          have hB2 := hB.trans (hb2.mono hB.size)
          have WB : Hid (Below w.heap.size w u2) := HB.out.trans (hB2.mono HB.out.size)
          have WA := hide (HA.out.below hB2)
          have WX := hide (HX.out.below hB2)
          have WP := hide (P.out.below hB2)
          have WZ := hide hw2
          have LQ : Hid (g0 < u1.heap.size) := Nat.lt_of_lt_of_le HA.out.lt hB.size
          have AQ : Hid (Aw u1.heap.size ax nx) := aw_rl HX.out hB.size
          have EU := hide eu2
          clear hba hb hB hb2 hw2 hB2 eu2 z0 z1 z2 z3 z4 z5 z6 z7 z8 z9 zl
          go_wp2_with fail
          rw [← EU.out]
          go_meet
          case rel => exact ⟨u1.heap.size, rfl, WB.out, WA.out, WX.out, WP.out, WZ.out, LQ.out, AQ.out⟩
        case rest =>
          obtain ⟨q5, rfl, HB2, HA2, HX2, P2, HZ2, LQ, AQ⟩ := hcut
          rename_i wc
          clear HB HA HX P
          go_wp2_with fail
          go_loopw [18] (fun iv wr => ∃ (k : Nat) (S : Int), k ≤ nx ∧ iv = .int .i64 k ∧ Hid (-downs (X.hs.take k) ≤ S ∧ S ≤ ups (X.hs.take k)) ∧ Hid (Below w.heap.size w wr) ∧ Hid (Ab wr g0 X ax nx cx) ∧ Hid (Hs wr ax nx X.hs) ∧ Hid (Rl ienc 1 8 wr sp np spent) ∧ Hid (Wb wr q5 (X.base + S))) (fun iv _ => nx - (intOf iv).toNat)
          case atStart =>
            refine ⟨0, 0, Nat.zero_le _, rfl, ⟨by simp [downs], by simp [ups]⟩, HB2.out, HA2.out, HX2.out, P2.out, ?_⟩
            show Wb _ _ _
            rw [Int.add_zero]
            exact HZ2.out
          case round =>
            clear HB2 HA2 HX2 P2 HZ2
            obtain ⟨k, S, hk, rfl, HS, HB, HA, HX, P, HZ⟩ := hrel
            obtain ⟨z, ez⟩ : ∃ z, z = X.base + S := ⟨_, rfl⟩
            rw [← ez] at HZ
            have EZ := hide ez
            clear ez
            by_cases hlt : k < nx
            · by_cases hlp : k < np
              · obtain ⟨bb, off, x, rfl, hx, hbl, M⟩ := hs_at HX.out hlt
                obtain ⟨pb, poff, p, rfl, hpx, hpl, hpc⟩ := P.out.at_ hlp
                have cp : wr.cell? ⟨pb, poff + k, none⟩ = some (.int .i64 p) := by have := hpc 0 _ rfl; simpa using this
                obtain ⟨c0, c1, c2, c3⟩ := M
                have XP := hd_facts (hs_mem HR.out.1.hs x (List.mem_of_getElem? hx)).2
                have xw := HR.out.2.hs x (List.mem_of_getElem? hx)
                have pw : I64 p := PI.out p (List.mem_of_getElem? hpx)
                have VI : Hid (I64 (max (-x.dn) (min p x.up))) := by
                  have h1 := xw.up
                  have h2 := xw.dn
                  show I64 _
                  unfold I64 at *
                  omega
                have SUM : Hid (-downs (X.hs.take (k + 1)) ≤ S + max (-x.dn) (min p x.up) ∧ S + max (-x.dn) (min p x.up) ≤ ups (X.hs.take (k + 1))) := sum_le hx HS.out ⟨by omega, by omega⟩
                have kn : IntKind.i64.wrap (-x.dn) = -x.dn := by have := xw.dn; rw [IntKind.wrap_i64]; unfold I64 at this; omega
                have HZB : Hid (-19807040628566084398385987584 ≤ z ∧ z ≤ 19807040628566084398385987584) := by
                  have h1 := sums_le k HR.out.1.hs
                  have h2 := HR.out.1.up
                  have h3 := HR.out.1.dn
                  have h4 := HR.out.2.lo
                  have h5 := HR.out.2.hi
                  have h6 := HS.out
                  have h7 := EZ.out
                  show _ ∧ _
                  unfold I64 at h4 h5
                  omega
                have i1 : (k : Int) < (nx : Int) := by omega
                have i2 : (0 : Int) ≤ (k : Int) := by omega
                have i3 : (k : Int) < (np : Int) := by omega
                obtain ⟨z0, z1, z2, z3, z4, z5, z6, z7, z8, z9⟩ := HA.out.at_
                have zl := HA.out.lt
                clear hx hbl hpx hpl hpc XP xw pw
                go_upto_region 16 with fail
                clear z0 z1 z2 z3 z4 z5 z6 z7 z8 z9 zl
                refine region_tree (n := 22) (fun v => v.cell? ⟨g0, 5, none⟩ = some (.slice (some ⟨bb, off, none⟩) nx cx) ∧ v.cell? ⟨bb, off + k * 4 + 2, none⟩ = some (.int .i64 x.up) ∧ v.cell? ⟨bb, off + k * 4 + 3, none⟩ = some (.int .i64 x.dn) ∧ v.cell? ⟨pb, poff + k, none⟩ = some (.int .i64 p)) (by kernel_rfl) (by kernel_rfl) ?_
                have B0 : Hid (Below w.heap.size w wr.drew) := ⟨HB.out.os, HB.out.tape, HB.out.output, HB.out.size, HB.out.block⟩
                have A0 : Hid (Ab wr.drew g0 X (some ⟨bb, off, none⟩) nx cx) := ⟨HA.out.row⟩
                have X0 : Hid (Hs wr.drew (some ⟨bb, off, none⟩) nx X.hs) := HX.out.drew 1
                have P0 : Hid (Rl ienc 1 8 wr.drew (some ⟨pb, poff, none⟩) np spent) := P.out.drew 1
                have Z0 : Hid (Wb wr.drew q5 z) := ⟨HZ.out.row⟩
                have d20 : wr.drew.cell? ⟨bb, off + k * 4 + 2, none⟩ = some (.int .i64 x.up) := c2
                have d30 : wr.drew.cell? ⟨bb, off + k * 4 + 3, none⟩ = some (.int .i64 x.dn) := c3
                have e0 : wr.drew.cell? ⟨pb, poff + k, none⟩ = some (.int .i64 p) := cp
                generalize wr.drew = u0 at B0 A0 X0 P0 Z0 d20 d30 e0 ⊢
                clear c0 c1 c2 c3 cp
                have s0 := A0.out.at_.c5
                refine any_take 1 (v := ?_) (by kernel_rfl) (by kernel_rfl) (by kernel_rfl) rfl (fun _ _ _ h => h) (by rfl) (And.intro s0 (And.intro d20 (And.intro d30 e0))) ?_ ?_
                rotate_left
                · (intro y hy; simp only [List.getElem_toArray, List.getElem_cons_zero, List.getElem_cons_succ]; go_simp; try with_reducible rfl)
                simp only [List.getElem_toArray, List.getElem_cons_zero, List.getElem_cons_succ, Act.put, List.setIfInBounds_toArray, List.set_cons_zero, List.set_cons_succ]
                refine any_take 2 (v := ?_) (by kernel_rfl) (by kernel_rfl) (by kernel_rfl) rfl (fun _ _ _ h => h) (by rfl) (And.intro s0 (And.intro d20 (And.intro d30 e0))) ?_ ?_
                rotate_left
                · (intro y hy; obtain ⟨q0, q1, q2, q3⟩ := hy; simp only [List.getElem_toArray, List.getElem_cons_zero, List.getElem_cons_succ]; go_simp; try with_reducible rfl)
                simp only [List.getElem_toArray, List.getElem_cons_zero, List.getElem_cons_succ, Act.put, List.setIfInBounds_toArray, List.set_cons_zero, List.set_cons_succ]
                refine any_take 3 (v := ?_) (by kernel_rfl) (by kernel_rfl) (by kernel_rfl) rfl (fun _ _ _ h => h) (by rfl) (And.intro s0 (And.intro d20 (And.intro d30 e0))) ?_ ?_
                rotate_left
                · (intro y hy; simp only [List.getElem_toArray, List.getElem_cons_zero, List.getElem_cons_succ]; go_simp; try with_reducible rfl)
                simp only [List.getElem_toArray, List.getElem_cons_zero, List.getElem_cons_succ, Act.put, List.setIfInBounds_toArray, List.set_cons_zero, List.set_cons_succ]
                refine any_take 4 (v := ?_) (by kernel_rfl) (by kernel_rfl) (by kernel_rfl) rfl (fun _ _ _ h => h) (by rfl) (And.intro s0 (And.intro d20 (And.intro d30 e0))) ?_ ?_
                rotate_left
                · (intro y hy; simp only [List.getElem_toArray, List.getElem_cons_zero, List.getElem_cons_succ]; go_simp; try with_reducible rfl)
                simp only [List.getElem_toArray, List.getElem_cons_zero, List.getElem_cons_succ, Act.put, List.setIfInBounds_toArray, List.set_cons_zero, List.set_cons_succ]
                refine any_take 5 (v := ?_) (by kernel_rfl) (by kernel_rfl) (by kernel_rfl) rfl (fun _ _ _ h => h) (by rfl) (And.intro s0 (And.intro d20 (And.intro d30 e0))) ?_ ?_
                rotate_left
                · (intro y hy; simp only [List.getElem_toArray, List.getElem_cons_zero, List.getElem_cons_succ]; go_simp; try with_reducible rfl)
                simp only [List.getElem_toArray, List.getElem_cons_zero, List.getElem_cons_succ, Act.put, List.setIfInBounds_toArray, List.set_cons_zero, List.set_cons_succ]
                refine any_take 6 (v := ?_) (by kernel_rfl) (by kernel_rfl) (by kernel_rfl) rfl (fun _ _ _ h => h) (by rfl) (And.intro s0 (And.intro d20 (And.intro d30 e0))) ?_ ?_
                rotate_left
                · (intro y hy; obtain ⟨q0, q1, q2, q3⟩ := hy; simp only [List.getElem_toArray, List.getElem_cons_zero, List.getElem_cons_succ]; go_simp; try with_reducible rfl)
                simp only [List.getElem_toArray, List.getElem_cons_zero, List.getElem_cons_succ, Act.put, List.setIfInBounds_toArray, List.set_cons_zero, List.set_cons_succ]
                refine any_take 7 (v := ?_) (by kernel_rfl) (by kernel_rfl) (by kernel_rfl) rfl (fun _ _ _ h => h) (by rfl) (And.intro s0 (And.intro d20 (And.intro d30 e0))) ?_ ?_
                rotate_left
                · (intro y hy; simp only [List.getElem_toArray, List.getElem_cons_zero, List.getElem_cons_succ]; go_simp; try with_reducible rfl)
                simp only [List.getElem_toArray, List.getElem_cons_zero, List.getElem_cons_succ, Act.put, List.setIfInBounds_toArray, List.set_cons_zero, List.set_cons_succ]
                refine any_take 8 (v := ?_) (by kernel_rfl) (by kernel_rfl) (by kernel_rfl) rfl (fun _ _ _ h => h) (by rfl) (And.intro s0 (And.intro d20 (And.intro d30 e0))) ?_ ?_
                rotate_left
                · (intro y hy; simp only [List.getElem_toArray, List.getElem_cons_zero, List.getElem_cons_succ]; go_simp; try with_reducible rfl)
                simp only [List.getElem_toArray, List.getElem_cons_zero, List.getElem_cons_succ, Act.put, List.setIfInBounds_toArray, List.set_cons_zero, List.set_cons_succ]
                refine any_take 9 (v := ?_) (by kernel_rfl) (by kernel_rfl) (by kernel_rfl) rfl (fun _ _ _ h => h) (by rfl) (And.intro s0 (And.intro d20 (And.intro d30 e0))) ?_ ?_
                rotate_left
                · (intro y hy; simp only [List.getElem_toArray, List.getElem_cons_zero, List.getElem_cons_succ]; go_simp; try with_reducible rfl)
                simp only [List.getElem_toArray, List.getElem_cons_zero, List.getElem_cons_succ, Act.put, List.setIfInBounds_toArray, List.set_cons_zero, List.set_cons_succ]
                refine any_take 10 (v := ?_) (by kernel_rfl) (by kernel_rfl) (by kernel_rfl) rfl (fun _ _ _ h => h) (by rfl) (And.intro s0 (And.intro d20 (And.intro d30 e0))) ?_ ?_
                rotate_left
                · (intro y hy; simp only [List.getElem_toArray, List.getElem_cons_zero, List.getElem_cons_succ]; go_simp; try with_reducible rfl)
                simp only [List.getElem_toArray, List.getElem_cons_zero, List.getElem_cons_succ, Act.put, List.setIfInBounds_toArray, List.set_cons_zero, List.set_cons_succ]
                refine any_take 11 (v := ?_) (by kernel_rfl) (by kernel_rfl) (by kernel_rfl) rfl (fun _ _ _ h => h) (by rfl) (And.intro s0 (And.intro d20 (And.intro d30 e0))) ?_ ?_
                rotate_left
                · (intro y hy; obtain ⟨q0, q1, q2, q3⟩ := hy; simp only [List.getElem_toArray, List.getElem_cons_zero, List.getElem_cons_succ]; go_simp; try with_reducible rfl)
                simp only [List.getElem_toArray, List.getElem_cons_zero, List.getElem_cons_succ, Act.put, List.setIfInBounds_toArray, List.set_cons_zero, List.set_cons_succ]
                refine any_take 12 (v := ?_) (by kernel_rfl) (by kernel_rfl) (by kernel_rfl) rfl (fun _ _ _ h => h) (by rfl) (And.intro s0 (And.intro d20 (And.intro d30 e0))) ?_ ?_
                rotate_left
                · (intro y hy; simp only [List.getElem_toArray, List.getElem_cons_zero, List.getElem_cons_succ]; go_simp; try with_reducible rfl)
                simp only [List.getElem_toArray, List.getElem_cons_zero, List.getElem_cons_succ, Act.put, List.setIfInBounds_toArray, List.set_cons_zero, List.set_cons_succ]
                refine any_take 13 (v := ?_) (by kernel_rfl) (by kernel_rfl) (by kernel_rfl) rfl (fun _ _ _ h => h) (by rfl) (And.intro s0 (And.intro d20 (And.intro d30 e0))) ?_ ?_
                rotate_left
                · (intro y hy; obtain ⟨q0, q1, q2, q3⟩ := hy; simp only [List.getElem_toArray, List.getElem_cons_zero, List.getElem_cons_succ]; go_simp; try with_reducible rfl)
                simp only [List.getElem_toArray, List.getElem_cons_zero, List.getElem_cons_succ, Act.put, List.setIfInBounds_toArray, List.set_cons_zero, List.set_cons_succ]
                refine any_take 14 (v := ?_) (by kernel_rfl) (by kernel_rfl) (by kernel_rfl) rfl (fun _ _ _ h => h) (by rfl) (And.intro s0 (And.intro d20 (And.intro d30 e0))) ?_ ?_
                rotate_left
                · (intro y hy; simp only [List.getElem_toArray, List.getElem_cons_zero, List.getElem_cons_succ]; go_simp; try with_reducible rfl)
                simp only [List.getElem_toArray, List.getElem_cons_zero, List.getElem_cons_succ, Act.put, List.setIfInBounds_toArray, List.set_cons_zero, List.set_cons_succ]
                refine any_take 15 (v := ?_) (by kernel_rfl) (by kernel_rfl) (by kernel_rfl) rfl (fun _ _ _ h => h) (by rfl) (And.intro s0 (And.intro d20 (And.intro d30 e0))) ?_ ?_
                rotate_left
                · (intro y hy; simp only [List.getElem_toArray, List.getElem_cons_zero, List.getElem_cons_succ]; go_simp; try with_reducible rfl)
                simp only [List.getElem_toArray, List.getElem_cons_zero, List.getElem_cons_succ, Act.put, List.setIfInBounds_toArray, List.set_cons_zero, List.set_cons_succ]
                refine any_take 16 (v := ?_) (by kernel_rfl) (by kernel_rfl) (by kernel_rfl) rfl (fun _ _ _ h => h) (by rfl) (And.intro s0 (And.intro d20 (And.intro d30 e0))) ?_ ?_
                rotate_left
                · (intro y hy; simp only [List.getElem_toArray, List.getElem_cons_zero, List.getElem_cons_succ]; go_simp; try with_reducible rfl)
                simp only [List.getElem_toArray, List.getElem_cons_zero, List.getElem_cons_succ, Act.put, List.setIfInBounds_toArray, List.set_cons_zero, List.set_cons_succ]
                refine any_take 17 (v := ?_) (by kernel_rfl) (by kernel_rfl) (by kernel_rfl) rfl (fun _ _ _ h => h) (by rfl) (And.intro s0 (And.intro d20 (And.intro d30 e0))) ?_ ?_
                rotate_left
                · (intro y hy; obtain ⟨q0, q1, q2, q3⟩ := hy; simp only [List.getElem_toArray, List.getElem_cons_zero, List.getElem_cons_succ]; go_simp; try with_reducible rfl)
                simp only [List.getElem_toArray, List.getElem_cons_zero, List.getElem_cons_succ, Act.put, List.setIfInBounds_toArray, List.set_cons_zero, List.set_cons_succ]
                refine any_take 18 (v := ?_) (by kernel_rfl) (by kernel_rfl) (by kernel_rfl) rfl (fun _ _ _ h => h) (by rfl) (And.intro s0 (And.intro d20 (And.intro d30 e0))) ?_ ?_
                rotate_left
                · (intro y hy; simp only [List.getElem_toArray, List.getElem_cons_zero, List.getElem_cons_succ]; go_simp; try with_reducible rfl)
                simp only [List.getElem_toArray, List.getElem_cons_zero, List.getElem_cons_succ, Act.put, List.setIfInBounds_toArray, List.set_cons_zero, List.set_cons_succ]
                refine any_take 19 (v := ?_) (by kernel_rfl) (by kernel_rfl) (by kernel_rfl) rfl (fun _ _ _ h => h) (by rfl) (And.intro s0 (And.intro d20 (And.intro d30 e0))) ?_ ?_
                rotate_left
                · (intro y hy; simp only [List.getElem_toArray, List.getElem_cons_zero, List.getElem_cons_succ]; go_simp; try with_reducible rfl)
                simp only [List.getElem_toArray, List.getElem_cons_zero, List.getElem_cons_succ, Act.put, List.setIfInBounds_toArray, List.set_cons_zero, List.set_cons_succ]
                refine any_fork [0] (by kernel_rfl) (by simp) ?_
                refine fork_one ?_
                obtain ⟨p0, p1⟩ := Z0.out.at_
                refine any_op rfl (fun K' hK => ?_)
                simp only [List.getElem_toArray, List.getElem_cons_zero]
                go_simp
                refine hK _ _ ⟨(And.intro s0 (And.intro d20 (And.intro d30 e0))), ?_⟩
                clear hK K' p0 p1
                refine any_fork [20] (by kernel_rfl) (by simp) ?_
                refine fork_one ?_
                refine any_op rfl (fun K' hK => ?_)
                simp only [List.getElem_toArray, List.getElem_cons_zero, List.getElem_cons_succ]
                go_simp
                refine (plus_w (z := z) (n := max (-x.dn) (min p x.up)) _ HZB.out.1 HZB.out.2 VI.out).mono ?_
                rintro e u1 ⟨rfl, hb⟩
                have lb : bb < u0.heap.size := World.block_lt_of_cell? u0 _ d20
                have lp : pb < u0.heap.size := World.block_lt_of_cell? u0 _ e0
                have B1 : Hid (Below w.heap.size w u1) := B0.out.trans (hb.mono B0.out.size)
                have A1 := hide (A0.out.below hb)
                have X1 := hide (X0.out.below hb)
                have P1 := hide (P0.out.below hb)
                have Z1 := hide (Z0.out.below hb)
                have d21 := (hb.cell (p := ⟨bb, off + k * 4 + 2, none⟩) lb).trans d20
                have d31 := (hb.cell (p := ⟨bb, off + k * 4 + 3, none⟩) lb).trans d30
                have e1 := (hb.cell (p := ⟨pb, poff + k, none⟩) lp).trans e0
                have s1 := A1.out.at_.c5
                clear hb
                refine hK _ _ ⟨(And.intro s1 (And.intro d21 (And.intro d31 e1))), ?_⟩
                clear hK K'
                refine any_fork [21] (by kernel_rfl) (by simp) ?_
                refine fork_one ?_
                obtain ⟨p0, p1⟩ := Z1.out.at_
                have pf := Z1.out.fz
                have ps : ¬ q5 = g0 := by have := LQ.out; omega
                have qb : ¬ q5 = bb := fun e => AQ.out (by omega) _ rfl e.symm
                have qp : ¬ q5 = pb := fun e => AWP.out q5 (by have := LQ.out; have := G0.out; omega) (by omega) _ rfl e.symm
                refine any_op rfl (fun K' hK => ?_)
                simp only [List.getElem_toArray, List.getElem_cons_zero, List.getElem_cons_succ]
                go_simp
                obtain ⟨W, eW⟩ : ∃ W, W = (u1.setCell ⟨q5, 0, none⟩ (.int .i64 (hiOf (z + max (-x.dn) (min p x.up))))).setCell ⟨q5, 1, none⟩ (.int .u64 (loOf (z + max (-x.dn) (min p x.up)))) := ⟨_, rfl⟩
                have WB : Hid (Below w.heap.size w W) := by show Below _ _ _; rw [eW]; exact (B1.out.setCell (p := ⟨q5, 0, none⟩) (show w.heap.size ≤ q5 by have := LQ.out; have := G0.out; omega) _).setCell (p := ⟨q5, 1, none⟩) (show w.heap.size ≤ q5 by have := LQ.out; have := G0.out; omega) _
                have WA : Hid (Ab W g0 X (some ⟨bb, off, none⟩) nx cx) := by show Ab _ _ _ _ _ _; rw [eW]; exact (A1.out.put_far (fun e => ps e.symm)).put_far (fun e => ps e.symm)
                have WX : Hid (Hs W (some ⟨bb, off, none⟩) nx X.hs) := by show Rl _ _ _ _ _ _ _; rw [eW]; exact rl_put (rl_put X1.out AQ.out) AQ.out
                have WP : Hid (Rl ienc 1 8 W (some ⟨pb, poff, none⟩) np spent) := by show Rl _ _ _ _ _ _ _; rw [eW]; exact rl_put (rl_put P1.out (AWP.out q5 (by have := LQ.out; have := G0.out; omega))) (AWP.out q5 (by have := LQ.out; have := G0.out; omega))
                have WZ : Hid (Wb W q5 (z + max (-x.dn) (min p x.up))) := by show Wb _ _ _; rw [eW]; exact Z1.out.put _
                have sW := cellp_put (x := .int .i64 (hiOf (z + max (-x.dn) (min p x.up)))) (y := .int .u64 (loOf (z + max (-x.dn) (min p x.up)))) s1 ps
                have d2W := cellp_put (x := .int .i64 (hiOf (z + max (-x.dn) (min p x.up)))) (y := .int .u64 (loOf (z + max (-x.dn) (min p x.up)))) d21 qb
                have d3W := cellp_put (x := .int .i64 (hiOf (z + max (-x.dn) (min p x.up)))) (y := .int .u64 (loOf (z + max (-x.dn) (min p x.up)))) d31 qb
                have eW2 := cellp_put (x := .int .i64 (hiOf (z + max (-x.dn) (min p x.up)))) (y := .int .u64 (loOf (z + max (-x.dn) (min p x.up)))) e1 qp
                rw [← eW] at sW d2W d3W eW2 ⊢
                clear eW p0 p1 pf
                refine hK _ _ ⟨(And.intro sW (And.intro d2W (And.intro d3W eW2))), ?_⟩
                clear hK K'
                refine any_done (by kernel_rfl) ?_
                have hn5 := HN5.out
                go_wp2_with fail
                go_roundw
                case rel =>
                  refine ⟨k + 1, S + max (-x.dn) (min p x.up), by omega, by go_num, SUM.out, WB.out, WA.out, WX.out, WP.out, ?_⟩
                  show Wb _ _ _
                  rw [← Int.add_assoc, ← EZ.out]
                  exact WZ.out
                case measure => simp [intOf]; omega
              · have i1 : (k : Int) < (nx : Int) := by omega
                have i3 : ¬ (k : Int) < (np : Int) := by omega
                have HSL := sums_le k HR.out.1.hs
                have hI : I64 z := by
                  have h1 := HR.out.1.up
                  have h2 := HR.out.1.dn
                  have h3 := HR.out.2.lo
                  have h4 := HR.out.2.hi
                  have h5 := HS.out
                  have h6 := EZ.out
                  unfold I64 at *
                  omega
                have g1 : X.lo ≤ z := by
                  have h2 := HR.out.1.dn
                  have h5 := HS.out
                  have h6 := EZ.out
                  omega
                have g2 : z ≤ X.hi := by
                  have h2 := HR.out.1.up
                  have h5 := HS.out
                  have h6 := EZ.out
                  omega
                obtain ⟨p0, p1⟩ := HZ.out.at_
                have pl := HZ.out.lt
                obtain ⟨z0, z1, z2, z3, z4, z5, z6, z7, z8, z9⟩ := HA.out.at_
                have zl := HA.out.lt
                go_wp2_with fail
                refine (int_yes z _ hI.1 hI.2).mono ?_
                rintro e w20 ⟨rfl, hb⟩
                have HB3 : Hid (Below w.heap.size w w20) := HB.out.trans (hb.mono HB.out.size)
                have HA3 := hide (HA.out.below hb)
                clear hb z0 z1 z2 z3 z4 z5 z6 z7 z8 z9 zl p0 p1 pl HSL
                obtain ⟨z0, z1, z2, z3, z4, z5, z6, z7, z8, z9⟩ := HA3.out.at_
                have zl := HA3.out.lt
                go_wp2_with fail
                go_returns
                exact ⟨by first | rfl | (simp <;> omega), HB3.out⟩
            · have i1 : ¬ (k : Int) < (nx : Int) := by omega
              have HSL := sums_le k HR.out.1.hs
              have hI : I64 z := by
                have h1 := HR.out.1.up
                have h2 := HR.out.1.dn
                have h3 := HR.out.2.lo
                have h4 := HR.out.2.hi
                have h5 := HS.out
                have h6 := EZ.out
                unfold I64 at *
                omega
              have g1 : X.lo ≤ z := by
                have h2 := HR.out.1.dn
                have h5 := HS.out
                have h6 := EZ.out
                omega
              have g2 : z ≤ X.hi := by
                have h2 := HR.out.1.up
                have h5 := HS.out
                have h6 := EZ.out
                omega
              obtain ⟨p0, p1⟩ := HZ.out.at_
              have pl := HZ.out.lt
              obtain ⟨z0, z1, z2, z3, z4, z5, z6, z7, z8, z9⟩ := HA.out.at_
              have zl := HA.out.lt
              go_wp2_with fail
              refine (int_yes z _ hI.1 hI.2).mono ?_
              rintro e w20 ⟨rfl, hb⟩
              have HB3 : Hid (Below w.heap.size w w20) := HB.out.trans (hb.mono HB.out.size)
              have HA3 := hide (HA.out.below hb)
              clear hb z0 z1 z2 z3 z4 z5 z6 z7 z8 z9 zl p0 p1 pl HSL
              obtain ⟨z0, z1, z2, z3, z4, z5, z6, z7, z8, z9⟩ := HA3.out.at_
              have zl := HA3.out.lt
              go_wp2_with fail
              go_returns
              exact ⟨by first | rfl | (simp <;> omega), HB3.out⟩
  · have RF : rightB A = false := by cases e : rightB A <;> simp_all
    have RFH := hide RF
    have CE : Hid (checkE A = 21) := by show _ = _; unfold checkE; rw [if_neg (by rw [RF]; simp)]
    have EG := hide eg
    clear ew hb1 ha1 hh1 eA hw hr hs hsw hp hpi hkey hlo hhi hbase eg RF
    unfold sval
    go_enter Try.func6, Try.ntmps6
    go_wp2_with fail
    rw [EW.out]
    try rw [← EG.out]
    clear EW
    refine (awake_any _).mono ?_
    rintro e w2 ⟨rfl, hb⟩
    have HB2 : Hid (Below w.heap.size w w2) := HB1.out.trans (hb.mono HB1.out.size)
    replace H := hide (H.out.below hb)
    replace N := hide (N.out.below hb)
    replace P := hide (P.out.below hb)
    replace HA := hide (HA.out.below hb)
    replace HL := hide (Nat.lt_of_lt_of_le HL.out hb.size)
    clear hb HB1
    obtain ⟨z0, z1, z2, z3, z4, z5, z6, z7, z8, z9⟩ := HA.out.at_
    have zl : g0 < w2.heap.size := HA.out.lt
    go_wp2_with fail
    clear z0 z1 z2 z3 z4 z5 z6 z7 z8 z9 zl
    refine (check_x H.out HW.out CE.out).mono ?_
    rintro e w3 ⟨rfl, hb⟩
    have HB3 : Hid (Below w.heap.size w w3) := HB2.out.trans (hb.mono HB2.out.size)
    replace H := hide (H.out.below hb)
    replace N := hide (N.out.below hb)
    replace P := hide (P.out.below hb)
    replace HA := hide (HA.out.below hb)
    replace HL := hide (Nat.lt_of_lt_of_le HL.out hb.size)
    clear hb HB2
    obtain ⟨z0, z1, z2, z3, z4, z5, z6, z7, z8, z9⟩ := HA.out.at_
    have zl : g0 < w3.heap.size := HA.out.lt
    go_wp2_with fail
    clear z0 z1 z2 z3 z4 z5 z6 z7 z8 z9 zl
    refine ((rright_any H.out HW.out)).mono ?_
    rintro e w4 ⟨rfl, hb⟩
    have HB4 : Hid (Below w.heap.size w w4) := HB3.out.trans (hb.mono HB3.out.size)
    replace H := hide (H.out.below hb)
    replace N := hide (N.out.below hb)
    replace P := hide (P.out.below hb)
    replace HA := hide (HA.out.below hb)
    replace HL := hide (Nat.lt_of_lt_of_le HL.out hb.size)
    clear hb HB3
    rw [RFH.out]
    go_wp2_with fail
    go_returns
    exact ⟨rfl, HB4.out⟩

set_option maxRecDepth 100000 in
theorem lifted (os : Os) (started : os.Started) (H : Type) (enc : TypeId × Value → H) :
    ReturnsInHanded {} Try.checked os 6 .any (Rows.accountLentSpec.pre6 enc Try.prog Try.f6 Rows.accountLentRow.domain false) (Rows.accountLentSpec.post enc Try.prog Try.f6 false true false false) := by
  refine returnsInHanded_of_change_sized (C := Try.checked) own started (by kernel_rfl) Try.func6
    (ChangeSpec.witness6 (enc := enc) (C := Try.checked) false ⟨#[], #[.string ByteArray.empty, .agg #[.int .i64 0, .int .i64 0], .int .i64 0, .slice none 0 0, .int .i64 0, .slice none 0 0], []⟩ 8 (by kernel_rfl) (by kernel_rfl) (by kernel_rfl) (by kernel_rfl)) ?_
  intro W base args ds gs before hval0 hW hcnd hsz0 _
  have hsz : (DataW.weightsEach Try.prog (Try.f6.params.toList ++ Rows.accountLentSpec.plain.varTypes Try.prog) (ds ++ gs)).all (· ≤ reachBytes) = true := hsz0
  have hval : ∀ (j : Nat) t v, Try.f6.params[j]? = some t → args[j]? = some v → Value.okWide Try.prog W .any base t v := hval0
  have hW' := hW
  obtain ⟨p, q, hA0, hV, rfl, hfz, hnd⟩ := hW
  have hA : DataW.TrodAll enc Try.prog W 0 (fun _ => true) true Try.f6.params.toList args.toList ds p := hA0
  rw [Try.params6] at hA hval hsz
  obtain ⟨v0, vs0, d0, ds0, p0, q0, hargs, rfl, rfl, h0, r0⟩ := trodAll_cons hA
  obtain ⟨v1, vs1, d1, ds1, p1, q1, rfl, rfl, rfl, h1, r1⟩ := trodAll_cons r0
  obtain ⟨v2, vs2, d2, ds2, p2, q2, rfl, rfl, rfl, h2, r2⟩ := trodAll_cons r1
  obtain ⟨v3, vs3, d3, ds3, p3, q3, rfl, rfl, rfl, h3, r3⟩ := trodAll_cons r2
  obtain ⟨v4, vs4, d4, ds4, p4, q4, rfl, rfl, rfl, h4, r4⟩ := trodAll_cons r3
  obtain ⟨v5, vs5, d5, ds5, p5, q5, rfl, rfl, rfl, h5, r5⟩ := trodAll_cons r4
  obtain ⟨rfl, rfl, rfl⟩ := trodAll_nil r5
  obtain rfl : args = #[v0, v1, v2, v3, v4, v5] := by cases args; simp_all
  obtain ⟨rfl, rfl⟩ := trodVars_none hV
  have lt0 : ∀ x ∈ p0, x.block < W.heap.size := by obtain ⟨m, hm⟩ := h0; exact DataW.trod_lt m _ _ _ hm
  obtain ⟨key, rfl, kk⟩ := open_str (hval 0 9 v0 rfl rfl) h0
  have lt1 : ∀ x ∈ p1, x.block < W.heap.size := by obtain ⟨m, hm⟩ := h1; exact DataW.trod_lt m _ _ _ hm
  obtain ⟨lo, hi, rfl, k1, k2⟩ := open_span_held (hval 1 23 v1 rfl rfl) h1 (fun n hn => by have h := List.all_eq_true.1 hsz n (DataW.weights_mem_each (j := 1) rfl rfl n hn); simpa using h)
  have lt2 : ∀ x ∈ p2, x.block < W.heap.size := by obtain ⟨m, hm⟩ := h2; exact DataW.trod_lt m _ _ _ hm
  obtain ⟨base, rfl, kb⟩ := open_i64 (hval 2 3 v2 rfl rfl) h2
  have lt3 : ∀ x ∈ p3, x.block < W.heap.size := by obtain ⟨m, hm⟩ := h3; exact DataW.trod_lt m _ _ _ hm
  obtain ⟨an, nn, cn, script, rfl, kn, kni⟩ := open_ops_held (hval 3 52 v3 rfl rfl) h3 (fun n hn => by have h := List.all_eq_true.1 hsz n (DataW.weights_mem_each (j := 3) rfl rfl n hn); simpa using h)
  have lt4 : ∀ x ∈ p4, x.block < W.heap.size := by obtain ⟨m, hm⟩ := h4; exact DataW.trod_lt m _ _ _ hm
  obtain ⟨nodes, rfl, kd⟩ := open_i64 (hval 4 3 v4 rfl rfl) h4
  have lt5 : ∀ x ∈ p5, x.block < W.heap.size := by obtain ⟨m, hm⟩ := h5; exact DataW.trod_lt m _ _ _ hm
  obtain ⟨sp, np, cp, spent, rfl, kp, kpi⟩ := open_ints_held (hval 5 54 v5 rfl rfl) h5 (fun n hn => by have h := List.all_eq_true.1 hsz n (DataW.weights_mem_each (j := 5) rfl rfl n hn); simpa using h)
  clear hA0 hval0
  refine (walk kk k1 k2 kb kn kni kp kpi).mono fun e W' ⟨he, bel⟩ => ?_
  subst he
  exact ⟨_, rfl, _, _, _, [], _, [], hW', trodAll_mk1 (shut_bool Try.underlying4 _), (trodAll_cons_mk (Below.trod laidOut (by kernel_rfl) (of_decide_eq_true (by kernel_rfl)) h0 bel lt0) (trodAll_cons_mk (Below.trod laidOut (by kernel_rfl) (of_decide_eq_true (by kernel_rfl)) h1 bel lt1) (trodAll_cons_mk (Below.trod laidOut (by kernel_rfl) (of_decide_eq_true (by kernel_rfl)) h2 bel lt2) (trodAll_cons_mk (Below.trod laidOut (by kernel_rfl) (of_decide_eq_true (by kernel_rfl)) h3 bel lt3) (trodAll_cons_mk (Below.trod laidOut (by kernel_rfl) (of_decide_eq_true (by kernel_rfl)) h4 bel lt4) (trodAll_cons_mk (Below.trod laidOut (by kernel_rfl) (of_decide_eq_true (by kernel_rfl)) h5 bel lt5) trodAll_mk0)))))), rfl, bel.frame _, fun h => by cases h⟩

theorem over : Rows.accountLentRow.holds Try.pinned (OpenSpec.ofChange Rows.accountLentSpec) :=
  OpenClaim.holds_of_wide 6 Try.f6 rfl rfl rfl rfl rfl rfl rfl ⟨rfl, rfl, rfl, rfl, rfl⟩ rfl rfl rfl rfl rfl (by kernel_rfl) Try.func6 (by kernel_rfl)
    (of_decide_eq_true (by kernel_rfl)) (by unfold Func.isWrapper; first | (rw [if_pos (by decide +kernel)]; kernel_rfl) | (rw [if_neg (by decide +kernel)]; exact ⟨rfl, rfl⟩))
    (fun os started H enc _ => lifted os started H enc)

theorem proved : Rows.AccountLentSaid := over
#print axioms proved
end AccountLent
theorem accountLent_holds : Rows.AccountLentSaid := AccountLent.proved
end Go.Proofs.Ytfolpnjndlklkaa
