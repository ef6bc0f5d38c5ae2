/- LedgerOnce: what was spent is what is reported; a report that counts brings just that into Base, and the lease is over; no condition. -/
import Derived.Test.YtjcbhgkfbilifabFLgOnceMath
import Derived.Test.YtjcbhgkfbilifabFLgHelp
import Derived.Test.YtjcbhgkfbilifabFAcoRight
namespace Go.Proofs.Ytjcbhgkfbilifab
namespace LedgerOnce
open Go.ChangeShapes Go.WideShapes Go.ChangeAt Go.RowKit Ao Lg
set_option linter.unusedVariables false

theorem cell_go {w W : World} {x : Addr} {v : Value} (hb : Below w.heap.size w W) (h : w.cell? x = some v) : W.cell? x = some v := (hb.cell (World.block_lt_of_cell? w _ h)).trans h
theorem za_new (u : World) : ∃ (v : World) (g : Nat), v = u.alloc (.cells #[.int .i64 0, .string ⟨#[]⟩, .int .i64 0, .int .i64 0] 38) ∧ g = u.heap.size ∧ Below u.heap.size u v ∧ Hid (v.heap[g]? = some (.cells #[.int .i64 0, .string ⟨#[]⟩, .int .i64 0, .int .i64 0] 38 (0, 0))) := ⟨_, _, rfl, rfl, Below.alloc (Below.refl _ _) (Nat.le_refl _) _, heap_alloc_new u _⟩
theorem rt_new (u : World) (R : Rt) : ∃ v, v = u.alloc (.cells #[.int .i64 R.g, .string R.k, .int .i64 R.ls, .int .i64 R.nt] 38) ∧ Below u.heap.size u v ∧ Rb v u.heap.size R := ⟨_, rfl, Below.alloc (Below.refl _ _) (Nat.le_refl _) _, rb_new u R⟩
/-- a command lies in the block b -/
structure Cb (w : World) (b : Nat) (C : Cmd) : Prop where
  row : w.heap[b]? = some (.cells #[.int .i64 C.kind, .int .i64 0, .int .i64 0, .int .i64 0, .int .i64 C.node, .int .i64 0, .string C.key, .int .i64 C.ls, .int .i64 C.rd, .int .i64 C.nt, .bool false, .int .i64 0, .string ⟨#[]⟩, .string ⟨#[]⟩, .int .i64 0, .int .i64 0, .int .i64 0, .int .i64 0, .int .i64 0, .int .i64 0, .string ⟨#[]⟩, .string ⟨#[]⟩, .int .i64 0, .int .i64 0, .slice none 0 0] 52 (0, 0))
theorem Cb.lt {w : World} {b : Nat} {C : Cmd} (h : Cb w b C) : b < w.heap.size := (Array.getElem?_eq_some_iff.1 h.row).1
theorem Cb.below {w w' : World} {b : Nat} {C : Cmd} (h : Cb w b C) (hb : Below w.heap.size w w') : Cb w' b C := ⟨(hb.block _ h.lt).trans h.row⟩
theorem Cb.at_ {w : World} {b : Nat} {C : Cmd} (h : Cb w b C) : w.cell? ⟨b, 4, none⟩ = some (.int .i64 C.node) ∧ w.cell? ⟨b, 7, none⟩ = some (.int .i64 C.ls) ∧ w.cell? ⟨b, 8, none⟩ = some (.int .i64 C.rd) ∧ w.cell? ⟨b, 9, none⟩ = some (.int .i64 C.nt) := by
  refine ⟨?_, ?_, ?_, ?_⟩ <;> (rw [cell_of_row _ _ _ _ _ _ h.row]; rfl)
theorem cb_new (u : World) (C : Cmd) : ∃ v, v = (u.alloc (.cells #[.int .i64 0, .int .i64 0, .int .i64 0, .int .i64 0, .int .i64 0, .int .i64 0, .string ⟨#[]⟩, .int .i64 0, .int .i64 0, .int .i64 0, .bool false, .int .i64 0, .string ⟨#[]⟩, .string ⟨#[]⟩, .int .i64 0, .int .i64 0, .int .i64 0, .int .i64 0, .int .i64 0, .int .i64 0, .string ⟨#[]⟩, .string ⟨#[]⟩, .int .i64 0, .int .i64 0, .slice none 0 0] 52)).setRow u.heap.size #[.int .i64 C.kind, .int .i64 0, .int .i64 0, .int .i64 0, .int .i64 C.node, .int .i64 0, .string C.key, .int .i64 C.ls, .int .i64 C.rd, .int .i64 C.nt, .bool false, .int .i64 0, .string ⟨#[]⟩, .string ⟨#[]⟩, .int .i64 0, .int .i64 0, .int .i64 0, .int .i64 0, .int .i64 0, .int .i64 0, .string ⟨#[]⟩, .string ⟨#[]⟩, .int .i64 0, .int .i64 0, .slice none 0 0] ∧ Below u.heap.size u v ∧ Cb v u.heap.size C := ⟨_, rfl, below_setRow (Below.alloc (Below.refl _ _) (Nat.le_refl _) _) (Nat.le_refl _) _, ⟨setRow_heap _ _ _ _ _ _ (heap_alloc_new u _)⟩⟩
/-- the account in its block, the holder in p -/
structure On (w W : World) (A : Ac) (a : Option Addr) (n c p : Nat) (X : Hd) : Prop where
  bl : Below w.heap.size w W
  ab : Ab W w.heap.size A a n c
  hk : Hk W p X
theorem On.below {w W W' : World} {A : Ac} {a : Option Addr} {n c p : Nat} {X : Hd} (h : On w W A a n c p X) (hb : Below W.heap.size W W') : On w W' A a n c p X := ⟨h.bl.trans (hb.mono h.bl.size), h.ab.below hb, h.hk.below hb⟩
set_option maxRecDepth 100000 in
set_option maxHeartbeats 40000000 in
theorem walk_wrong {w : World} {a sp : Option Addr} {n c ns cs : Nat} {A : Ac} {node r : Int} {vs : List Int} (hR : rightB A = false) (h : Hs w a n A.hs) (hw : AcW A) (hvs : Rl ienc 1 8 w sp ns vs) (hvi : ∀ x ∈ vs, I64 x) (hn : I64 node) (hr : I64 r) :
    Calls Try.prog 3 #[.agg #[.string A.key, .int .i64 A.lo, .int .i64 A.hi, .int .i64 A.base, .int .i64 A.rd, .slice a n c, .int .i64 A.lk.c, .int .i64 A.lk.s, .int .i64 A.lk.h, .int .i64 A.lk.n], .int .i64 node, .slice sp ns cs, .int .i64 r] w fun e w' => e = .returned (.bool true) ∧ Below w.heap.size w w' := by
  have AWK := fun W => hide (lawake_any W)
  have RR0 := fun W => hide (fun hW : Below w.heap.size w W => rright_any (c := c) (h.below hW) hw)
  have H := hide h
  have HV := hide hvs
  have HVI := hide hvi
  have hvl := hvs.len
  have hvr := hvs.room
  rw [hR] at RR0
  clear h hw hvs hvi hn hr hR hvl hvr
  obtain ⟨w1, ew, hb1, ha1⟩ := one_new w A a n c
  have HB1 := hide hb1
  have HA1 := hide ha1
  clear hb1 ha1
  go_enter Try.func3, Try.ntmps3
  go_wp2_with fail
  rw [← ew]
  clear ew
  refine (AWK _).out.mono ?_
  rintro e w2 ⟨rfl, hb⟩
  have HB2 : Hid (Below w.heap.size w w2) := HB1.out.trans (hb.mono HB1.out.size)
  have HA2 := hide (HA1.out.below hb)
  clear hb HA1 HB1
  obtain ⟨z0, z1, z2, z3, z4, z5, z6, z7, z8, z9⟩ := HA2.out.at_
  go_wp2_with fail
  refine ((RR0 _).out HB2.out).mono ?_
  rintro e w3 ⟨rfl, hb⟩
  have HB3 : Hid (Below w.heap.size w w3) := HB2.out.trans (hb.mono HB2.out.size)
  have HA3 := hide (HA2.out.below hb)
  clear hb HA2 HB2 z0 z1 z2 z3 z4 z5 z6 z7 z8 z9 RR0
  obtain ⟨z0, z1, z2, z3, z4, z5, z6, z7, z8, z9⟩ := HA3.out.at_
  go_wp2_with fail
  refine (AWK _).out.mono ?_
  rintro e w4 ⟨rfl, hb⟩
  have HB4 : Hid (Below w.heap.size w w4) := HB3.out.trans (hb.mono HB3.out.size)
  clear hb
  go_wp2_with fail
  go_returns
  exact ⟨rfl, HB4.out⟩
set_option maxRecDepth 100000 in
set_option maxHeartbeats 40000000 in
theorem walk_frozen {w : World} {a sp : Option Addr} {n c ns cs : Nat} {A : Ac} {node r : Int} {vs : List Int} (hR : rightB A = true) (h0 : ¬ A.rd = 0) (h : Hs w a n A.hs) (hw : AcW A) (hvs : Rl ienc 1 8 w sp ns vs) (hvi : ∀ x ∈ vs, I64 x) (hn : I64 node) (hr : I64 r) :
    Calls Try.prog 3 #[.agg #[.string A.key, .int .i64 A.lo, .int .i64 A.hi, .int .i64 A.base, .int .i64 A.rd, .slice a n c, .int .i64 A.lk.c, .int .i64 A.lk.s, .int .i64 A.lk.h, .int .i64 A.lk.n], .int .i64 node, .slice sp ns cs, .int .i64 r] w fun e w' => e = .returned (.bool true) ∧ Below w.heap.size w w' := by
  have AWK := fun W => hide (lawake_any W)
  have RR0 := fun W => hide (fun hW : Below w.heap.size w W => rright_any (c := c) (h.below hW) hw)
  have H := hide h
  have HV := hide hvs
  have HVI := hide hvi
  have hvl := hvs.len
  have hvr := hvs.room
  rw [hR] at RR0
  have k0 : (A.rd != (0 : Int)) = true := by simpa using h0
  clear h hw hvs hvi hn hr hR hvl hvr h0
  obtain ⟨w1, ew, hb1, ha1⟩ := one_new w A a n c
  have HB1 := hide hb1
  have HA1 := hide ha1
  clear hb1 ha1
  go_enter Try.func3, Try.ntmps3
  go_wp2_with fail
  rw [← ew]
  clear ew
  refine (AWK _).out.mono ?_
  rintro e w2 ⟨rfl, hb⟩
  have HB2 : Hid (Below w.heap.size w w2) := HB1.out.trans (hb.mono HB1.out.size)
  have HA2 := hide (HA1.out.below hb)
  clear hb HA1 HB1
  obtain ⟨z0, z1, z2, z3, z4, z5, z6, z7, z8, z9⟩ := HA2.out.at_
  go_wp2_with fail
  refine ((RR0 _).out HB2.out).mono ?_
  rintro e w3 ⟨rfl, hb⟩
  have HB3 : Hid (Below w.heap.size w w3) := HB2.out.trans (hb.mono HB2.out.size)
  have HA3 := hide (HA2.out.below hb)
  clear hb HA2 HB2 z0 z1 z2 z3 z4 z5 z6 z7 z8 z9 RR0
  obtain ⟨z0, z1, z2, z3, z4, z5, z6, z7, z8, z9⟩ := HA3.out.at_
  go_wp2_with fail
  refine (AWK _).out.mono ?_
  rintro e w4 ⟨rfl, hb⟩
  have HB4 : Hid (Below w.heap.size w w4) := HB3.out.trans (hb.mono HB3.out.size)
  clear hb
  go_wp2_with fail
  go_returns
  exact ⟨rfl, HB4.out⟩
set_option maxRecDepth 100000 in
set_option maxHeartbeats 40000000 in
theorem walk_none {w : World} {a sp : Option Addr} {n c ns cs : Nat} {A : Ac} {node r : Int} {vs : List Int} (hR : rightB A = true) (h0 : A.rd = 0) (hf : findH A.hs node = none) (h : Hs w a n A.hs) (hw : AcW A) (hvs : Rl ienc 1 8 w sp ns vs) (hvi : ∀ x ∈ vs, I64 x) (hn : I64 node) (hr : I64 r) :
    Calls Try.prog 3 #[.agg #[.string A.key, .int .i64 A.lo, .int .i64 A.hi, .int .i64 A.base, .int .i64 A.rd, .slice a n c, .int .i64 A.lk.c, .int .i64 A.lk.s, .int .i64 A.lk.h, .int .i64 A.lk.n], .int .i64 node, .slice sp ns cs, .int .i64 r] w fun e w' => e = .returned (.bool true) ∧ Below w.heap.size w w' := by
  have AWK := fun W => hide (lawake_any W)
  have RR0 := fun W => hide (fun hW : Below w.heap.size w W => rright_any (c := c) (h.below hW) hw)
  have H := hide h
  have HV := hide hvs
  have HVI := hide hvi
  have hvl := hvs.len
  have hvr := hvs.room
  rw [hR] at RR0
  have hRt := (right_iff A).1 hR
  have HRt := hide hRt
  have HW := hide hw
  have H0 := hide h0
  have HF := hide hf
  have HNI := hide hn
  have HRI := hide hr
  have FI := fun W => hide (fun hW : Below w.heap.size w W => find_x (c := c) (node := node) (x := hd0) (b := false) (h.below hW) hw (by unfold findF; rw [if_pos hR, hf]; rfl) (by unfold findF; rw [if_pos hR, hf]; rfl))
  clear h hw hvs hvi hn hr hR h0 hf hRt
  obtain ⟨w1, ew, hb1, ha1⟩ := one_new w A a n c
  have HB1 := hide hb1
  have HA1 := hide ha1
  clear hb1 ha1
  go_enter Try.func3, Try.ntmps3
  go_wp2_with fail
  rw [← ew]
  clear ew
  refine (AWK _).out.mono ?_
  rintro e w2 ⟨rfl, hb⟩
  have HB2 : Hid (Below w.heap.size w w2) := HB1.out.trans (hb.mono HB1.out.size)
  have HA2 := hide (HA1.out.below hb)
  clear hb HA1 HB1
  obtain ⟨z0, z1, z2, z3, z4, z5, z6, z7, z8, z9⟩ := HA2.out.at_
  go_wp2_with fail
  refine ((RR0 _).out HB2.out).mono ?_
  rintro e w3 ⟨rfl, hb⟩
  have HB3 : Hid (Below w.heap.size w w3) := HB2.out.trans (hb.mono HB2.out.size)
  have HA3 := hide (HA2.out.below hb)
  clear hb HA2 HB2 z0 z1 z2 z3 z4 z5 z6 z7 z8 z9 RR0
  obtain ⟨z0, z1, z2, z3, z4, z5, z6, z7, z8, z9⟩ := HA3.out.at_
  have k0 : (A.rd != (0 : Int)) = false := by simpa using H0.out
  go_wp2_with fail
  clear z0 z1 z2 z3 z4 z5 z6 z7 z8 z9 k0
  refine ((FI _).out HB3.out).mono ?_
  rintro e w4 ⟨rfl, hb⟩
  have HB4 : Hid (Below w.heap.size w w4) := HB3.out.trans (hb.mono HB3.out.size)
  have HA4 := hide (HA3.out.below hb)
  clear hb HA3 HB3 FI
  obtain ⟨w5, e5, hb5, hk5⟩ := hk_new w4 hd0
  have HO5 : Hid (On w w5 A a n c w4.heap.size hd0) := ⟨HB4.out.trans (hb5.mono HB4.out.size), HA4.out.below hb5, hk5⟩
  have hp : w.heap.size < w4.heap.size := HA4.out.lt
  clear hb5 hk5 HA4 HB4
  go_upto_region 4 with fail
  rw [← e5]
  clear e5
  obtain ⟨p, ep⟩ : ∃ p, p = w4.heap.size := ⟨_, rfl⟩
  rw [← ep] at HO5 hp ⊢
  clear ep
  go_wp2_with fail
  go_loopw [11, 12, 13] (fun s11 s12 s13 wr => ∃ (i n1 c1 : Nat) (a1 : Option Addr) (net : Int) (L : List Rt), i ≤ ns ∧ s11 = .slice a1 n1 c1 ∧ s12 = .int .i64 net ∧ s13 = .int .i64 i ∧ Hid (LS A node L net) ∧ Hid (Rs wr a1 n1 L) ∧ Hid (On w wr A a n c p hd0)) (fun _ _ s13 _ => ns - (intOf s13).toNat)
  case atStart => exact ⟨0, 0, 0, none, 0, [], Nat.zero_le _, rfl, rfl, rfl, LS.start HRt.out, Rl.nil _, HO5.out⟩
  case round =>
    obtain ⟨i, n1, c1, a1, net, L, hi, rfl, rfl, rfl, HLS, HL, HO⟩ := hrel
    obtain ⟨l1, l2, l3, l4, l5⟩ := HLS.out.led HRt.out HW.out
    have hn1 : n1 ≤ 1 := by rw [← HL.out.len]; exact l3
    by_cases hlt : i < ns
    · have hi1 : (i : Int) < (ns : Int) := by omega
      obtain ⟨y, hy⟩ : ∃ y, vs[i]? = some y := ⟨_, List.getElem?_eq_getElem (by rw [hvl]; exact hlt)⟩
      have HYI := hide (HVI.out y (List.mem_of_getElem? hy))
      obtain ⟨bv, o9, y', esp, hy', hbv, M⟩ := Rl.at_ HV.out hlt
      obtain rfl : y = y' := by rw [hy] at hy'; exact Option.some.inj hy'
      have cv : wr.cell? ⟨bv, o9 + i, none⟩ = some (.int .i64 y) := by have := M 0 _ rfl; rw [Nat.mul_one, Nat.add_zero] at this; exact cell_go HO.out.bl this
      have SP := fun W => hide (fun (hW : Below w.heap.size w W) (hU : Below wr.heap.size wr W) => spend_x (d := c1) (c := c) (v := y) (g := 2) (node := node) (HL.out.below hU) l2 (H.out.below hW) HW.out HYI.out rfl rfl)
      have HL2 := hide l2
      clear hy hy' M hbv l1 l2 l4 l5
      subst esp
      by_cases he : spendE L 2 A node y = 0
      · obtain ⟨x', f1, _⟩ := HLS.out.next HRt.out HW.out H0.out he
        have := HF.out
        rw [f1] at this
        cases this
      · obtain ⟨E, eE⟩ : ∃ E, E = spendE L 2 A node y := ⟨_, rfl⟩
        obtain ⟨R, eR⟩ : ∃ R, R = spendR L 2 A node y := ⟨_, rfl⟩
        rw [← eE, ← eR] at SP
        have kE : (E != (0 : Int)) = true := by rw [eE]; simpa using he
        clear he eE eR
        go_wp2_with fail
        go_upto_region 9 with fail
        refine region_tree (n := 14) (fun v => v.cell? ⟨w.heap.size, 0, none⟩ = some (.string A.key) ∧ v.cell? ⟨w.heap.size, 1, none⟩ = some (.int .i64 A.lo) ∧ v.cell? ⟨w.heap.size, 2, none⟩ = some (.int .i64 A.hi) ∧ v.cell? ⟨w.heap.size, 3, none⟩ = some (.int .i64 A.base) ∧ v.cell? ⟨w.heap.size, 4, none⟩ = some (.int .i64 A.rd) ∧ v.cell? ⟨w.heap.size, 5, none⟩ = some (.slice a n c) ∧ v.cell? ⟨w.heap.size, 6, none⟩ = some (.int .i64 A.lk.c) ∧ v.cell? ⟨w.heap.size, 7, none⟩ = some (.int .i64 A.lk.s) ∧ v.cell? ⟨w.heap.size, 8, none⟩ = some (.int .i64 A.lk.h) ∧ v.cell? ⟨w.heap.size, 9, none⟩ = some (.int .i64 A.lk.n) ∧ v.cell? ⟨bv, o9 + i, none⟩ = some (.int .i64 y)) (by kernel_rfl) (by kernel_rfl) ?_
        have HO0 := hide (HO.out.below (below_drew1' _))
        have HB0 : Hid (Below wr.heap.size wr wr.drew) := below_drew1' _
        have cv0 := cell_go HB0.out cv
        generalize wr.drew = u0 at HO0 HB0 cv0 ⊢
        obtain ⟨a0, b0, c0, d0, e0, f0, g0, h0, i0, j0⟩ := HO0.out.ab.at_
        refine any_take 0 (v := ?_) (by kernel_rfl) (by kernel_rfl) (by kernel_rfl) rfl (fun _ _ _ h => h) (by rfl) (And.intro a0 (And.intro b0 (And.intro c0 (And.intro d0 (And.intro e0 (And.intro f0 (And.intro g0 (And.intro h0 (And.intro i0 (And.intro j0 cv0)))))))))) ?_ ?_
        rotate_left
        · (intro y hy; simp only [List.getElem_toArray, List.getElem_cons_zero]; go_simp; try with_reducible rfl)
        simp only [List.getElem_toArray, List.getElem_cons_zero, Act.put, List.setIfInBounds_toArray, List.set_cons_zero, List.set_cons_succ]
        refine any_take 1 (v := ?_) (by kernel_rfl) (by kernel_rfl) (by kernel_rfl) rfl (fun _ _ _ h => h) (by rfl) (And.intro a0 (And.intro b0 (And.intro c0 (And.intro d0 (And.intro e0 (And.intro f0 (And.intro g0 (And.intro h0 (And.intro i0 (And.intro j0 cv0)))))))))) ?_ ?_
        rotate_left
        · (intro y hy; obtain ⟨q0, q1, q2, q3, q4, q5, q6, q7, q8, q9, q10⟩ := hy; simp only [List.getElem_toArray, List.getElem_cons_zero, List.getElem_cons_succ]; go_simp; try with_reducible rfl)
        simp only [List.getElem_toArray, List.getElem_cons_zero, List.getElem_cons_succ, Act.put, List.setIfInBounds_toArray, List.set_cons_zero, List.set_cons_succ]
        refine any_take 2 (v := ?_) (by kernel_rfl) (by kernel_rfl) (by kernel_rfl) rfl (fun _ _ _ h => h) (by rfl) (And.intro a0 (And.intro b0 (And.intro c0 (And.intro d0 (And.intro e0 (And.intro f0 (And.intro g0 (And.intro h0 (And.intro i0 (And.intro j0 cv0)))))))))) ?_ ?_
        rotate_left
        · (intro y hy; simp only [List.getElem_toArray, List.getElem_cons_zero, List.getElem_cons_succ]; go_simp; try with_reducible rfl)
        simp only [List.getElem_toArray, List.getElem_cons_zero, List.getElem_cons_succ, Act.put, List.setIfInBounds_toArray, List.set_cons_zero, List.set_cons_succ]
        refine any_take 3 (v := ?_) (by kernel_rfl) (by kernel_rfl) (by kernel_rfl) rfl (fun _ _ _ h => h) (by rfl) (And.intro a0 (And.intro b0 (And.intro c0 (And.intro d0 (And.intro e0 (And.intro f0 (And.intro g0 (And.intro h0 (And.intro i0 (And.intro j0 cv0)))))))))) ?_ ?_
        rotate_left
        · (intro y hy; simp only [List.getElem_toArray, List.getElem_cons_zero, List.getElem_cons_succ]; go_simp; try with_reducible rfl)
        simp only [List.getElem_toArray, List.getElem_cons_zero, List.getElem_cons_succ, Act.put, List.setIfInBounds_toArray, List.set_cons_zero, List.set_cons_succ]
        refine any_take 4 (v := ?_) (by kernel_rfl) (by kernel_rfl) (by kernel_rfl) rfl (fun _ _ _ h => h) (by rfl) (And.intro a0 (And.intro b0 (And.intro c0 (And.intro d0 (And.intro e0 (And.intro f0 (And.intro g0 (And.intro h0 (And.intro i0 (And.intro j0 cv0)))))))))) ?_ ?_
        rotate_left
        · (intro y hy; simp only [List.getElem_toArray, List.getElem_cons_zero, List.getElem_cons_succ]; go_simp; try with_reducible rfl)
        simp only [List.getElem_toArray, List.getElem_cons_zero, List.getElem_cons_succ, Act.put, List.setIfInBounds_toArray, List.set_cons_zero, List.set_cons_succ]
        refine any_take 5 (v := ?_) (by kernel_rfl) (by kernel_rfl) (by kernel_rfl) rfl (fun _ _ _ h => h) (by rfl) (And.intro a0 (And.intro b0 (And.intro c0 (And.intro d0 (And.intro e0 (And.intro f0 (And.intro g0 (And.intro h0 (And.intro i0 (And.intro j0 cv0)))))))))) ?_ ?_
        rotate_left
        · (intro y hy; simp only [List.getElem_toArray, List.getElem_cons_zero, List.getElem_cons_succ]; go_simp; try with_reducible rfl)
        simp only [List.getElem_toArray, List.getElem_cons_zero, List.getElem_cons_succ, Act.put, List.setIfInBounds_toArray, List.set_cons_zero, List.set_cons_succ]
        refine any_take 6 (v := ?_) (by kernel_rfl) (by kernel_rfl) (by kernel_rfl) rfl (fun _ _ _ h => h) (by rfl) (And.intro a0 (And.intro b0 (And.intro c0 (And.intro d0 (And.intro e0 (And.intro f0 (And.intro g0 (And.intro h0 (And.intro i0 (And.intro j0 cv0)))))))))) ?_ ?_
        rotate_left
        · (intro y hy; obtain ⟨q0, q1, q2, q3, q4, q5, q6, q7, q8, q9, q10⟩ := hy; simp only [List.getElem_toArray, List.getElem_cons_zero, List.getElem_cons_succ]; go_simp; try with_reducible rfl)
        simp only [List.getElem_toArray, List.getElem_cons_zero, List.getElem_cons_succ, Act.put, List.setIfInBounds_toArray, List.set_cons_zero, List.set_cons_succ]
        refine any_fork [7, 11] (by kernel_rfl) (by simp) ?_
        refine fork_more ?_ ?_
        · skip
          refine any_op rfl (fun K' hK => ?_)
          simp only [List.getElem_toArray, List.getElem_cons_zero, List.getElem_cons_succ]
          go_simp
          refine ((SP _).out (HO0.out.bl) HB0.out).mono ?_; rintro e u1 ⟨rfl, hb⟩; have HO1 := hide (HO0.out.below hb); have HB1 : Hid (Below wr.heap.size wr u1) := HB0.out.trans (hb.mono HB0.out.size); have cv1 := cell_go hb cv0; clear a0 b0 c0 d0 e0 f0 g0 h0 i0 j0 cv0
          clear hb
          obtain ⟨a1, b1, c1, d1, e1, f1, g1, h1, i1, j1⟩ := HO1.out.ab.at_
          refine hK _ _ ⟨(And.intro a1 (And.intro b1 (And.intro c1 (And.intro d1 (And.intro e1 (And.intro f1 (And.intro g1 (And.intro h1 (And.intro i1 (And.intro j1 cv1)))))))))), ?_⟩
          clear hK K'
          refine any_take 8 (v := ?_) (by kernel_rfl) (by kernel_rfl) (by kernel_rfl) rfl (fun _ _ _ h => h) (by rfl) (And.intro a1 (And.intro b1 (And.intro c1 (And.intro d1 (And.intro e1 (And.intro f1 (And.intro g1 (And.intro h1 (And.intro i1 (And.intro j1 cv1)))))))))) ?_ ?_
          rotate_left
          · (intro y hy; simp only [List.getElem_toArray, List.getElem_cons_zero, List.getElem_cons_succ]; go_simp; try with_reducible rfl)
          simp only [List.getElem_toArray, List.getElem_cons_zero, List.getElem_cons_succ, Act.put, List.setIfInBounds_toArray, List.set_cons_zero, List.set_cons_succ]
          refine any_take 9 (v := ?_) (by kernel_rfl) (by kernel_rfl) (by kernel_rfl) rfl (fun _ _ _ h => h) (by rfl) (And.intro a1 (And.intro b1 (And.intro c1 (And.intro d1 (And.intro e1 (And.intro f1 (And.intro g1 (And.intro h1 (And.intro i1 (And.intro j1 cv1)))))))))) ?_ ?_
          rotate_left
          · (intro y hy; simp only [List.getElem_toArray, List.getElem_cons_zero, List.getElem_cons_succ]; go_simp; try with_reducible rfl)
          simp only [List.getElem_toArray, List.getElem_cons_zero, List.getElem_cons_succ, Act.put, List.setIfInBounds_toArray, List.set_cons_zero, List.set_cons_succ]
          refine any_take 10 (v := ?_) (by kernel_rfl) (by kernel_rfl) (by kernel_rfl) rfl (fun _ _ _ h => h) (by rfl) (And.intro a1 (And.intro b1 (And.intro c1 (And.intro d1 (And.intro e1 (And.intro f1 (And.intro g1 (And.intro h1 (And.intro i1 (And.intro j1 cv1)))))))))) ?_ ?_
          rotate_left
          · (intro y hy; simp only [List.getElem_toArray, List.getElem_cons_zero, List.getElem_cons_succ]; go_simp; try with_reducible rfl)
          simp only [List.getElem_toArray, List.getElem_cons_zero, List.getElem_cons_succ, Act.put, List.setIfInBounds_toArray, List.set_cons_zero, List.set_cons_succ]
          refine any_fork [11] (by kernel_rfl) (by simp) ?_
          refine fork_one ?_
          refine any_op rfl (fun K' hK => ?_)
          simp only [List.getElem_toArray, List.getElem_cons_zero, List.getElem_cons_succ]
          go_simp
          obtain ⟨u2, g, ev, el, hbz, HG2⟩ := za_new u1
          have hg : wr.heap.size ≤ g := by rw [el]; exact HB1.out.size
          have hgl : g < u2.heap.size := (Array.getElem?_eq_some_iff.1 HG2.out).1
          rw [← ev, ← el]
          clear ev el
          have HO2 := hide (HO1.out.below hbz); have HB2 : Hid (Below wr.heap.size wr u2) := HB1.out.trans (hbz.mono HB1.out.size); have cv2 := cell_go hbz cv1; clear hbz a1 b1 c1 d1 e1 f1 g1 h1 i1 j1 cv1
          obtain ⟨a2, b2, c2, d2, e2, f2, g2, h2, i2, j2⟩ := HO2.out.ab.at_
          refine hK _ _ ⟨(And.intro a2 (And.intro b2 (And.intro c2 (And.intro d2 (And.intro e2 (And.intro f2 (And.intro g2 (And.intro h2 (And.intro i2 (And.intro j2 cv2)))))))))), ?_⟩
          clear hK K'
          refine any_fork [12] (by kernel_rfl) (by simp) ?_
          refine fork_one ?_
          refine any_op rfl (fun K' hK => ?_)
          rw [if_pos (by rfl)]
          refine wp_store_row 38 (.tmp 14) (.tmp 63) rfl g #[.int .i64 R.g, .string R.k, .int .i64 R.ls, .int .i64 R.nt] rfl rfl 38 #[.int .i64 0, .string ⟨#[]⟩, .int .i64 0, .int .i64 0] HG2.out rt_info rfl (by simp [Value.oneCell']) ?_
          have HB3 : Hid (Below wr.heap.size wr (u2.setRow g #[.int .i64 R.g, .string R.k, .int .i64 R.ls, .int .i64 R.nt])) := below_setRow HB2.out hg _
          have HR3 : Hid (Rb (u2.setRow g #[.int .i64 R.g, .string R.k, .int .i64 R.ls, .int .i64 R.nt]) g R) := ⟨setRow_heap _ _ _ _ _ _ HG2.out⟩
          have HO3 := hide (HO.out.below HB3.out)
          have cv3 := cell_go HB3.out cv
          generalize u2.setRow g #[.int .i64 R.g, .string R.k, .int .i64 R.ls, .int .i64 R.nt] = u3 at HB3 HR3 HO3 cv3 ⊢
          clear a2 b2 c2 d2 e2 f2 g2 h2 i2 j2 cv2 HO2 HB2 HG2
          obtain ⟨a3, b3, c3, d3, e3, f3, g3, h3, i3, j3⟩ := HO3.out.ab.at_
          refine hK _ _ ⟨(And.intro a3 (And.intro b3 (And.intro c3 (And.intro d3 (And.intro e3 (And.intro f3 (And.intro g3 (And.intro h3 (And.intro i3 (And.intro j3 cv3)))))))))), ?_⟩
          clear hK K'
          refine any_take 13 (v := ?_) (by kernel_rfl) (by kernel_rfl) (by kernel_rfl) rfl (fun _ _ _ h => h) (by rfl) (And.intro a3 (And.intro b3 (And.intro c3 (And.intro d3 (And.intro e3 (And.intro f3 (And.intro g3 (And.intro h3 (And.intro i3 (And.intro j3 cv3)))))))))) ?_ ?_
          rotate_left
          · (intro y hy; simp only [List.getElem_toArray, List.getElem_cons_zero, List.getElem_cons_succ]; go_simp; try with_reducible rfl)
          simp only [List.getElem_toArray, List.getElem_cons_zero, List.getElem_cons_succ, Act.put, List.setIfInBounds_toArray, List.set_cons_zero, List.set_cons_succ]
          refine any_done (by kernel_rfl) ?_
          clear a3 b3 c3 d3 e3 f3 g3 h3 i3 j3 cv3
          go_wp2_with fail
          go_roundw
          case rel => exact ⟨i + 1, n1, c1, a1, net, L, by omega, rfl, rfl, by go_num, HLS, HL.out.below HB3.out, HO3⟩
          case measure => simp [intOf]; omega
        refine fork_one ?_
        refine any_op rfl (fun K' hK => ?_)
        simp only [List.getElem_toArray, List.getElem_cons_zero, List.getElem_cons_succ]
        go_simp
        obtain ⟨u1, g, ev, el, hbz, HG1⟩ := za_new u0
        have hg : wr.heap.size ≤ g := by rw [el]; exact HB0.out.size
        have hgl : g < u1.heap.size := (Array.getElem?_eq_some_iff.1 HG1.out).1
        rw [← ev, ← el]
        clear ev el
        have HO1 := hide (HO0.out.below hbz); have HB1 : Hid (Below wr.heap.size wr u1) := HB0.out.trans (hbz.mono HB0.out.size); have cv1 := cell_go hbz cv0; clear hbz a0 b0 c0 d0 e0 f0 g0 h0 i0 j0 cv0
        obtain ⟨a1, b1, c1, d1, e1, f1, g1, h1, i1, j1⟩ := HO1.out.ab.at_
        refine hK _ _ ⟨(And.intro a1 (And.intro b1 (And.intro c1 (And.intro d1 (And.intro e1 (And.intro f1 (And.intro g1 (And.intro h1 (And.intro i1 (And.intro j1 cv1)))))))))), ?_⟩
        clear hK K'
        refine any_fork [7] (by kernel_rfl) (by simp) ?_
        refine fork_one ?_
        refine any_op rfl (fun K' hK => ?_)
        simp only [List.getElem_toArray, List.getElem_cons_zero, List.getElem_cons_succ]
        go_simp
        refine ((SP _).out (HO1.out.bl) HB1.out).mono ?_; rintro e u2 ⟨rfl, hb⟩; have HO2 := hide (HO1.out.below hb); have HB2 : Hid (Below wr.heap.size wr u2) := HB1.out.trans (hb.mono HB1.out.size); have cv2 := cell_go hb cv1; clear a1 b1 c1 d1 e1 f1 g1 h1 i1 j1 cv1
        have HG2 : Hid (u2.heap[g]? = _) := (hb.block _ hgl).trans HG1.out
        clear hb
        obtain ⟨a2, b2, c2, d2, e2, f2, g2, h2, i2, j2⟩ := HO2.out.ab.at_
        refine hK _ _ ⟨(And.intro a2 (And.intro b2 (And.intro c2 (And.intro d2 (And.intro e2 (And.intro f2 (And.intro g2 (And.intro h2 (And.intro i2 (And.intro j2 cv2)))))))))), ?_⟩
        clear hK K'
        refine any_take 8 (v := ?_) (by kernel_rfl) (by kernel_rfl) (by kernel_rfl) rfl (fun _ _ _ h => h) (by rfl) (And.intro a2 (And.intro b2 (And.intro c2 (And.intro d2 (And.intro e2 (And.intro f2 (And.intro g2 (And.intro h2 (And.intro i2 (And.intro j2 cv2)))))))))) ?_ ?_
        rotate_left
        · (intro y hy; simp only [List.getElem_toArray, List.getElem_cons_zero, List.getElem_cons_succ]; go_simp; try with_reducible rfl)
        simp only [List.getElem_toArray, List.getElem_cons_zero, List.getElem_cons_succ, Act.put, List.setIfInBounds_toArray, List.set_cons_zero, List.set_cons_succ]
        refine any_take 9 (v := ?_) (by kernel_rfl) (by kernel_rfl) (by kernel_rfl) rfl (fun _ _ _ h => h) (by rfl) (And.intro a2 (And.intro b2 (And.intro c2 (And.intro d2 (And.intro e2 (And.intro f2 (And.intro g2 (And.intro h2 (And.intro i2 (And.intro j2 cv2)))))))))) ?_ ?_
        rotate_left
        · (intro y hy; simp only [List.getElem_toArray, List.getElem_cons_zero, List.getElem_cons_succ]; go_simp; try with_reducible rfl)
        simp only [List.getElem_toArray, List.getElem_cons_zero, List.getElem_cons_succ, Act.put, List.setIfInBounds_toArray, List.set_cons_zero, List.set_cons_succ]
        refine any_take 10 (v := ?_) (by kernel_rfl) (by kernel_rfl) (by kernel_rfl) rfl (fun _ _ _ h => h) (by rfl) (And.intro a2 (And.intro b2 (And.intro c2 (And.intro d2 (And.intro e2 (And.intro f2 (And.intro g2 (And.intro h2 (And.intro i2 (And.intro j2 cv2)))))))))) ?_ ?_
        rotate_left
        · (intro y hy; simp only [List.getElem_toArray, List.getElem_cons_zero, List.getElem_cons_succ]; go_simp; try with_reducible rfl)
        simp only [List.getElem_toArray, List.getElem_cons_zero, List.getElem_cons_succ, Act.put, List.setIfInBounds_toArray, List.set_cons_zero, List.set_cons_succ]
        refine any_fork [12] (by kernel_rfl) (by simp) ?_
        refine fork_one ?_
        refine any_op rfl (fun K' hK => ?_)
        rw [if_pos (by rfl)]
        refine wp_store_row 38 (.tmp 14) (.tmp 63) rfl g #[.int .i64 R.g, .string R.k, .int .i64 R.ls, .int .i64 R.nt] rfl rfl 38 #[.int .i64 0, .string ⟨#[]⟩, .int .i64 0, .int .i64 0] HG2.out rt_info rfl (by simp [Value.oneCell']) ?_
        have HB3 : Hid (Below wr.heap.size wr (u2.setRow g #[.int .i64 R.g, .string R.k, .int .i64 R.ls, .int .i64 R.nt])) := below_setRow HB2.out hg _
        have HR3 : Hid (Rb (u2.setRow g #[.int .i64 R.g, .string R.k, .int .i64 R.ls, .int .i64 R.nt]) g R) := ⟨setRow_heap _ _ _ _ _ _ HG2.out⟩
        have HO3 := hide (HO.out.below HB3.out)
        have cv3 := cell_go HB3.out cv
        generalize u2.setRow g #[.int .i64 R.g, .string R.k, .int .i64 R.ls, .int .i64 R.nt] = u3 at HB3 HR3 HO3 cv3 ⊢
        clear a2 b2 c2 d2 e2 f2 g2 h2 i2 j2 cv2 HO2 HB2 HG2
        obtain ⟨a3, b3, c3, d3, e3, f3, g3, h3, i3, j3⟩ := HO3.out.ab.at_
        refine hK _ _ ⟨(And.intro a3 (And.intro b3 (And.intro c3 (And.intro d3 (And.intro e3 (And.intro f3 (And.intro g3 (And.intro h3 (And.intro i3 (And.intro j3 cv3)))))))))), ?_⟩
        clear hK K'
        refine any_take 13 (v := ?_) (by kernel_rfl) (by kernel_rfl) (by kernel_rfl) rfl (fun _ _ _ h => h) (by rfl) (And.intro a3 (And.intro b3 (And.intro c3 (And.intro d3 (And.intro e3 (And.intro f3 (And.intro g3 (And.intro h3 (And.intro i3 (And.intro j3 cv3)))))))))) ?_ ?_
        rotate_left
        · (intro y hy; simp only [List.getElem_toArray, List.getElem_cons_zero, List.getElem_cons_succ]; go_simp; try with_reducible rfl)
        simp only [List.getElem_toArray, List.getElem_cons_zero, List.getElem_cons_succ, Act.put, List.setIfInBounds_toArray, List.set_cons_zero, List.set_cons_succ]
        refine any_done (by kernel_rfl) ?_
        clear a3 b3 c3 d3 e3 f3 g3 h3 i3 j3 cv3
        go_wp2_with fail
        go_roundw
        case rel => exact ⟨i + 1, n1, c1, a1, net, L, by omega, rfl, rfl, by go_num, HLS, HL.out.below HB3.out, HO3⟩
        case measure => simp [intOf]; omega
    · obtain rfl : i = ns := by omega
      have HLn := hide HL.out.len
      obtain ⟨B, eB⟩ : ∃ B, B = freezeA A r := ⟨_, rfl⟩
      obtain ⟨E, eE⟩ : ∃ E, E = freezeE A r := ⟨_, rfl⟩
      obtain ⟨z0, z1, z2, z3, z4, z5, z6, z7, z8, z9⟩ := HO.out.ab.at_
      have HFE := hide eE
      have HFB := hide eB
      clear eE eB l1 l2 l3 l4 l5
      go_wp2_with fail
      clear z0 z1 z2 z3 z4 z5 z6 z7 z8 z9
      refine (freeze_x (H.out.below HO.out.bl) HW.out HFB.out.symm HFE.out.symm).mono ?_
      rintro e w6 ⟨a6, n6, c6, rfl, hH, hb, _, hc⟩
      have HO6 := hide (HO.out.below hb)
      have HL6 := hide (HL.out.below hb)
      have HB6 := hide hH
      have HC6 := hide hc
      clear hH hb hc
      obtain ⟨w7, e7, hb7, ha7⟩ := one_new w6 B a6 n6 c6
      have HO7 := hide (HO6.out.below hb7)
      have HL7 := hide (HL6.out.below hb7)
      have HB7 := hide (HB6.out.below hb7)
      have HA7 := hide ha7
      clear hb7 ha7 HO6 HL6 HB6
      go_upto_region 18 with fail
      rw [← e7]
      clear e7
      obtain ⟨p16, ep⟩ : ∃ p16, p16 = w6.heap.size := ⟨_, rfl⟩
      rw [← ep] at HA7 ⊢
      clear ep
      obtain ⟨rfl, _⟩ := HLS.out.no HF.out
      obtain rfl : n1 = 0 := HLn.out.symm
      by_cases k0 : E = 0
      · subst k0
        go_wp2_with fail
        go_returns
        exact ⟨rfl, HO7.out.bl⟩
      · have kE : (E != (0 : Int)) = true := by simpa using k0
        clear k0
        go_wp2_with fail
        go_returns
        exact ⟨rfl, HO7.out.bl⟩
set_option maxRecDepth 100000 in
set_option maxHeartbeats 40000000 in
theorem walk_some {w : World} {a sp : Option Addr} {n c ns cs : Nat} {A : Ac} {node r : Int} {vs : List Int} {x : Hd} (hR : rightB A = true) (h0 : A.rd = 0) (hf : findH A.hs node = some x) (h : Hs w a n A.hs) (hw : AcW A) (hvs : Rl ienc 1 8 w sp ns vs) (hvi : ∀ x ∈ vs, I64 x) (hn : I64 node) (hr : I64 r) :
    Calls Try.prog 3 #[.agg #[.string A.key, .int .i64 A.lo, .int .i64 A.hi, .int .i64 A.base, .int .i64 A.rd, .slice a n c, .int .i64 A.lk.c, .int .i64 A.lk.s, .int .i64 A.lk.h, .int .i64 A.lk.n], .int .i64 node, .slice sp ns cs, .int .i64 r] w fun e w' => e = .returned (.bool true) ∧ Below w.heap.size w w' := by
  have AWK := fun W => hide (lawake_any W)
  have RR0 := fun W => hide (fun hW : Below w.heap.size w W => rright_any (c := c) (h.below hW) hw)
  have H := hide h
  have HV := hide hvs
  have HVI := hide hvi
  have hvl := hvs.len
  have hvr := hvs.room
  rw [hR] at RR0
  have hRt := (right_iff A).1 hR
  have HRt := hide hRt
  have HW := hide hw
  have H0 := hide h0
  have HF := hide hf
  have HNI := hide hn
  have HRI := hide hr
  have FI := fun W => hide (fun hW : Below w.heap.size w W => find_x (c := c) (node := node) (x := x) (b := true) (h.below hW) hw (by unfold findF; rw [if_pos hR, hf]; rfl) (by unfold findF; rw [if_pos hR, hf]; rfl))
  clear h hw hvs hvi hn hr hR h0 hf hRt
  obtain ⟨w1, ew, hb1, ha1⟩ := one_new w A a n c
  have HB1 := hide hb1
  have HA1 := hide ha1
  clear hb1 ha1
  go_enter Try.func3, Try.ntmps3
  go_wp2_with fail
  rw [← ew]
  clear ew
  refine (AWK _).out.mono ?_
  rintro e w2 ⟨rfl, hb⟩
  have HB2 : Hid (Below w.heap.size w w2) := HB1.out.trans (hb.mono HB1.out.size)
  have HA2 := hide (HA1.out.below hb)
  clear hb HA1 HB1
  obtain ⟨z0, z1, z2, z3, z4, z5, z6, z7, z8, z9⟩ := HA2.out.at_
  go_wp2_with fail
  refine ((RR0 _).out HB2.out).mono ?_
  rintro e w3 ⟨rfl, hb⟩
  have HB3 : Hid (Below w.heap.size w w3) := HB2.out.trans (hb.mono HB2.out.size)
  have HA3 := hide (HA2.out.below hb)
  clear hb HA2 HB2 z0 z1 z2 z3 z4 z5 z6 z7 z8 z9 RR0
  obtain ⟨z0, z1, z2, z3, z4, z5, z6, z7, z8, z9⟩ := HA3.out.at_
  have k0 : (A.rd != (0 : Int)) = false := by simpa using H0.out
  go_wp2_with fail
  clear z0 z1 z2 z3 z4 z5 z6 z7 z8 z9 k0
  refine ((FI _).out HB3.out).mono ?_
  rintro e w4 ⟨rfl, hb⟩
  have HB4 : Hid (Below w.heap.size w w4) := HB3.out.trans (hb.mono HB3.out.size)
  have HA4 := hide (HA3.out.below hb)
  clear hb HA3 HB3 FI
  obtain ⟨w5, e5, hb5, hk5⟩ := hk_new w4 x
  have HO5 : Hid (On w w5 A a n c w4.heap.size x) := ⟨HB4.out.trans (hb5.mono HB4.out.size), HA4.out.below hb5, hk5⟩
  have hp : w.heap.size < w4.heap.size := HA4.out.lt
  clear hb5 hk5 HA4 HB4
  go_upto_region 4 with fail
  rw [← e5]
  clear e5
  obtain ⟨p, ep⟩ : ∃ p, p = w4.heap.size := ⟨_, rfl⟩
  rw [← ep] at HO5 hp ⊢
  clear ep
  go_wp2_with fail
  go_loopw [11, 12, 13] (fun s11 s12 s13 wr => ∃ (i n1 c1 : Nat) (a1 : Option Addr) (net : Int) (L : List Rt), i ≤ ns ∧ s11 = .slice a1 n1 c1 ∧ s12 = .int .i64 net ∧ s13 = .int .i64 i ∧ Hid (LS A node L net) ∧ Hid (Rs wr a1 n1 L) ∧ Hid (On w wr A a n c p x)) (fun _ _ s13 _ => ns - (intOf s13).toNat)
  case atStart => exact ⟨0, 0, 0, none, 0, [], Nat.zero_le _, rfl, rfl, rfl, LS.start HRt.out, Rl.nil _, HO5.out⟩
  case round =>
    obtain ⟨i, n1, c1, a1, net, L, hi, rfl, rfl, rfl, HLS, HL, HO⟩ := hrel
    obtain ⟨l1, l2, l3, l4, l5⟩ := HLS.out.led HRt.out HW.out
    have hn1 : n1 ≤ 1 := by rw [← HL.out.len]; exact l3
    by_cases hlt : i < ns
    · have hi1 : (i : Int) < (ns : Int) := by omega
      obtain ⟨y, hy⟩ : ∃ y, vs[i]? = some y := ⟨_, List.getElem?_eq_getElem (by rw [hvl]; exact hlt)⟩
      have HYI := hide (HVI.out y (List.mem_of_getElem? hy))
      obtain ⟨bv, o9, y', esp, hy', hbv, M⟩ := Rl.at_ HV.out hlt
      obtain rfl : y = y' := by rw [hy] at hy'; exact Option.some.inj hy'
      have cv : wr.cell? ⟨bv, o9 + i, none⟩ = some (.int .i64 y) := by have := M 0 _ rfl; rw [Nat.mul_one, Nat.add_zero] at this; exact cell_go HO.out.bl this
      have SP := fun W => hide (fun (hW : Below w.heap.size w W) (hU : Below wr.heap.size wr W) => spend_x (d := c1) (c := c) (v := y) (g := 2) (node := node) (HL.out.below hU) l2 (H.out.below hW) HW.out HYI.out rfl rfl)
      have HL2 := hide l2
      clear hy hy' M hbv l1 l2 l4 l5
      subst esp
      by_cases he : spendE L 2 A node y = 0
      · obtain ⟨x', f1, f2, f3, f4, f5, f6, f7, f8⟩ := HLS.out.next HRt.out HW.out H0.out he
        obtain rfl : x = x' := by have := HF.out; rw [f1] at this; exact (Option.some.inj this).symm
        rw [he, f2] at SP
        have HP3 := hide f3
        have HP4 := hide f4
        have HLS2 := hide f5
        obtain ⟨net', en⟩ : ∃ net', net' = net + y := ⟨_, rfl⟩
        rw [← en] at SP HP3 HP4 HLS2 f6 f7 f8
        have HEN := hide en
        have hwr : IntKind.i64.wrap net' = net' := by rw [IntKind.wrap_i64]; unfold I64 at f8; omega
        obtain ⟨R, eR⟩ : ∃ R : Rt, R = ⟨2, A.key, x.ls, net'⟩ := ⟨_, rfl⟩
        rw [← eR] at SP HP3 HP4 HLS2
        have HER := hide eR
        have hdn := (hd_at_ HRt.out HF.out).2.2.2
        have hd2 := (HW.out.hs x (find_mem HF.out).1).dn.2
        clear f1 f2 f3 f4 f5 he en f8 eR
        go_wp2_with fail
        go_upto_region 9 with fail
        refine region_tree (n := 14) (fun v => v.cell? ⟨w.heap.size, 0, none⟩ = some (.string A.key) ∧ v.cell? ⟨w.heap.size, 1, none⟩ = some (.int .i64 A.lo) ∧ v.cell? ⟨w.heap.size, 2, none⟩ = some (.int .i64 A.hi) ∧ v.cell? ⟨w.heap.size, 3, none⟩ = some (.int .i64 A.base) ∧ v.cell? ⟨w.heap.size, 4, none⟩ = some (.int .i64 A.rd) ∧ v.cell? ⟨w.heap.size, 5, none⟩ = some (.slice a n c) ∧ v.cell? ⟨w.heap.size, 6, none⟩ = some (.int .i64 A.lk.c) ∧ v.cell? ⟨w.heap.size, 7, none⟩ = some (.int .i64 A.lk.s) ∧ v.cell? ⟨w.heap.size, 8, none⟩ = some (.int .i64 A.lk.h) ∧ v.cell? ⟨w.heap.size, 9, none⟩ = some (.int .i64 A.lk.n) ∧ v.cell? ⟨bv, o9 + i, none⟩ = some (.int .i64 y)) (by kernel_rfl) (by kernel_rfl) ?_
        have HO0 := hide (HO.out.below (below_drew1' _))
        have HB0 : Hid (Below wr.heap.size wr wr.drew) := below_drew1' _
        have cv0 := cell_go HB0.out cv
        generalize wr.drew = u0 at HO0 HB0 cv0 ⊢
        obtain ⟨a0, b0, c0, d0, e0, f0, g0, h0, i0, j0⟩ := HO0.out.ab.at_
        refine any_take 0 (v := ?_) (by kernel_rfl) (by kernel_rfl) (by kernel_rfl) rfl (fun _ _ _ h => h) (by rfl) (And.intro a0 (And.intro b0 (And.intro c0 (And.intro d0 (And.intro e0 (And.intro f0 (And.intro g0 (And.intro h0 (And.intro i0 (And.intro j0 cv0)))))))))) ?_ ?_
        rotate_left
        · (intro y hy; simp only [List.getElem_toArray, List.getElem_cons_zero]; go_simp; try with_reducible rfl)
        simp only [List.getElem_toArray, List.getElem_cons_zero, Act.put, List.setIfInBounds_toArray, List.set_cons_zero, List.set_cons_succ]
        refine any_take 1 (v := ?_) (by kernel_rfl) (by kernel_rfl) (by kernel_rfl) rfl (fun _ _ _ h => h) (by rfl) (And.intro a0 (And.intro b0 (And.intro c0 (And.intro d0 (And.intro e0 (And.intro f0 (And.intro g0 (And.intro h0 (And.intro i0 (And.intro j0 cv0)))))))))) ?_ ?_
        rotate_left
        · (intro y hy; obtain ⟨q0, q1, q2, q3, q4, q5, q6, q7, q8, q9, q10⟩ := hy; simp only [List.getElem_toArray, List.getElem_cons_zero, List.getElem_cons_succ]; go_simp; try with_reducible rfl)
        simp only [List.getElem_toArray, List.getElem_cons_zero, List.getElem_cons_succ, Act.put, List.setIfInBounds_toArray, List.set_cons_zero, List.set_cons_succ]
        refine any_take 2 (v := ?_) (by kernel_rfl) (by kernel_rfl) (by kernel_rfl) rfl (fun _ _ _ h => h) (by rfl) (And.intro a0 (And.intro b0 (And.intro c0 (And.intro d0 (And.intro e0 (And.intro f0 (And.intro g0 (And.intro h0 (And.intro i0 (And.intro j0 cv0)))))))))) ?_ ?_
        rotate_left
        · (intro y hy; simp only [List.getElem_toArray, List.getElem_cons_zero, List.getElem_cons_succ]; go_simp; try with_reducible rfl)
        simp only [List.getElem_toArray, List.getElem_cons_zero, List.getElem_cons_succ, Act.put, List.setIfInBounds_toArray, List.set_cons_zero, List.set_cons_succ]
        refine any_take 3 (v := ?_) (by kernel_rfl) (by kernel_rfl) (by kernel_rfl) rfl (fun _ _ _ h => h) (by rfl) (And.intro a0 (And.intro b0 (And.intro c0 (And.intro d0 (And.intro e0 (And.intro f0 (And.intro g0 (And.intro h0 (And.intro i0 (And.intro j0 cv0)))))))))) ?_ ?_
        rotate_left
        · (intro y hy; simp only [List.getElem_toArray, List.getElem_cons_zero, List.getElem_cons_succ]; go_simp; try with_reducible rfl)
        simp only [List.getElem_toArray, List.getElem_cons_zero, List.getElem_cons_succ, Act.put, List.setIfInBounds_toArray, List.set_cons_zero, List.set_cons_succ]
        refine any_take 4 (v := ?_) (by kernel_rfl) (by kernel_rfl) (by kernel_rfl) rfl (fun _ _ _ h => h) (by rfl) (And.intro a0 (And.intro b0 (And.intro c0 (And.intro d0 (And.intro e0 (And.intro f0 (And.intro g0 (And.intro h0 (And.intro i0 (And.intro j0 cv0)))))))))) ?_ ?_
        rotate_left
        · (intro y hy; simp only [List.getElem_toArray, List.getElem_cons_zero, List.getElem_cons_succ]; go_simp; try with_reducible rfl)
        simp only [List.getElem_toArray, List.getElem_cons_zero, List.getElem_cons_succ, Act.put, List.setIfInBounds_toArray, List.set_cons_zero, List.set_cons_succ]
        refine any_take 5 (v := ?_) (by kernel_rfl) (by kernel_rfl) (by kernel_rfl) rfl (fun _ _ _ h => h) (by rfl) (And.intro a0 (And.intro b0 (And.intro c0 (And.intro d0 (And.intro e0 (And.intro f0 (And.intro g0 (And.intro h0 (And.intro i0 (And.intro j0 cv0)))))))))) ?_ ?_
        rotate_left
        · (intro y hy; simp only [List.getElem_toArray, List.getElem_cons_zero, List.getElem_cons_succ]; go_simp; try with_reducible rfl)
        simp only [List.getElem_toArray, List.getElem_cons_zero, List.getElem_cons_succ, Act.put, List.setIfInBounds_toArray, List.set_cons_zero, List.set_cons_succ]
        refine any_take 6 (v := ?_) (by kernel_rfl) (by kernel_rfl) (by kernel_rfl) rfl (fun _ _ _ h => h) (by rfl) (And.intro a0 (And.intro b0 (And.intro c0 (And.intro d0 (And.intro e0 (And.intro f0 (And.intro g0 (And.intro h0 (And.intro i0 (And.intro j0 cv0)))))))))) ?_ ?_
        rotate_left
        · (intro y hy; obtain ⟨q0, q1, q2, q3, q4, q5, q6, q7, q8, q9, q10⟩ := hy; simp only [List.getElem_toArray, List.getElem_cons_zero, List.getElem_cons_succ]; go_simp; try with_reducible rfl)
        simp only [List.getElem_toArray, List.getElem_cons_zero, List.getElem_cons_succ, Act.put, List.setIfInBounds_toArray, List.set_cons_zero, List.set_cons_succ]
        refine any_fork [7, 11] (by kernel_rfl) (by simp) ?_
        refine fork_more ?_ ?_
        · skip
          refine any_op rfl (fun K' hK => ?_)
          simp only [List.getElem_toArray, List.getElem_cons_zero, List.getElem_cons_succ]
          go_simp
          refine ((SP _).out (HO0.out.bl) HB0.out).mono ?_; rintro e u1 ⟨rfl, hb⟩; have HO1 := hide (HO0.out.below hb); have HB1 : Hid (Below wr.heap.size wr u1) := HB0.out.trans (hb.mono HB0.out.size); have cv1 := cell_go hb cv0; clear a0 b0 c0 d0 e0 f0 g0 h0 i0 j0 cv0
          clear hb
          obtain ⟨a1, b1, c1, d1, e1, f1, g1, h1, i1, j1⟩ := HO1.out.ab.at_
          refine hK _ _ ⟨(And.intro a1 (And.intro b1 (And.intro c1 (And.intro d1 (And.intro e1 (And.intro f1 (And.intro g1 (And.intro h1 (And.intro i1 (And.intro j1 cv1)))))))))), ?_⟩
          clear hK K'
          refine any_take 8 (v := ?_) (by kernel_rfl) (by kernel_rfl) (by kernel_rfl) rfl (fun _ _ _ h => h) (by rfl) (And.intro a1 (And.intro b1 (And.intro c1 (And.intro d1 (And.intro e1 (And.intro f1 (And.intro g1 (And.intro h1 (And.intro i1 (And.intro j1 cv1)))))))))) ?_ ?_
          rotate_left
          · (intro y hy; simp only [List.getElem_toArray, List.getElem_cons_zero, List.getElem_cons_succ]; go_simp; try with_reducible rfl)
          simp only [List.getElem_toArray, List.getElem_cons_zero, List.getElem_cons_succ, Act.put, List.setIfInBounds_toArray, List.set_cons_zero, List.set_cons_succ]
          refine any_take 9 (v := ?_) (by kernel_rfl) (by kernel_rfl) (by kernel_rfl) rfl (fun _ _ _ h => h) (by rfl) (And.intro a1 (And.intro b1 (And.intro c1 (And.intro d1 (And.intro e1 (And.intro f1 (And.intro g1 (And.intro h1 (And.intro i1 (And.intro j1 cv1)))))))))) ?_ ?_
          rotate_left
          · (intro y hy; simp only [List.getElem_toArray, List.getElem_cons_zero, List.getElem_cons_succ]; go_simp; try with_reducible rfl)
          simp only [List.getElem_toArray, List.getElem_cons_zero, List.getElem_cons_succ, Act.put, List.setIfInBounds_toArray, List.set_cons_zero, List.set_cons_succ]
          refine any_take 10 (v := ?_) (by kernel_rfl) (by kernel_rfl) (by kernel_rfl) rfl (fun _ _ _ h => h) (by rfl) (And.intro a1 (And.intro b1 (And.intro c1 (And.intro d1 (And.intro e1 (And.intro f1 (And.intro g1 (And.intro h1 (And.intro i1 (And.intro j1 cv1)))))))))) ?_ ?_
          rotate_left
          · (intro y hy; simp only [List.getElem_toArray, List.getElem_cons_zero, List.getElem_cons_succ]; go_simp; try with_reducible rfl)
          simp only [List.getElem_toArray, List.getElem_cons_zero, List.getElem_cons_succ, Act.put, List.setIfInBounds_toArray, List.set_cons_zero, List.set_cons_succ]
          refine any_fork [11] (by kernel_rfl) (by simp) ?_
          refine fork_one ?_
          refine any_op rfl (fun K' hK => ?_)
          simp only [List.getElem_toArray, List.getElem_cons_zero, List.getElem_cons_succ]
          go_simp
          obtain ⟨u2, g, ev, el, hbz, HG2⟩ := za_new u1
          have hg : wr.heap.size ≤ g := by rw [el]; exact HB1.out.size
          have hgl : g < u2.heap.size := (Array.getElem?_eq_some_iff.1 HG2.out).1
          rw [← ev, ← el]
          clear ev el
          have HO2 := hide (HO1.out.below hbz); have HB2 : Hid (Below wr.heap.size wr u2) := HB1.out.trans (hbz.mono HB1.out.size); have cv2 := cell_go hbz cv1; clear hbz a1 b1 c1 d1 e1 f1 g1 h1 i1 j1 cv1
          obtain ⟨a2, b2, c2, d2, e2, f2, g2, h2, i2, j2⟩ := HO2.out.ab.at_
          refine hK _ _ ⟨(And.intro a2 (And.intro b2 (And.intro c2 (And.intro d2 (And.intro e2 (And.intro f2 (And.intro g2 (And.intro h2 (And.intro i2 (And.intro j2 cv2)))))))))), ?_⟩
          clear hK K'
          refine any_fork [12] (by kernel_rfl) (by simp) ?_
          refine fork_one ?_
          refine any_op rfl (fun K' hK => ?_)
          rw [if_pos (by rfl)]
          refine wp_store_row 38 (.tmp 14) (.tmp 63) rfl g #[.int .i64 R.g, .string R.k, .int .i64 R.ls, .int .i64 R.nt] rfl rfl 38 #[.int .i64 0, .string ⟨#[]⟩, .int .i64 0, .int .i64 0] HG2.out rt_info rfl (by simp [Value.oneCell']) ?_
          have HB3 : Hid (Below wr.heap.size wr (u2.setRow g #[.int .i64 R.g, .string R.k, .int .i64 R.ls, .int .i64 R.nt])) := below_setRow HB2.out hg _
          have HR3 : Hid (Rb (u2.setRow g #[.int .i64 R.g, .string R.k, .int .i64 R.ls, .int .i64 R.nt]) g R) := ⟨setRow_heap _ _ _ _ _ _ HG2.out⟩
          have HO3 := hide (HO.out.below HB3.out)
          have cv3 := cell_go HB3.out cv
          generalize u2.setRow g #[.int .i64 R.g, .string R.k, .int .i64 R.ls, .int .i64 R.nt] = u3 at HB3 HR3 HO3 cv3 ⊢
          clear a2 b2 c2 d2 e2 f2 g2 h2 i2 j2 cv2 HO2 HB2 HG2
          obtain ⟨a3, b3, c3, d3, e3, f3, g3, h3, i3, j3⟩ := HO3.out.ab.at_
          refine hK _ _ ⟨(And.intro a3 (And.intro b3 (And.intro c3 (And.intro d3 (And.intro e3 (And.intro f3 (And.intro g3 (And.intro h3 (And.intro i3 (And.intro j3 cv3)))))))))), ?_⟩
          clear hK K'
          refine any_take 13 (v := ?_) (by kernel_rfl) (by kernel_rfl) (by kernel_rfl) rfl (fun _ _ _ h => h) (by rfl) (And.intro a3 (And.intro b3 (And.intro c3 (And.intro d3 (And.intro e3 (And.intro f3 (And.intro g3 (And.intro h3 (And.intro i3 (And.intro j3 cv3)))))))))) ?_ ?_
          rotate_left
          · (intro y hy; simp only [List.getElem_toArray, List.getElem_cons_zero, List.getElem_cons_succ]; go_simp; try with_reducible rfl)
          simp only [List.getElem_toArray, List.getElem_cons_zero, List.getElem_cons_succ, Act.put, List.setIfInBounds_toArray, List.set_cons_zero, List.set_cons_succ]
          refine any_done (by kernel_rfl) ?_
          clear a3 b3 c3 d3 e3 f3 g3 h3 i3 j3 cv3
          have HL3 := hide (HL.out.below HB3.out)
          obtain ⟨rc0, rc1, rc2, rc3⟩ := HR3.out.at_
          go_wp2_with fail
          clear rc0 rc1 rc2 rc3
          refine (lput_x HL3.out (by omega) HP3.out HP4.out).mono ?_
          rintro e u4 ⟨a4, n4, c4, rfl, hL, hb, _, _⟩
          have HO4 := hide (HO3.out.below hb)
          have HR4 := hide (HR3.out.below hb)
          have HL4 := hide hL
          have cv4 := cell_go (HB3.out.trans (hb.mono HB3.out.size)) cv
          clear hL hb
          obtain ⟨rc0, rc1, rc2, rc3⟩ := HR4.out.at_
          obtain ⟨h0, h1, h2, h3⟩ := HO4.out.hk.at_
          have en := HEN.out.symm
          have er := HER.out
          have wd : IntKind.i64.wrap (-x.dn) = -x.dn := by rw [IntKind.wrap_i64]; omega
          subst er
          simp only at rc0 rc1 rc2 rc3
          have g1 : ¬ x.up < net' := by omega
          have g2 : ¬ net' < -x.dn := by omega
          go_wp2_with fail
          go_roundw
          case rel => exact ⟨i + 1, n4, c4, a4, net', _, by omega, rfl, rfl, by go_num, HLS2, HL4, HO4⟩
          case measure => simp [intOf]; omega
        refine fork_one ?_
        refine any_op rfl (fun K' hK => ?_)
        simp only [List.getElem_toArray, List.getElem_cons_zero, List.getElem_cons_succ]
        go_simp
        obtain ⟨u1, g, ev, el, hbz, HG1⟩ := za_new u0
        have hg : wr.heap.size ≤ g := by rw [el]; exact HB0.out.size
        have hgl : g < u1.heap.size := (Array.getElem?_eq_some_iff.1 HG1.out).1
        rw [← ev, ← el]
        clear ev el
        have HO1 := hide (HO0.out.below hbz); have HB1 : Hid (Below wr.heap.size wr u1) := HB0.out.trans (hbz.mono HB0.out.size); have cv1 := cell_go hbz cv0; clear hbz a0 b0 c0 d0 e0 f0 g0 h0 i0 j0 cv0
        obtain ⟨a1, b1, c1, d1, e1, f1, g1, h1, i1, j1⟩ := HO1.out.ab.at_
        refine hK _ _ ⟨(And.intro a1 (And.intro b1 (And.intro c1 (And.intro d1 (And.intro e1 (And.intro f1 (And.intro g1 (And.intro h1 (And.intro i1 (And.intro j1 cv1)))))))))), ?_⟩
        clear hK K'
        refine any_fork [7] (by kernel_rfl) (by simp) ?_
        refine fork_one ?_
        refine any_op rfl (fun K' hK => ?_)
        simp only [List.getElem_toArray, List.getElem_cons_zero, List.getElem_cons_succ]
        go_simp
        refine ((SP _).out (HO1.out.bl) HB1.out).mono ?_; rintro e u2 ⟨rfl, hb⟩; have HO2 := hide (HO1.out.below hb); have HB2 : Hid (Below wr.heap.size wr u2) := HB1.out.trans (hb.mono HB1.out.size); have cv2 := cell_go hb cv1; clear a1 b1 c1 d1 e1 f1 g1 h1 i1 j1 cv1
        have HG2 : Hid (u2.heap[g]? = _) := (hb.block _ hgl).trans HG1.out
        clear hb
        obtain ⟨a2, b2, c2, d2, e2, f2, g2, h2, i2, j2⟩ := HO2.out.ab.at_
        refine hK _ _ ⟨(And.intro a2 (And.intro b2 (And.intro c2 (And.intro d2 (And.intro e2 (And.intro f2 (And.intro g2 (And.intro h2 (And.intro i2 (And.intro j2 cv2)))))))))), ?_⟩
        clear hK K'
        refine any_take 8 (v := ?_) (by kernel_rfl) (by kernel_rfl) (by kernel_rfl) rfl (fun _ _ _ h => h) (by rfl) (And.intro a2 (And.intro b2 (And.intro c2 (And.intro d2 (And.intro e2 (And.intro f2 (And.intro g2 (And.intro h2 (And.intro i2 (And.intro j2 cv2)))))))))) ?_ ?_
        rotate_left
        · (intro y hy; simp only [List.getElem_toArray, List.getElem_cons_zero, List.getElem_cons_succ]; go_simp; try with_reducible rfl)
        simp only [List.getElem_toArray, List.getElem_cons_zero, List.getElem_cons_succ, Act.put, List.setIfInBounds_toArray, List.set_cons_zero, List.set_cons_succ]
        refine any_take 9 (v := ?_) (by kernel_rfl) (by kernel_rfl) (by kernel_rfl) rfl (fun _ _ _ h => h) (by rfl) (And.intro a2 (And.intro b2 (And.intro c2 (And.intro d2 (And.intro e2 (And.intro f2 (And.intro g2 (And.intro h2 (And.intro i2 (And.intro j2 cv2)))))))))) ?_ ?_
        rotate_left
        · (intro y hy; simp only [List.getElem_toArray, List.getElem_cons_zero, List.getElem_cons_succ]; go_simp; try with_reducible rfl)
        simp only [List.getElem_toArray, List.getElem_cons_zero, List.getElem_cons_succ, Act.put, List.setIfInBounds_toArray, List.set_cons_zero, List.set_cons_succ]
        refine any_take 10 (v := ?_) (by kernel_rfl) (by kernel_rfl) (by kernel_rfl) rfl (fun _ _ _ h => h) (by rfl) (And.intro a2 (And.intro b2 (And.intro c2 (And.intro d2 (And.intro e2 (And.intro f2 (And.intro g2 (And.intro h2 (And.intro i2 (And.intro j2 cv2)))))))))) ?_ ?_
        rotate_left
        · (intro y hy; simp only [List.getElem_toArray, List.getElem_cons_zero, List.getElem_cons_succ]; go_simp; try with_reducible rfl)
        simp only [List.getElem_toArray, List.getElem_cons_zero, List.getElem_cons_succ, Act.put, List.setIfInBounds_toArray, List.set_cons_zero, List.set_cons_succ]
        refine any_fork [12] (by kernel_rfl) (by simp) ?_
        refine fork_one ?_
        refine any_op rfl (fun K' hK => ?_)
        rw [if_pos (by rfl)]
        refine wp_store_row 38 (.tmp 14) (.tmp 63) rfl g #[.int .i64 R.g, .string R.k, .int .i64 R.ls, .int .i64 R.nt] rfl rfl 38 #[.int .i64 0, .string ⟨#[]⟩, .int .i64 0, .int .i64 0] HG2.out rt_info rfl (by simp [Value.oneCell']) ?_
        have HB3 : Hid (Below wr.heap.size wr (u2.setRow g #[.int .i64 R.g, .string R.k, .int .i64 R.ls, .int .i64 R.nt])) := below_setRow HB2.out hg _
        have HR3 : Hid (Rb (u2.setRow g #[.int .i64 R.g, .string R.k, .int .i64 R.ls, .int .i64 R.nt]) g R) := ⟨setRow_heap _ _ _ _ _ _ HG2.out⟩
        have HO3 := hide (HO.out.below HB3.out)
        have cv3 := cell_go HB3.out cv
        generalize u2.setRow g #[.int .i64 R.g, .string R.k, .int .i64 R.ls, .int .i64 R.nt] = u3 at HB3 HR3 HO3 cv3 ⊢
        clear a2 b2 c2 d2 e2 f2 g2 h2 i2 j2 cv2 HO2 HB2 HG2
        obtain ⟨a3, b3, c3, d3, e3, f3, g3, h3, i3, j3⟩ := HO3.out.ab.at_
        refine hK _ _ ⟨(And.intro a3 (And.intro b3 (And.intro c3 (And.intro d3 (And.intro e3 (And.intro f3 (And.intro g3 (And.intro h3 (And.intro i3 (And.intro j3 cv3)))))))))), ?_⟩
        clear hK K'
        refine any_take 13 (v := ?_) (by kernel_rfl) (by kernel_rfl) (by kernel_rfl) rfl (fun _ _ _ h => h) (by rfl) (And.intro a3 (And.intro b3 (And.intro c3 (And.intro d3 (And.intro e3 (And.intro f3 (And.intro g3 (And.intro h3 (And.intro i3 (And.intro j3 cv3)))))))))) ?_ ?_
        rotate_left
        · (intro y hy; simp only [List.getElem_toArray, List.getElem_cons_zero, List.getElem_cons_succ]; go_simp; try with_reducible rfl)
        simp only [List.getElem_toArray, List.getElem_cons_zero, List.getElem_cons_succ, Act.put, List.setIfInBounds_toArray, List.set_cons_zero, List.set_cons_succ]
        refine any_done (by kernel_rfl) ?_
        clear a3 b3 c3 d3 e3 f3 g3 h3 i3 j3 cv3
        have HL3 := hide (HL.out.below HB3.out)
        obtain ⟨rc0, rc1, rc2, rc3⟩ := HR3.out.at_
        go_wp2_with fail
        clear rc0 rc1 rc2 rc3
        refine (lput_x HL3.out (by omega) HP3.out HP4.out).mono ?_
        rintro e u4 ⟨a4, n4, c4, rfl, hL, hb, _, _⟩
        have HO4 := hide (HO3.out.below hb)
        have HR4 := hide (HR3.out.below hb)
        have HL4 := hide hL
        have cv4 := cell_go (HB3.out.trans (hb.mono HB3.out.size)) cv
        clear hL hb
        obtain ⟨rc0, rc1, rc2, rc3⟩ := HR4.out.at_
        obtain ⟨h0, h1, h2, h3⟩ := HO4.out.hk.at_
        have en := HEN.out.symm
        have er := HER.out
        have wd : IntKind.i64.wrap (-x.dn) = -x.dn := by rw [IntKind.wrap_i64]; omega
        subst er
        simp only at rc0 rc1 rc2 rc3
        have g1 : ¬ x.up < net' := by omega
        have g2 : ¬ net' < -x.dn := by omega
        go_wp2_with fail
        go_roundw
        case rel => exact ⟨i + 1, n4, c4, a4, net', _, by omega, rfl, rfl, by go_num, HLS2, HL4, HO4⟩
        case measure => simp [intOf]; omega
      · obtain ⟨E, eE⟩ : ∃ E, E = spendE L 2 A node y := ⟨_, rfl⟩
        obtain ⟨R, eR⟩ : ∃ R, R = spendR L 2 A node y := ⟨_, rfl⟩
        rw [← eE, ← eR] at SP
        have kE : (E != (0 : Int)) = true := by rw [eE]; simpa using he
        clear he eE eR
        go_wp2_with fail
        go_upto_region 9 with fail
        refine region_tree (n := 14) (fun v => v.cell? ⟨w.heap.size, 0, none⟩ = some (.string A.key) ∧ v.cell? ⟨w.heap.size, 1, none⟩ = some (.int .i64 A.lo) ∧ v.cell? ⟨w.heap.size, 2, none⟩ = some (.int .i64 A.hi) ∧ v.cell? ⟨w.heap.size, 3, none⟩ = some (.int .i64 A.base) ∧ v.cell? ⟨w.heap.size, 4, none⟩ = some (.int .i64 A.rd) ∧ v.cell? ⟨w.heap.size, 5, none⟩ = some (.slice a n c) ∧ v.cell? ⟨w.heap.size, 6, none⟩ = some (.int .i64 A.lk.c) ∧ v.cell? ⟨w.heap.size, 7, none⟩ = some (.int .i64 A.lk.s) ∧ v.cell? ⟨w.heap.size, 8, none⟩ = some (.int .i64 A.lk.h) ∧ v.cell? ⟨w.heap.size, 9, none⟩ = some (.int .i64 A.lk.n) ∧ v.cell? ⟨bv, o9 + i, none⟩ = some (.int .i64 y)) (by kernel_rfl) (by kernel_rfl) ?_
        have HO0 := hide (HO.out.below (below_drew1' _))
        have HB0 : Hid (Below wr.heap.size wr wr.drew) := below_drew1' _
        have cv0 := cell_go HB0.out cv
        generalize wr.drew = u0 at HO0 HB0 cv0 ⊢
        obtain ⟨a0, b0, c0, d0, e0, f0, g0, h0, i0, j0⟩ := HO0.out.ab.at_
        refine any_take 0 (v := ?_) (by kernel_rfl) (by kernel_rfl) (by kernel_rfl) rfl (fun _ _ _ h => h) (by rfl) (And.intro a0 (And.intro b0 (And.intro c0 (And.intro d0 (And.intro e0 (And.intro f0 (And.intro g0 (And.intro h0 (And.intro i0 (And.intro j0 cv0)))))))))) ?_ ?_
        rotate_left
        · (intro y hy; simp only [List.getElem_toArray, List.getElem_cons_zero]; go_simp; try with_reducible rfl)
        simp only [List.getElem_toArray, List.getElem_cons_zero, Act.put, List.setIfInBounds_toArray, List.set_cons_zero, List.set_cons_succ]
        refine any_take 1 (v := ?_) (by kernel_rfl) (by kernel_rfl) (by kernel_rfl) rfl (fun _ _ _ h => h) (by rfl) (And.intro a0 (And.intro b0 (And.intro c0 (And.intro d0 (And.intro e0 (And.intro f0 (And.intro g0 (And.intro h0 (And.intro i0 (And.intro j0 cv0)))))))))) ?_ ?_
        rotate_left
        · (intro y hy; obtain ⟨q0, q1, q2, q3, q4, q5, q6, q7, q8, q9, q10⟩ := hy; simp only [List.getElem_toArray, List.getElem_cons_zero, List.getElem_cons_succ]; go_simp; try with_reducible rfl)
        simp only [List.getElem_toArray, List.getElem_cons_zero, List.getElem_cons_succ, Act.put, List.setIfInBounds_toArray, List.set_cons_zero, List.set_cons_succ]
        refine any_take 2 (v := ?_) (by kernel_rfl) (by kernel_rfl) (by kernel_rfl) rfl (fun _ _ _ h => h) (by rfl) (And.intro a0 (And.intro b0 (And.intro c0 (And.intro d0 (And.intro e0 (And.intro f0 (And.intro g0 (And.intro h0 (And.intro i0 (And.intro j0 cv0)))))))))) ?_ ?_
        rotate_left
        · (intro y hy; simp only [List.getElem_toArray, List.getElem_cons_zero, List.getElem_cons_succ]; go_simp; try with_reducible rfl)
        simp only [List.getElem_toArray, List.getElem_cons_zero, List.getElem_cons_succ, Act.put, List.setIfInBounds_toArray, List.set_cons_zero, List.set_cons_succ]
        refine any_take 3 (v := ?_) (by kernel_rfl) (by kernel_rfl) (by kernel_rfl) rfl (fun _ _ _ h => h) (by rfl) (And.intro a0 (And.intro b0 (And.intro c0 (And.intro d0 (And.intro e0 (And.intro f0 (And.intro g0 (And.intro h0 (And.intro i0 (And.intro j0 cv0)))))))))) ?_ ?_
        rotate_left
        · (intro y hy; simp only [List.getElem_toArray, List.getElem_cons_zero, List.getElem_cons_succ]; go_simp; try with_reducible rfl)
        simp only [List.getElem_toArray, List.getElem_cons_zero, List.getElem_cons_succ, Act.put, List.setIfInBounds_toArray, List.set_cons_zero, List.set_cons_succ]
        refine any_take 4 (v := ?_) (by kernel_rfl) (by kernel_rfl) (by kernel_rfl) rfl (fun _ _ _ h => h) (by rfl) (And.intro a0 (And.intro b0 (And.intro c0 (And.intro d0 (And.intro e0 (And.intro f0 (And.intro g0 (And.intro h0 (And.intro i0 (And.intro j0 cv0)))))))))) ?_ ?_
        rotate_left
        · (intro y hy; simp only [List.getElem_toArray, List.getElem_cons_zero, List.getElem_cons_succ]; go_simp; try with_reducible rfl)
        simp only [List.getElem_toArray, List.getElem_cons_zero, List.getElem_cons_succ, Act.put, List.setIfInBounds_toArray, List.set_cons_zero, List.set_cons_succ]
        refine any_take 5 (v := ?_) (by kernel_rfl) (by kernel_rfl) (by kernel_rfl) rfl (fun _ _ _ h => h) (by rfl) (And.intro a0 (And.intro b0 (And.intro c0 (And.intro d0 (And.intro e0 (And.intro f0 (And.intro g0 (And.intro h0 (And.intro i0 (And.intro j0 cv0)))))))))) ?_ ?_
        rotate_left
        · (intro y hy; simp only [List.getElem_toArray, List.getElem_cons_zero, List.getElem_cons_succ]; go_simp; try with_reducible rfl)
        simp only [List.getElem_toArray, List.getElem_cons_zero, List.getElem_cons_succ, Act.put, List.setIfInBounds_toArray, List.set_cons_zero, List.set_cons_succ]
        refine any_take 6 (v := ?_) (by kernel_rfl) (by kernel_rfl) (by kernel_rfl) rfl (fun _ _ _ h => h) (by rfl) (And.intro a0 (And.intro b0 (And.intro c0 (And.intro d0 (And.intro e0 (And.intro f0 (And.intro g0 (And.intro h0 (And.intro i0 (And.intro j0 cv0)))))))))) ?_ ?_
        rotate_left
        · (intro y hy; obtain ⟨q0, q1, q2, q3, q4, q5, q6, q7, q8, q9, q10⟩ := hy; simp only [List.getElem_toArray, List.getElem_cons_zero, List.getElem_cons_succ]; go_simp; try with_reducible rfl)
        simp only [List.getElem_toArray, List.getElem_cons_zero, List.getElem_cons_succ, Act.put, List.setIfInBounds_toArray, List.set_cons_zero, List.set_cons_succ]
        refine any_fork [7, 11] (by kernel_rfl) (by simp) ?_
        refine fork_more ?_ ?_
        · skip
          refine any_op rfl (fun K' hK => ?_)
          simp only [List.getElem_toArray, List.getElem_cons_zero, List.getElem_cons_succ]
          go_simp
          refine ((SP _).out (HO0.out.bl) HB0.out).mono ?_; rintro e u1 ⟨rfl, hb⟩; have HO1 := hide (HO0.out.below hb); have HB1 : Hid (Below wr.heap.size wr u1) := HB0.out.trans (hb.mono HB0.out.size); have cv1 := cell_go hb cv0; clear a0 b0 c0 d0 e0 f0 g0 h0 i0 j0 cv0
          clear hb
          obtain ⟨a1, b1, c1, d1, e1, f1, g1, h1, i1, j1⟩ := HO1.out.ab.at_
          refine hK _ _ ⟨(And.intro a1 (And.intro b1 (And.intro c1 (And.intro d1 (And.intro e1 (And.intro f1 (And.intro g1 (And.intro h1 (And.intro i1 (And.intro j1 cv1)))))))))), ?_⟩
          clear hK K'
          refine any_take 8 (v := ?_) (by kernel_rfl) (by kernel_rfl) (by kernel_rfl) rfl (fun _ _ _ h => h) (by rfl) (And.intro a1 (And.intro b1 (And.intro c1 (And.intro d1 (And.intro e1 (And.intro f1 (And.intro g1 (And.intro h1 (And.intro i1 (And.intro j1 cv1)))))))))) ?_ ?_
          rotate_left
          · (intro y hy; simp only [List.getElem_toArray, List.getElem_cons_zero, List.getElem_cons_succ]; go_simp; try with_reducible rfl)
          simp only [List.getElem_toArray, List.getElem_cons_zero, List.getElem_cons_succ, Act.put, List.setIfInBounds_toArray, List.set_cons_zero, List.set_cons_succ]
          refine any_take 9 (v := ?_) (by kernel_rfl) (by kernel_rfl) (by kernel_rfl) rfl (fun _ _ _ h => h) (by rfl) (And.intro a1 (And.intro b1 (And.intro c1 (And.intro d1 (And.intro e1 (And.intro f1 (And.intro g1 (And.intro h1 (And.intro i1 (And.intro j1 cv1)))))))))) ?_ ?_
          rotate_left
          · (intro y hy; simp only [List.getElem_toArray, List.getElem_cons_zero, List.getElem_cons_succ]; go_simp; try with_reducible rfl)
          simp only [List.getElem_toArray, List.getElem_cons_zero, List.getElem_cons_succ, Act.put, List.setIfInBounds_toArray, List.set_cons_zero, List.set_cons_succ]
          refine any_take 10 (v := ?_) (by kernel_rfl) (by kernel_rfl) (by kernel_rfl) rfl (fun _ _ _ h => h) (by rfl) (And.intro a1 (And.intro b1 (And.intro c1 (And.intro d1 (And.intro e1 (And.intro f1 (And.intro g1 (And.intro h1 (And.intro i1 (And.intro j1 cv1)))))))))) ?_ ?_
          rotate_left
          · (intro y hy; simp only [List.getElem_toArray, List.getElem_cons_zero, List.getElem_cons_succ]; go_simp; try with_reducible rfl)
          simp only [List.getElem_toArray, List.getElem_cons_zero, List.getElem_cons_succ, Act.put, List.setIfInBounds_toArray, List.set_cons_zero, List.set_cons_succ]
          refine any_fork [11] (by kernel_rfl) (by simp) ?_
          refine fork_one ?_
          refine any_op rfl (fun K' hK => ?_)
          simp only [List.getElem_toArray, List.getElem_cons_zero, List.getElem_cons_succ]
          go_simp
          obtain ⟨u2, g, ev, el, hbz, HG2⟩ := za_new u1
          have hg : wr.heap.size ≤ g := by rw [el]; exact HB1.out.size
          have hgl : g < u2.heap.size := (Array.getElem?_eq_some_iff.1 HG2.out).1
          rw [← ev, ← el]
          clear ev el
          have HO2 := hide (HO1.out.below hbz); have HB2 : Hid (Below wr.heap.size wr u2) := HB1.out.trans (hbz.mono HB1.out.size); have cv2 := cell_go hbz cv1; clear hbz a1 b1 c1 d1 e1 f1 g1 h1 i1 j1 cv1
          obtain ⟨a2, b2, c2, d2, e2, f2, g2, h2, i2, j2⟩ := HO2.out.ab.at_
          refine hK _ _ ⟨(And.intro a2 (And.intro b2 (And.intro c2 (And.intro d2 (And.intro e2 (And.intro f2 (And.intro g2 (And.intro h2 (And.intro i2 (And.intro j2 cv2)))))))))), ?_⟩
          clear hK K'
          refine any_fork [12] (by kernel_rfl) (by simp) ?_
          refine fork_one ?_
          refine any_op rfl (fun K' hK => ?_)
          rw [if_pos (by rfl)]
          refine wp_store_row 38 (.tmp 14) (.tmp 63) rfl g #[.int .i64 R.g, .string R.k, .int .i64 R.ls, .int .i64 R.nt] rfl rfl 38 #[.int .i64 0, .string ⟨#[]⟩, .int .i64 0, .int .i64 0] HG2.out rt_info rfl (by simp [Value.oneCell']) ?_
          have HB3 : Hid (Below wr.heap.size wr (u2.setRow g #[.int .i64 R.g, .string R.k, .int .i64 R.ls, .int .i64 R.nt])) := below_setRow HB2.out hg _
          have HR3 : Hid (Rb (u2.setRow g #[.int .i64 R.g, .string R.k, .int .i64 R.ls, .int .i64 R.nt]) g R) := ⟨setRow_heap _ _ _ _ _ _ HG2.out⟩
          have HO3 := hide (HO.out.below HB3.out)
          have cv3 := cell_go HB3.out cv
          generalize u2.setRow g #[.int .i64 R.g, .string R.k, .int .i64 R.ls, .int .i64 R.nt] = u3 at HB3 HR3 HO3 cv3 ⊢
          clear a2 b2 c2 d2 e2 f2 g2 h2 i2 j2 cv2 HO2 HB2 HG2
          obtain ⟨a3, b3, c3, d3, e3, f3, g3, h3, i3, j3⟩ := HO3.out.ab.at_
          refine hK _ _ ⟨(And.intro a3 (And.intro b3 (And.intro c3 (And.intro d3 (And.intro e3 (And.intro f3 (And.intro g3 (And.intro h3 (And.intro i3 (And.intro j3 cv3)))))))))), ?_⟩
          clear hK K'
          refine any_take 13 (v := ?_) (by kernel_rfl) (by kernel_rfl) (by kernel_rfl) rfl (fun _ _ _ h => h) (by rfl) (And.intro a3 (And.intro b3 (And.intro c3 (And.intro d3 (And.intro e3 (And.intro f3 (And.intro g3 (And.intro h3 (And.intro i3 (And.intro j3 cv3)))))))))) ?_ ?_
          rotate_left
          · (intro y hy; simp only [List.getElem_toArray, List.getElem_cons_zero, List.getElem_cons_succ]; go_simp; try with_reducible rfl)
          simp only [List.getElem_toArray, List.getElem_cons_zero, List.getElem_cons_succ, Act.put, List.setIfInBounds_toArray, List.set_cons_zero, List.set_cons_succ]
          refine any_done (by kernel_rfl) ?_
          clear a3 b3 c3 d3 e3 f3 g3 h3 i3 j3 cv3
          go_wp2_with fail
          go_roundw
          case rel => exact ⟨i + 1, n1, c1, a1, net, L, by omega, rfl, rfl, by go_num, HLS, HL.out.below HB3.out, HO3⟩
          case measure => simp [intOf]; omega
        refine fork_one ?_
        refine any_op rfl (fun K' hK => ?_)
        simp only [List.getElem_toArray, List.getElem_cons_zero, List.getElem_cons_succ]
        go_simp
        obtain ⟨u1, g, ev, el, hbz, HG1⟩ := za_new u0
        have hg : wr.heap.size ≤ g := by rw [el]; exact HB0.out.size
        have hgl : g < u1.heap.size := (Array.getElem?_eq_some_iff.1 HG1.out).1
        rw [← ev, ← el]
        clear ev el
        have HO1 := hide (HO0.out.below hbz); have HB1 : Hid (Below wr.heap.size wr u1) := HB0.out.trans (hbz.mono HB0.out.size); have cv1 := cell_go hbz cv0; clear hbz a0 b0 c0 d0 e0 f0 g0 h0 i0 j0 cv0
        obtain ⟨a1, b1, c1, d1, e1, f1, g1, h1, i1, j1⟩ := HO1.out.ab.at_
        refine hK _ _ ⟨(And.intro a1 (And.intro b1 (And.intro c1 (And.intro d1 (And.intro e1 (And.intro f1 (And.intro g1 (And.intro h1 (And.intro i1 (And.intro j1 cv1)))))))))), ?_⟩
        clear hK K'
        refine any_fork [7] (by kernel_rfl) (by simp) ?_
        refine fork_one ?_
        refine any_op rfl (fun K' hK => ?_)
        simp only [List.getElem_toArray, List.getElem_cons_zero, List.getElem_cons_succ]
        go_simp
        refine ((SP _).out (HO1.out.bl) HB1.out).mono ?_; rintro e u2 ⟨rfl, hb⟩; have HO2 := hide (HO1.out.below hb); have HB2 : Hid (Below wr.heap.size wr u2) := HB1.out.trans (hb.mono HB1.out.size); have cv2 := cell_go hb cv1; clear a1 b1 c1 d1 e1 f1 g1 h1 i1 j1 cv1
        have HG2 : Hid (u2.heap[g]? = _) := (hb.block _ hgl).trans HG1.out
        clear hb
        obtain ⟨a2, b2, c2, d2, e2, f2, g2, h2, i2, j2⟩ := HO2.out.ab.at_
        refine hK _ _ ⟨(And.intro a2 (And.intro b2 (And.intro c2 (And.intro d2 (And.intro e2 (And.intro f2 (And.intro g2 (And.intro h2 (And.intro i2 (And.intro j2 cv2)))))))))), ?_⟩
        clear hK K'
        refine any_take 8 (v := ?_) (by kernel_rfl) (by kernel_rfl) (by kernel_rfl) rfl (fun _ _ _ h => h) (by rfl) (And.intro a2 (And.intro b2 (And.intro c2 (And.intro d2 (And.intro e2 (And.intro f2 (And.intro g2 (And.intro h2 (And.intro i2 (And.intro j2 cv2)))))))))) ?_ ?_
        rotate_left
        · (intro y hy; simp only [List.getElem_toArray, List.getElem_cons_zero, List.getElem_cons_succ]; go_simp; try with_reducible rfl)
        simp only [List.getElem_toArray, List.getElem_cons_zero, List.getElem_cons_succ, Act.put, List.setIfInBounds_toArray, List.set_cons_zero, List.set_cons_succ]
        refine any_take 9 (v := ?_) (by kernel_rfl) (by kernel_rfl) (by kernel_rfl) rfl (fun _ _ _ h => h) (by rfl) (And.intro a2 (And.intro b2 (And.intro c2 (And.intro d2 (And.intro e2 (And.intro f2 (And.intro g2 (And.intro h2 (And.intro i2 (And.intro j2 cv2)))))))))) ?_ ?_
        rotate_left
        · (intro y hy; simp only [List.getElem_toArray, List.getElem_cons_zero, List.getElem_cons_succ]; go_simp; try with_reducible rfl)
        simp only [List.getElem_toArray, List.getElem_cons_zero, List.getElem_cons_succ, Act.put, List.setIfInBounds_toArray, List.set_cons_zero, List.set_cons_succ]
        refine any_take 10 (v := ?_) (by kernel_rfl) (by kernel_rfl) (by kernel_rfl) rfl (fun _ _ _ h => h) (by rfl) (And.intro a2 (And.intro b2 (And.intro c2 (And.intro d2 (And.intro e2 (And.intro f2 (And.intro g2 (And.intro h2 (And.intro i2 (And.intro j2 cv2)))))))))) ?_ ?_
        rotate_left
        · (intro y hy; simp only [List.getElem_toArray, List.getElem_cons_zero, List.getElem_cons_succ]; go_simp; try with_reducible rfl)
        simp only [List.getElem_toArray, List.getElem_cons_zero, List.getElem_cons_succ, Act.put, List.setIfInBounds_toArray, List.set_cons_zero, List.set_cons_succ]
        refine any_fork [12] (by kernel_rfl) (by simp) ?_
        refine fork_one ?_
        refine any_op rfl (fun K' hK => ?_)
        rw [if_pos (by rfl)]
        refine wp_store_row 38 (.tmp 14) (.tmp 63) rfl g #[.int .i64 R.g, .string R.k, .int .i64 R.ls, .int .i64 R.nt] rfl rfl 38 #[.int .i64 0, .string ⟨#[]⟩, .int .i64 0, .int .i64 0] HG2.out rt_info rfl (by simp [Value.oneCell']) ?_
        have HB3 : Hid (Below wr.heap.size wr (u2.setRow g #[.int .i64 R.g, .string R.k, .int .i64 R.ls, .int .i64 R.nt])) := below_setRow HB2.out hg _
        have HR3 : Hid (Rb (u2.setRow g #[.int .i64 R.g, .string R.k, .int .i64 R.ls, .int .i64 R.nt]) g R) := ⟨setRow_heap _ _ _ _ _ _ HG2.out⟩
        have HO3 := hide (HO.out.below HB3.out)
        have cv3 := cell_go HB3.out cv
        generalize u2.setRow g #[.int .i64 R.g, .string R.k, .int .i64 R.ls, .int .i64 R.nt] = u3 at HB3 HR3 HO3 cv3 ⊢
        clear a2 b2 c2 d2 e2 f2 g2 h2 i2 j2 cv2 HO2 HB2 HG2
        obtain ⟨a3, b3, c3, d3, e3, f3, g3, h3, i3, j3⟩ := HO3.out.ab.at_
        refine hK _ _ ⟨(And.intro a3 (And.intro b3 (And.intro c3 (And.intro d3 (And.intro e3 (And.intro f3 (And.intro g3 (And.intro h3 (And.intro i3 (And.intro j3 cv3)))))))))), ?_⟩
        clear hK K'
        refine any_take 13 (v := ?_) (by kernel_rfl) (by kernel_rfl) (by kernel_rfl) rfl (fun _ _ _ h => h) (by rfl) (And.intro a3 (And.intro b3 (And.intro c3 (And.intro d3 (And.intro e3 (And.intro f3 (And.intro g3 (And.intro h3 (And.intro i3 (And.intro j3 cv3)))))))))) ?_ ?_
        rotate_left
        · (intro y hy; simp only [List.getElem_toArray, List.getElem_cons_zero, List.getElem_cons_succ]; go_simp; try with_reducible rfl)
        simp only [List.getElem_toArray, List.getElem_cons_zero, List.getElem_cons_succ, Act.put, List.setIfInBounds_toArray, List.set_cons_zero, List.set_cons_succ]
        refine any_done (by kernel_rfl) ?_
        clear a3 b3 c3 d3 e3 f3 g3 h3 i3 j3 cv3
        go_wp2_with fail
        go_roundw
        case rel => exact ⟨i + 1, n1, c1, a1, net, L, by omega, rfl, rfl, by go_num, HLS, HL.out.below HB3.out, HO3⟩
        case measure => simp [intOf]; omega
    · obtain rfl : i = ns := by omega
      have HLn := hide HL.out.len
      obtain ⟨B, eB⟩ : ∃ B, B = freezeA A r := ⟨_, rfl⟩
      obtain ⟨E, eE⟩ : ∃ E, E = freezeE A r := ⟨_, rfl⟩
      obtain ⟨z0, z1, z2, z3, z4, z5, z6, z7, z8, z9⟩ := HO.out.ab.at_
      have HFE := hide eE
      have HFB := hide eB
      clear eE eB l1 l2 l3 l4 l5
      go_wp2_with fail
      clear z0 z1 z2 z3 z4 z5 z6 z7 z8 z9
      refine (freeze_x (H.out.below HO.out.bl) HW.out HFB.out.symm HFE.out.symm).mono ?_
      rintro e w6 ⟨a6, n6, c6, rfl, hH, hb, _, hc⟩
      have HO6 := hide (HO.out.below hb)
      have HL6 := hide (HL.out.below hb)
      have HB6 := hide hH
      have HC6 := hide hc
      clear hH hb hc
      obtain ⟨w7, e7, hb7, ha7⟩ := one_new w6 B a6 n6 c6
      have HO7 := hide (HO6.out.below hb7)
      have HL7 := hide (HL6.out.below hb7)
      have HB7 := hide (HB6.out.below hb7)
      have HA7 := hide ha7
      clear hb7 ha7 HO6 HL6 HB6
      go_upto_region 18 with fail
      rw [← e7]
      clear e7
      obtain ⟨p16, ep⟩ : ∃ p16, p16 = w6.heap.size := ⟨_, rfl⟩
      rw [← ep] at HA7 ⊢
      clear ep
      by_cases k0 : E = 0
      · have he : freezeE A r = 0 := by rw [← HFE.out]; exact k0
        subst k0
        obtain ⟨o1, o2, o3, o4, o5, o6, o7, o8⟩ := once_end HRt.out HW.out H0.out HLS.out HF.out he
        have HWB : Hid (AcW B) := by show AcW B; rw [HFB.out]; exact acw_freeze HW.out HRI.out
        obtain ⟨_, l2, l3, _, _⟩ := HLS.out.led HRt.out HW.out
        have hn1 : n1 ≤ 1 := by rw [← HLn.out]; exact l3
        have HL2 := hide l2
        rw [← HFB.out] at o1 o2 o3 o4 o5 o6 o7 o8
        obtain ⟨C, eC⟩ : ∃ C, C = reportA B node x.ls r net := ⟨_, rfl⟩
        rw [← eC] at o5 o6 o7 o8
        obtain ⟨D, eD⟩ : ∃ D, D = thawA C := ⟨_, rfl⟩
        rw [← eD] at o7 o8
        have HWC : Hid (AcW C) := by show AcW C; rw [eC]; exact acw_report HWB.out
        have HWD : Hid (AcW D) := by show AcW D; rw [eD]; exact acw_thaw HWC.out
        have hwr : IntKind.i64.wrap (A.base + net) = A.base + net := by
          have := HWD.out.base
          rw [o8] at this
          rw [IntKind.wrap_i64]
          unfold I64 at this
          omega
        have O1 := hide o1
        have O2 := hide o2
        have O3 := hide o3
        have O4 := hide o4
        have O5 := hide o5
        have O6 := hide o6
        have O7 := hide o7
        have O8 := hide o8
        have EC := hide eC.symm
        have ED := hide eD.symm
        have one : I64 1 := ⟨by decide, by decide⟩
        clear o1 o2 o3 o4 o5 o6 o7 o8 eC eD he l2 l3
        obtain ⟨z0, z1, z2, z3, z4, z5, z6, z7, z8, z9⟩ := HA7.out.at_
        go_wp2_with fail
        clear z0 z1 z2 z3 z4 z5 z6 z7 z8 z9
        refine (spend_x (R := spendR L 2 B node 1) HL7.out HL2.out HB7.out HWB.out one O1.out rfl).mono ?_
        rintro e w8 ⟨rfl, hb⟩
        obtain ⟨R8, e8⟩ : ∃ R8, R8 = spendR L 2 B node 1 := ⟨_, rfl⟩
        rw [← e8]
        clear e8
        obtain ⟨w9, e9, hb9, hr9⟩ := rt_new w8 R8
        have hb79 : Below w7.heap.size w7 w9 := hb.trans (hb9.mono hb.size)
        have HO9 := hide (HO7.out.below hb79)
        have HL9 := hide (HL7.out.below hb79)
        have HB9 := hide (HB7.out.below hb79)
        have HA9 := hide (HA7.out.below hb79)
        clear hb hb9 hr9 hb79 HO7 HL7 HB7 HA7
        go_upto_region 21 with fail
        rw [← e9]
        clear e9
        obtain ⟨z0, z1, z2, z3, z4, z5, z6, z7, z8, z9⟩ := HA9.out.at_
        go_wp2_with fail
        clear z0 z1 z2 z3 z4 z5 z6 z7 z8 z9
        obtain ⟨C9, e9c⟩ : ∃ C9 : Cmd, C9 = ⟨2, node, A.key, x.ls, r, net⟩ := ⟨_, rfl⟩
        have HC9 := hide e9c
        refine (report_lx HL9.out HL2.out HB9.out HWB.out O2.out (O3.out.trans e9c.symm)).mono ?_
        clear e9c
        rintro e w10 ⟨rfl, hb⟩
        obtain ⟨w11, e11, hb11, hc11⟩ := cb_new w10 C9
        have hbx : Below w9.heap.size w9 w11 := hb.trans (hb11.mono hb.size)
        have HO11 := hide (HO9.out.below hbx)
        have HL11 := hide (HL9.out.below hbx)
        have HB11 := hide (HB9.out.below hbx)
        have HA11 := hide (HA9.out.below hbx)
        have HC11 := hide hc11
        clear hb hb11 hc11 hbx HO9 HL9 HB9 HA9
        go_upto_region 22 with (refine wpList_store_row rfl 52 (.tmp 20) (.tmp 140) rfl w10.heap.size #[.int .i64 C9.kind, .int .i64 0, .int .i64 0, .int .i64 0, .int .i64 C9.node, .int .i64 0, .string C9.key, .int .i64 C9.ls, .int .i64 C9.rd, .int .i64 C9.nt, .bool false, .int .i64 0, .string ⟨#[]⟩, .string ⟨#[]⟩, .int .i64 0, .int .i64 0, .int .i64 0, .int .i64 0, .int .i64 0, .int .i64 0, .string ⟨#[]⟩, .string ⟨#[]⟩, .int .i64 0, .int .i64 0, .slice none 0 0] rfl rfl 52 #[.int .i64 0, .int .i64 0, .int .i64 0, .int .i64 0, .int .i64 0, .int .i64 0, .string ⟨#[]⟩, .int .i64 0, .int .i64 0, .int .i64 0, .bool false, .int .i64 0, .string ⟨#[]⟩, .string ⟨#[]⟩, .int .i64 0, .int .i64 0, .int .i64 0, .int .i64 0, .int .i64 0, .int .i64 0, .string ⟨#[]⟩, .string ⟨#[]⟩, .int .i64 0, .int .i64 0, .slice none 0 0] (heap_alloc_new w10 _) cm_info rfl (by simp [Value.oneCell']) ?_)
        rw [← e11]
        clear e11
        obtain ⟨p20, ep⟩ : ∃ p20, p20 = w10.heap.size := ⟨_, rfl⟩
        rw [← ep] at HC11 ⊢
        clear ep
        obtain ⟨z0, z1, z2, z3, z4, z5, z6, z7, z8, z9⟩ := HA11.out.at_
        obtain ⟨y4, y7, y8, y9⟩ := HC11.out.at_
        go_wp2_with fail
        clear z0 z1 z2 z3 z4 z5 z6 z7 z8 z9 y4 y7 y8 y9
        rw [show C9.node = node by rw [HC9.out], show C9.ls = x.ls by rw [HC9.out], show C9.rd = r by rw [HC9.out], show C9.nt = net by rw [HC9.out]]
        refine (report_x HB11.out HWB.out HC6.out EC.out O4.out).mono ?_
        rintro e w12 ⟨a12, n12, c12, rfl, hH, hb, _, hc⟩
        have HO12 := hide (HO11.out.below hb)
        have HL12 := hide (HL11.out.below hb)
        have HC12 := hide (HC11.out.below hb)
        obtain ⟨w13, e13, hb13, ha13⟩ := one_new w12 C a12 n12 c12
        have BW13 := hide hb13
        have HB13 := hide (hH.below hb13)
        have HA13 := hide ha13
        clear hb hb13 ha13 hH hc HO11 HL11 HC11 HB11 HA11
        go_upto_region 23 with fail
        rw [← e13]
        clear e13
        obtain ⟨p22, ep⟩ : ∃ p22, p22 = w12.heap.size := ⟨_, rfl⟩
        have EP := hide ep
        rw [← ep] at HA13 ⊢
        clear ep
        obtain ⟨z0, z1, z2, z3, z4, z5, z6, z7, z8, z9⟩ := HA13.out.at_
        go_wp2_with fail
        clear z0 z1 z2 z3 z4 z5 z6 z7 z8 z9
        refine (report_lx (C := repC L 2 C node) (HL12.out.below BW13.out) HL2.out HB13.out HWC.out O5.out rfl).mono ?_
        rintro e w14 ⟨rfl, hb⟩
        obtain ⟨C8, e8⟩ : ∃ C8, C8 = repC L 2 C node := ⟨_, rfl⟩
        rw [← e8]
        clear e8
        obtain ⟨w15, e15, hb15, hc15⟩ := cb_new w14 C8
        have hbx : Below w13.heap.size w13 w15 := hb.trans (hb15.mono hb.size)
        have BW15 : Hid (Below w12.heap.size w12 w15) := BW13.out.trans (hbx.mono BW13.out.size)
        have HB15 := hide (HB13.out.below hbx)
        have HA15 := hide (HA13.out.below hbx)
        clear hb hb15 hc15 hbx HB13 HA13
        go_upto_region 24 with (refine wpList_store_row rfl 52 (.tmp 24) (.tmp 160) rfl w14.heap.size #[.int .i64 C8.kind, .int .i64 0, .int .i64 0, .int .i64 0, .int .i64 C8.node, .int .i64 0, .string C8.key, .int .i64 C8.ls, .int .i64 C8.rd, .int .i64 C8.nt, .bool false, .int .i64 0, .string ⟨#[]⟩, .string ⟨#[]⟩, .int .i64 0, .int .i64 0, .int .i64 0, .int .i64 0, .int .i64 0, .int .i64 0, .string ⟨#[]⟩, .string ⟨#[]⟩, .int .i64 0, .int .i64 0, .slice none 0 0] rfl rfl 52 #[.int .i64 0, .int .i64 0, .int .i64 0, .int .i64 0, .int .i64 0, .int .i64 0, .string ⟨#[]⟩, .int .i64 0, .int .i64 0, .int .i64 0, .bool false, .int .i64 0, .string ⟨#[]⟩, .string ⟨#[]⟩, .int .i64 0, .int .i64 0, .int .i64 0, .int .i64 0, .int .i64 0, .int .i64 0, .string ⟨#[]⟩, .string ⟨#[]⟩, .int .i64 0, .int .i64 0, .slice none 0 0] (heap_alloc_new w14 _) cm_info rfl (by simp [Value.oneCell']) ?_)
        rw [← e15]
        clear e15
        obtain ⟨z0, z1, z2, z3, z4, z5, z6, z7, z8, z9⟩ := HA15.out.at_
        go_wp2_with fail
        clear z0 z1 z2 z3 z4 z5 z6 z7 z8 z9
        refine (thaw_x HB15.out HWC.out ED.out O6.out).mono ?_
        rintro e w16 ⟨a16, n16, c16, rfl, hH, hb, hf16, hc⟩
        have BW16 : Hid (Below w12.heap.size w12 w16) := BW15.out.trans (hb.mono BW15.out.size)
        have HA16 := hide (HA15.out.below hb)
        have h15 : p22 < w15.heap.size := HA15.out.lt
        obtain ⟨w17, e17⟩ : ∃ w17, w17 = w16.setRow p22 #[.string D.key, .int .i64 D.lo, .int .i64 D.hi, .int .i64 D.base, .int .i64 D.rd, .slice a16 n16 c16, .int .i64 D.lk.c, .int .i64 D.lk.s, .int .i64 D.lk.h, .int .i64 D.lk.n] := ⟨_, rfl⟩
        have BW17 : Hid (Below w12.heap.size w12 w17) := by rw [e17]; exact below_setRow BW16.out (by rw [EP.out]; exact Nat.le_refl _) _
        have HA17 : Hid (Ab w17 p22 D a16 n16 c16) := by rw [e17]; exact ⟨setRow_heap _ _ _ _ _ _ HA16.out.row⟩
        have HB17 : Hid (Hs w17 a16 n16 D.hs) := by rw [e17]; exact hH.setRow (fun ad e9 => by have := hf16 ad e9; omega)
        have HO17 := hide (HO12.out.below BW17.out)
        have HL17 := hide (HL12.out.below BW17.out)
        have HC17 := hide (HC12.out.below BW17.out)
        clear hb hH hc hf16 h15 HB15 HA15 BW13 BW15 BW16
        go_upto_region 25 with (refine wpList_store_row rfl 28 (.tmp 22) (.tmp 165) rfl p22 #[.string D.key, .int .i64 D.lo, .int .i64 D.hi, .int .i64 D.base, .int .i64 D.rd, .slice a16 n16 c16, .int .i64 D.lk.c, .int .i64 D.lk.s, .int .i64 D.lk.h, .int .i64 D.lk.n] rfl rfl 28 #[.string C.key, .int .i64 C.lo, .int .i64 C.hi, .int .i64 C.base, .int .i64 C.rd, .slice a12 n12 c12, .int .i64 C.lk.c, .int .i64 C.lk.s, .int .i64 C.lk.h, .int .i64 C.lk.n] HA16.out.row ac_info rfl (by simp [Value.oneCell']) ?_)
        rw [← e17]
        clear e17 HA16
        obtain ⟨z0, z1, z2, z3, z4, z5, z6, z7, z8, z9⟩ := HA17.out.at_
        go_wp2_with fail
        clear z0 z1 z2 z3 z4 z5 z6 z7 z8 z9
        refine (spend_x (R := spendR L 2 D node 1) HL17.out HL2.out HB17.out HWD.out one O7.out rfl).mono ?_
        rintro e w18 ⟨rfl, hb⟩
        obtain ⟨R9, e9r⟩ : ∃ R9, R9 = spendR L 2 D node 1 := ⟨_, rfl⟩
        rw [← e9r]
        clear e9r
        obtain ⟨w19, e19, hb19, hr19⟩ := rt_new w18 R9
        have hbx : Below w17.heap.size w17 w19 := hb.trans (hb19.mono hb.size)
        have HO19 := hide (HO17.out.below hbx)
        have HC19 := hide (HC17.out.below hbx)
        have HA19 := hide (HA17.out.below hbx)
        clear hb hb19 hr19 hbx HO17 HL17 HC17 HB17 HA17 HL12 HC12 HO12
        go_upto_region 26 with fail
        rw [← e19]
        clear e19
        have zA := HO19.out.ab.at_.c3
        have zD := HA19.out.at_.c3
        have zC := HC19.out.at_.2.2.2
        have k8 := O8.out
        have k9 : C9.nt = net := by rw [HC9.out]
        rw [k9] at zC
        rw [k8] at zD
        clear k8 k9
        go_wp2_with fail
        go_returns
        exact ⟨by first | rfl | simp, HO19.out.bl⟩
      · have kE : (E != (0 : Int)) = true := by simpa using k0
        clear k0
        go_wp2_with fail
        go_returns
        exact ⟨rfl, HO7.out.bl⟩
theorem walk {w : World} {a sp : Option Addr} {n c ns cs : Nat} {A : Ac} {node r : Int} {vs : List Int} (h : Hs w a n A.hs) (hw : AcW A) (hvs : Rl ienc 1 8 w sp ns vs) (hvi : ∀ x ∈ vs, I64 x) (hn : I64 node) (hr : I64 r) :
    Calls Try.prog 3 #[acval A a n c, .int .i64 node, .slice sp ns cs, .int .i64 r] w fun e w' => e = .returned (.bool true) ∧ Below w.heap.size w w' := by
  cases hR : rightB A
  · exact walk_wrong hR h hw hvs hvi hn hr
  · by_cases h0 : A.rd = 0
    · cases hf : findH A.hs node with
      | none => exact walk_none hR h0 hf h hw hvs hvi hn hr
      | some x => exact walk_some hR h0 hf h hw hvs hvi hn hr
    · exact walk_frozen hR h0 h hw hvs hvi hn hr

set_option maxRecDepth 100000 in
theorem lifted (os : Os) (started : os.Started) (H : Type) (enc : TypeId × Value → H) :
    ReturnsInHanded {} Try.checked os 3 .any (Rows.ledgerOnceSpec.pre6 enc Try.prog Try.f3 Rows.ledgerOnceRow.domain false) (Rows.ledgerOnceSpec.post enc Try.prog Try.f3 false true false false) := by
  refine returnsInHanded_of_change_sized (C := Try.checked) own started (by kernel_rfl) Try.func3
    (ChangeSpec.witness6 (enc := enc) (C := Try.checked) false ⟨#[], #[.agg #[.string ByteArray.empty, .int .i64 0, .int .i64 0, .int .i64 0, .int .i64 0, .slice none 0 0, .int .i64 0, .int .i64 0, .int .i64 0, .int .i64 0], .int .i64 0, .slice none 0 0, .int .i64 0], []⟩ 8 (by kernel_rfl) (by kernel_rfl) (by kernel_rfl) (by kernel_rfl)) ?_
  intro W base args ds gs before hval0 hW hcnd hsz0 _
  have hsz : (DataW.weightsEach Try.prog (Try.f3.params.toList ++ Rows.ledgerOnceSpec.plain.varTypes Try.prog) (ds ++ gs)).all (· ≤ reachBytes) = true := hsz0
  have hval : ∀ (j : Nat) t v, Try.f3.params[j]? = some t → args[j]? = some v → Value.okWide Try.prog W .any base t v := hval0
  have hW' := hW
  obtain ⟨p, q, hA0, hV, rfl, hfz, hnd⟩ := hW
  have hA : DataW.TrodAll enc Try.prog W 0 (fun _ => true) true Try.f3.params.toList args.toList ds p := hA0
  rw [Try.params3] at hA hval hsz
  obtain ⟨v0, vs0, d0, ds0, p0, q0, hargs, rfl, rfl, h0, r0⟩ := trodAll_cons hA
  obtain ⟨v1, vs1, d1, ds1, p1, q1, rfl, rfl, rfl, h1, r1⟩ := trodAll_cons r0
  obtain ⟨v2, vs2, d2, ds2, p2, q2, rfl, rfl, rfl, h2, r2⟩ := trodAll_cons r1
  obtain ⟨v3, vs3, d3, ds3, p3, q3, rfl, rfl, rfl, h3, r3⟩ := trodAll_cons r2
  obtain ⟨rfl, rfl, rfl⟩ := trodAll_nil r3
  obtain rfl : args = #[v0, v1, v2, v3] := by cases args; simp_all
  obtain ⟨rfl, rfl⟩ := trodVars_none hV
  have lt0 : ∀ x ∈ p0, x.block < W.heap.size := by obtain ⟨m, hm⟩ := h0; exact DataW.trod_lt m _ _ _ hm
  obtain ⟨a, n, c, A, rfl, k0, kw0, kc0⟩ := open_account_held (hval 0 28 v0 rfl rfl) h0 (fun n hn => by have h := List.all_eq_true.1 hsz n (DataW.weights_mem_each (j := 0) rfl rfl n hn); simpa using h)
  have lt1 : ∀ x ∈ p1, x.block < W.heap.size := by obtain ⟨m, hm⟩ := h1; exact DataW.trod_lt m _ _ _ hm
  obtain ⟨node, rfl, hn⟩ := open_i64 (hval 1 3 v1 rfl rfl) h1
  have lt2 : ∀ x ∈ p2, x.block < W.heap.size := by obtain ⟨m, hm⟩ := h2; exact DataW.trod_lt m _ _ _ hm
  obtain ⟨sp, ns, cs, vs, rfl, kv, kvi⟩ := open_ints_held (hval 2 29 v2 rfl rfl) h2 (fun n hn => by have h := List.all_eq_true.1 hsz n (DataW.weights_mem_each (j := 2) rfl rfl n hn); simpa using h)
  have lt3 : ∀ x ∈ p3, x.block < W.heap.size := by obtain ⟨m, hm⟩ := h3; exact DataW.trod_lt m _ _ _ hm
  obtain ⟨r, rfl, hr⟩ := open_i64 (hval 3 3 v3 rfl rfl) h3
  clear hA0 hval0
  refine (walk k0 kw0 kv kvi hn hr).mono fun e W' ⟨he, bel⟩ => ?_
  subst he
  exact ⟨_, rfl, _, _, _, [], _, [], hW', trodAll_mk1 (shut_bool Try.underlying4 _), (trodAll_cons_mk (Below.trod laidOut (by kernel_rfl) (of_decide_eq_true (by kernel_rfl)) h0 bel lt0) (trodAll_cons_mk (Below.trod laidOut (by kernel_rfl) (of_decide_eq_true (by kernel_rfl)) h1 bel lt1) (trodAll_cons_mk (Below.trod laidOut (by kernel_rfl) (of_decide_eq_true (by kernel_rfl)) h2 bel lt2) (trodAll_cons_mk (Below.trod laidOut (by kernel_rfl) (of_decide_eq_true (by kernel_rfl)) h3 bel lt3) trodAll_mk0)))), rfl, bel.frame _, fun h => by cases h⟩

theorem over : Rows.ledgerOnceRow.holds Try.pinned (OpenSpec.ofChange Rows.ledgerOnceSpec) :=
  OpenClaim.holds_of_wide 3 Try.f3 rfl rfl rfl rfl rfl rfl rfl ⟨rfl, rfl, rfl, rfl, rfl⟩ rfl rfl rfl rfl rfl (by kernel_rfl) Try.func3 (by kernel_rfl)
    (of_decide_eq_true (by kernel_rfl)) (by unfold Func.isWrapper; first | (rw [if_pos (by decide +kernel)]; kernel_rfl) | (rw [if_neg (by decide +kernel)]; exact ⟨rfl, rfl⟩))
    (fun os started H enc _ => lifted os started H enc)

theorem proved : Rows.LedgerOnceSaid := over
#print axioms proved
end LedgerOnce
theorem ledgerOnce_holds : Rows.LedgerOnceSaid := LedgerOnce.proved
end Go.Proofs.Ytjcbhgkfbilifab
