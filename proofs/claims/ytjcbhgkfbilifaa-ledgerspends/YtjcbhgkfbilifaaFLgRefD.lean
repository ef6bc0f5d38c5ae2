/- What a node may spend: the document's within, held, Spend. Condition: the ledger and the account can be read. -/
import Derived.Test.YtjcbhgkfbilifaaJZ
import Derived.Test.YtjcbhgkfbilifaaJY
import Derived.Test.YtjcbhgkfbilifaaFAcoRight
import Derived.Test.YtjcbhgkfbilifaaFAcoRefB
namespace Go.Proofs.Ytjcbhgkfbilifaa
open Go.ChangeShapes Go.WideShapes Go.ChangeAt Go.RowKit Ao Lg
set_option linter.unusedVariables false

theorem fl_wide (a b : Int) (w : World) : (Instr.field 112 (.agg #[.int .i64 a, .int .u64 b]) 0).run Try.prog w = .ok (.int .i64 a) w := by kernel_rfl
theorem arr_two (u : World) (x y : Int) : ∃ v, v = u.alloc (.cells #[.int .i64 x, .int .i64 y] 3) ∧ Below u.heap.size u v ∧ v.cell? ⟨u.heap.size, 0, none⟩ = some (.int .i64 x) ∧ v.cell? ⟨u.heap.size, 1, none⟩ = some (.int .i64 y) := by
  refine ⟨_, rfl, Below.alloc (Below.refl _ _) (Nat.le_refl _) _, ?_, ?_⟩ <;> (rw [cell_of_row _ _ _ _ _ _ (heap_alloc_new u _)]; rfl)
set_option maxRecDepth 100000 in
set_option maxHeartbeats 4000000 in
theorem rwithin_any {h : Hd} {net n : Int} (w : World) (hw : HdW h) (h1 : I64 net) (h2 : I64 n) : Calls Try.prog 71 #[.agg #[.int .i64 h.nd, .int .i64 h.ls, .int .i64 h.up, .int .i64 h.dn], .int .i64 net, .int .i64 n] w fun e w' => e = .returned (.bool (spB h (net + n))) ∧ Below w.heap.size w w' := by
  have hu := hw.up
  have hd := hw.dn
  obtain ⟨w1, e1, hb1, hk1⟩ := hk_new w h
  obtain ⟨w2, e2, hb2, ca, cb⟩ := arr_two w1 net n
  have es : w1.heap.size = w.heap.size + 1 := by rw [e1]; simp
  rw [es] at ca cb
  have HB2 : Hid (Below w.heap.size w w2) := hb1.trans (hb2.mono hb1.size)
  have HK2 := hide (hk1.below hb2)
  have OF := hide (of_two ca cb h1 h2)
  have AB := fun W => hide (above_any (z := net + n) (n := h.up) W (by unfold I64 at *; omega) (by unfold I64 at *; omega) hu)
  have PL := fun W => hide (plus_w (z := net + n) (n := h.dn) W (by unfold I64 at *; omega) (by unfold I64 at *; omega) hd)
  have HG : Hid (decide (0 ≤ hiOf (net + n + h.dn)) = decide (-h.dn ≤ net + n)) := by show _ = _; apply decide_eq_decide.2; unfold hiOf; omega
  have HS : Hid (spB h (net + n) = (!decide (h.up < net + n) && decide (-h.dn ≤ net + n))) := by
    show _ = _
    unfold spB
    by_cases a1 : h.up < net + n
    · rw [decide_eq_true a1, decide_eq_false (by omega)]; rfl
    · rw [decide_eq_false a1]
      by_cases a2 : -h.dn ≤ net + n
      · rw [decide_eq_true a2, decide_eq_true (by omega)]; rfl
      · rw [decide_eq_false a2, decide_eq_false (by omega)]; rfl
  rw [HS.out]
  clear HS hw h1 h2 hu hd hb1 hb2 hk1 ca cb es
  generalize hiOf (net + n + h.dn) = q1 at PL HG
  generalize loOf (net + n + h.dn) = q2 at PL
  generalize decide (-h.dn ≤ net + n) = z2 at HG ⊢
  cases z1 : decide (h.up < net + n)
  · rw [z1] at AB
    clear z1
    go_enter Try.func71, Try.ntmps71
    go_wp2_with fail
    rw [← e1, ← e2]
    clear e2 e1
    refine OF.out.mono ?_
    rintro e w3 ⟨rfl, hb⟩
    have HB3 : Hid (Below w.heap.size w w3) := HB2.out.trans (hb.mono HB2.out.size)
    have HK3 := hide (HK2.out.below hb)
    clear hb
    obtain ⟨w4, e4, hb4, hw4⟩ := wb_new w3 (net + n)
    have HB4 : Hid (Below w.heap.size w w4) := HB3.out.trans (hb4.mono HB3.out.size)
    have HK4 := hide (HK3.out.below hb4)
    have HW4 := hide hw4
    clear hb4 hw4
    go_upto_region 2 with fail
    rw [← e4]
    clear e4
    obtain ⟨p, ep⟩ : ∃ p, p = w3.heap.size := ⟨_, rfl⟩
    rw [← ep] at HW4 ⊢
    clear ep
    obtain ⟨y0, y1⟩ := HW4.out.at_
    obtain ⟨x0, x1, x2, x3⟩ := HK4.out.at_
    go_wp2_with fail
    clear y0 y1 x0 x1 x2 x3
    refine (AB _).out.mono ?_
    rintro e w5 ⟨rfl, hb⟩
    have HB5 : Hid (Below w.heap.size w w5) := HB4.out.trans (hb.mono HB4.out.size)
    obtain ⟨y0, y1⟩ := (HW4.out.below hb).at_
    obtain ⟨x0, x1, x2, x3⟩ := (HK4.out.below hb).at_
    clear hb
    go_wp2_with fail
    clear y0 y1 x0 x1 x2 x3
    refine (PL _).out.mono ?_
    rintro e w6 ⟨rfl, hb⟩
    have HB6 : Hid (Below w.heap.size w w6) := HB5.out.trans (hb.mono HB5.out.size)
    clear hb
    have qF := fun W => fl_wide q1 q2 W
    go_wp2_with fail
    go_returns
    exact ⟨by rw [← HG.out]; first | rfl | simp, HB6.out⟩
  · rw [z1] at AB
    clear z1 PL HG
    go_enter Try.func71, Try.ntmps71
    go_wp2_with fail
    rw [← e1, ← e2]
    clear e2 e1
    refine OF.out.mono ?_
    rintro e w3 ⟨rfl, hb⟩
    have HB3 : Hid (Below w.heap.size w w3) := HB2.out.trans (hb.mono HB2.out.size)
    have HK3 := hide (HK2.out.below hb)
    clear hb
    obtain ⟨w4, e4, hb4, hw4⟩ := wb_new w3 (net + n)
    have HB4 : Hid (Below w.heap.size w w4) := HB3.out.trans (hb4.mono HB3.out.size)
    have HK4 := hide (HK3.out.below hb4)
    have HW4 := hide hw4
    clear hb4 hw4
    go_upto_region 2 with fail
    rw [← e4]
    clear e4
    obtain ⟨p, ep⟩ : ∃ p, p = w3.heap.size := ⟨_, rfl⟩
    rw [← ep] at HW4 ⊢
    clear ep
    obtain ⟨y0, y1⟩ := HW4.out.at_
    obtain ⟨x0, x1, x2, x3⟩ := HK4.out.at_
    go_wp2_with fail
    clear y0 y1 x0 x1 x2 x3
    refine (AB _).out.mono ?_
    rintro e w5 ⟨rfl, hb⟩
    have HB5 : Hid (Below w.heap.size w w5) := HB4.out.trans (hb.mono HB4.out.size)
    clear hb
    go_wp2_with fail
    go_returns
    exact ⟨by first | rfl | simp, HB5.out⟩
/-- the document's held: the holder, and what is refused -/
def rhE (l : List Rt) (g : Int) (A : Ac) (node : Int) (z : Bool) : Int := if heldE l g A node = 21 then 21 else if z = true then 1 else if heldE l g A node = 0 then (if A.rd = 0 then 0 else 152) else heldE l g A node
def rhH (l : List Rt) (g : Int) (A : Ac) (node : Int) (z : Bool) : Hd := if rhE l g A node z = 0 then heldH l g A node else hd0
set_option maxRecDepth 100000 in
set_option maxHeartbeats 8000000 in
theorem rheld_a {w : World} {b a : Option Addr} {m d n c : Nat} {l : List Rt} {g node : Int} {A : Ac} {z : Bool} (hl : Rs w b m l) (h : Hs w a n A.hs) (hw : AcW A) (e1 : ledB l = false) :
    Calls Try.prog 70 #[.slice b m d, .int .i64 g, .agg #[.string A.key, .int .i64 A.lo, .int .i64 A.hi, .int .i64 A.base, .int .i64 A.rd, .slice a n c, .int .i64 A.lk.c, .int .i64 A.lk.s, .int .i64 A.lk.h, .int .i64 A.lk.n], .int .i64 node, .bool z] w fun e w' => e = .returned (.tuple #[.agg #[.int .i64 0, .int .i64 0, .int .i64 0, .int .i64 0], .int .i64 21]) ∧ Below w.heap.size w w' := by
  have RL := fun W => hide (fun hW : Below w.heap.size w W => rledger_any (c := d) (hl.below hW))
  have RR := fun W => hide (fun hW : Below w.heap.size w W => rright_any (c := c) (h.below hW) hw)
  have GR := fun W => hide (rgroup_any g W)
  have FI := fun W => hide (fun hW : Below w.heap.size w W => rfind_any (c := c) (node := node) (h.below hW) hw)
  unfold findF at FI
  rw [e1] at RL
  clear hl h hw e1 RR GR FI
  obtain ⟨w1, ew, hb1, ha1, hz1⟩ := hz_new w A a n c
  have HB1 := hide hb1
  have HA1 := hide ha1
  have HZ1 : Hid (w1.heap[w.heap.size + 1]? = _) := hz1
  have hq1 : w.heap.size + 1 < w1.heap.size := (Array.getElem?_eq_some_iff.1 hz1).1
  clear hb1 ha1 hz1
  go_enter Try.func70, Try.ntmps70
  go_wp2_with fail
  rw [← ew]
  clear ew
  refine ((RL _).out HB1.out).mono ?_
  rintro e w2 ⟨rfl, hb⟩
  have HB2 : Hid (Below w.heap.size w w2) := HB1.out.trans (hb.mono HB1.out.size)
  have HA2 := hide (HA1.out.below hb)
  have HZ2 : Hid (w2.heap[w.heap.size + 1]? = _) := (hb.block _ hq1).trans HZ1.out
  have hq2 : w.heap.size + 1 < w2.heap.size := Nat.lt_of_lt_of_le hq1 hb.size
  clear hb HB1 HA1 HZ1 hq1
  obtain ⟨z0, z1, z2, z3, z4, z5, z6, z7, z8, z9⟩ := HA2.out.at_
  go_upto_region 2 with (fail)
  go_wp2_with (refine wpList_store_row rfl 33 (.tmp 10) (.tmp 22) rfl (w.heap.size + 1) #[.int .i64 0, .int .i64 0, .int .i64 0, .int .i64 0] rfl rfl 33 #[.int .i64 0, .int .i64 0, .int .i64 0, .int .i64 0] HZ2.out hd_info rfl (by simp [Value.oneCell']) ?_)
  refine bodyPost_ret (v := .tuple #[.agg #[.int .i64 0, .int .i64 0, .int .i64 0, .int .i64 0], .int .i64 21]) ?r ?d ?_
  case r => exact results_cell_tmp' rfl _ _ (w.heap.size + 1) 33 #[.int .i64 0, .int .i64 0, .int .i64 0, .int .i64 0] (0, 0) _ (.int .i64 21) rfl rfl (setRow_heap _ _ _ _ _ _ HZ2.out) Try.underlying33 rfl hd_info
  case d => rfl
  exact ⟨rfl, below_setRow HB2.out (by omega) _⟩
set_option maxRecDepth 100000 in
set_option maxHeartbeats 8000000 in
theorem rheld_b {w : World} {b a : Option Addr} {m d n c : Nat} {l : List Rt} {g node : Int} {A : Ac} {z : Bool} (hl : Rs w b m l) (h : Hs w a n A.hs) (hw : AcW A) (e1 : ledB l = true) (e2 : rightB A = false) :
    Calls Try.prog 70 #[.slice b m d, .int .i64 g, .agg #[.string A.key, .int .i64 A.lo, .int .i64 A.hi, .int .i64 A.base, .int .i64 A.rd, .slice a n c, .int .i64 A.lk.c, .int .i64 A.lk.s, .int .i64 A.lk.h, .int .i64 A.lk.n], .int .i64 node, .bool z] w fun e w' => e = .returned (.tuple #[.agg #[.int .i64 0, .int .i64 0, .int .i64 0, .int .i64 0], .int .i64 21]) ∧ Below w.heap.size w w' := by
  have RL := fun W => hide (fun hW : Below w.heap.size w W => rledger_any (c := d) (hl.below hW))
  have RR := fun W => hide (fun hW : Below w.heap.size w W => rright_any (c := c) (h.below hW) hw)
  have GR := fun W => hide (rgroup_any g W)
  have FI := fun W => hide (fun hW : Below w.heap.size w W => rfind_any (c := c) (node := node) (h.below hW) hw)
  unfold findF at FI
  rw [e1] at RL
  rw [e2] at RR
  clear hl h hw e1 e2 GR FI
  obtain ⟨w1, ew, hb1, ha1, hz1⟩ := hz_new w A a n c
  have HB1 := hide hb1
  have HA1 := hide ha1
  have HZ1 : Hid (w1.heap[w.heap.size + 1]? = _) := hz1
  have hq1 : w.heap.size + 1 < w1.heap.size := (Array.getElem?_eq_some_iff.1 hz1).1
  clear hb1 ha1 hz1
  go_enter Try.func70, Try.ntmps70
  go_wp2_with fail
  rw [← ew]
  clear ew
  refine ((RL _).out HB1.out).mono ?_
  rintro e w2 ⟨rfl, hb⟩
  have HB2 : Hid (Below w.heap.size w w2) := HB1.out.trans (hb.mono HB1.out.size)
  have HA2 := hide (HA1.out.below hb)
  have HZ2 : Hid (w2.heap[w.heap.size + 1]? = _) := (hb.block _ hq1).trans HZ1.out
  have hq2 : w.heap.size + 1 < w2.heap.size := Nat.lt_of_lt_of_le hq1 hb.size
  clear hb HB1 HA1 HZ1 hq1
  obtain ⟨z0, z1, z2, z3, z4, z5, z6, z7, z8, z9⟩ := HA2.out.at_
  go_wp2_with fail
  clear z0 z1 z2 z3 z4 z5 z6 z7 z8 z9
  refine ((RR _).out HB2.out).mono ?_
  rintro e w3 ⟨rfl, hb⟩
  have HB3 : Hid (Below w.heap.size w w3) := HB2.out.trans (hb.mono HB2.out.size)
  have HA3 := hide (HA2.out.below hb)
  have HZ3 : Hid (w3.heap[w.heap.size + 1]? = _) := (hb.block _ hq2).trans HZ2.out
  have hq3 : w.heap.size + 1 < w3.heap.size := Nat.lt_of_lt_of_le hq2 hb.size
  clear hb HB2 HA2 HZ2 hq2
  obtain ⟨z0, z1, z2, z3, z4, z5, z6, z7, z8, z9⟩ := HA3.out.at_
  go_upto_region 2 with (fail)
  go_wp2_with (refine wpList_store_row rfl 33 (.tmp 10) (.tmp 22) rfl (w.heap.size + 1) #[.int .i64 0, .int .i64 0, .int .i64 0, .int .i64 0] rfl rfl 33 #[.int .i64 0, .int .i64 0, .int .i64 0, .int .i64 0] HZ3.out hd_info rfl (by simp [Value.oneCell']) ?_)
  refine bodyPost_ret (v := .tuple #[.agg #[.int .i64 0, .int .i64 0, .int .i64 0, .int .i64 0], .int .i64 21]) ?r ?d ?_
  case r => exact results_cell_tmp' rfl _ _ (w.heap.size + 1) 33 #[.int .i64 0, .int .i64 0, .int .i64 0, .int .i64 0] (0, 0) _ (.int .i64 21) rfl rfl (setRow_heap _ _ _ _ _ _ HZ3.out) Try.underlying33 rfl hd_info
  case d => rfl
  exact ⟨rfl, below_setRow HB3.out (by omega) _⟩
set_option maxRecDepth 100000 in
set_option maxHeartbeats 8000000 in
theorem rheld_c {w : World} {b a : Option Addr} {m d n c : Nat} {l : List Rt} {g node : Int} {A : Ac} {z : Bool} (hl : Rs w b m l) (h : Hs w a n A.hs) (hw : AcW A) (e1 : ledB l = true) (e2 : rightB A = true) (e3 : grpB g = false) :
    Calls Try.prog 70 #[.slice b m d, .int .i64 g, .agg #[.string A.key, .int .i64 A.lo, .int .i64 A.hi, .int .i64 A.base, .int .i64 A.rd, .slice a n c, .int .i64 A.lk.c, .int .i64 A.lk.s, .int .i64 A.lk.h, .int .i64 A.lk.n], .int .i64 node, .bool z] w fun e w' => e = .returned (.tuple #[.agg #[.int .i64 0, .int .i64 0, .int .i64 0, .int .i64 0], .int .i64 1]) ∧ Below w.heap.size w w' := by
  have RL := fun W => hide (fun hW : Below w.heap.size w W => rledger_any (c := d) (hl.below hW))
  have RR := fun W => hide (fun hW : Below w.heap.size w W => rright_any (c := c) (h.below hW) hw)
  have GR := fun W => hide (rgroup_any g W)
  have FI := fun W => hide (fun hW : Below w.heap.size w W => rfind_any (c := c) (node := node) (h.below hW) hw)
  unfold findF at FI
  rw [e1] at RL
  rw [e2] at RR
  rw [e3] at GR
  clear hl h hw e1 e2 e3 FI
  obtain ⟨w1, ew, hb1, ha1, hz1⟩ := hz_new w A a n c
  have HB1 := hide hb1
  have HA1 := hide ha1
  have HZ1 : Hid (w1.heap[w.heap.size + 1]? = _) := hz1
  have hq1 : w.heap.size + 1 < w1.heap.size := (Array.getElem?_eq_some_iff.1 hz1).1
  clear hb1 ha1 hz1
  go_enter Try.func70, Try.ntmps70
  go_wp2_with fail
  rw [← ew]
  clear ew
  refine ((RL _).out HB1.out).mono ?_
  rintro e w2 ⟨rfl, hb⟩
  have HB2 : Hid (Below w.heap.size w w2) := HB1.out.trans (hb.mono HB1.out.size)
  have HA2 := hide (HA1.out.below hb)
  have HZ2 : Hid (w2.heap[w.heap.size + 1]? = _) := (hb.block _ hq1).trans HZ1.out
  have hq2 : w.heap.size + 1 < w2.heap.size := Nat.lt_of_lt_of_le hq1 hb.size
  clear hb HB1 HA1 HZ1 hq1
  obtain ⟨z0, z1, z2, z3, z4, z5, z6, z7, z8, z9⟩ := HA2.out.at_
  go_wp2_with fail
  clear z0 z1 z2 z3 z4 z5 z6 z7 z8 z9
  refine ((RR _).out HB2.out).mono ?_
  rintro e w3 ⟨rfl, hb⟩
  have HB3 : Hid (Below w.heap.size w w3) := HB2.out.trans (hb.mono HB2.out.size)
  have HA3 := hide (HA2.out.below hb)
  have HZ3 : Hid (w3.heap[w.heap.size + 1]? = _) := (hb.block _ hq2).trans HZ2.out
  have hq3 : w.heap.size + 1 < w3.heap.size := Nat.lt_of_lt_of_le hq2 hb.size
  clear hb HB2 HA2 HZ2 hq2
  obtain ⟨z0, z1, z2, z3, z4, z5, z6, z7, z8, z9⟩ := HA3.out.at_
  go_upto_region 4 with ((go_at_call 76; refine (GR _).out.mono ?_; rintro e w' ⟨rfl, hw⟩; rw [hw]; clear hw))
  go_wp2_with (refine wpList_store_row rfl 33 (.tmp 10) (.tmp 29) rfl (w.heap.size + 1) #[.int .i64 0, .int .i64 0, .int .i64 0, .int .i64 0] rfl rfl 33 #[.int .i64 0, .int .i64 0, .int .i64 0, .int .i64 0] HZ3.out hd_info rfl (by simp [Value.oneCell']) ?_)
  refine bodyPost_ret (v := .tuple #[.agg #[.int .i64 0, .int .i64 0, .int .i64 0, .int .i64 0], .int .i64 1]) ?r ?d ?_
  case r => exact results_cell_tmp' rfl _ _ (w.heap.size + 1) 33 #[.int .i64 0, .int .i64 0, .int .i64 0, .int .i64 0] (0, 0) _ (.int .i64 1) rfl rfl (setRow_heap _ _ _ _ _ _ HZ3.out) Try.underlying33 rfl hd_info
  case d => rfl
  exact ⟨rfl, below_setRow HB3.out (by omega) _⟩
set_option maxRecDepth 100000 in
set_option maxHeartbeats 8000000 in
theorem rheld_d {w : World} {b a : Option Addr} {m d n c : Nat} {l : List Rt} {g node : Int} {A : Ac} {z : Bool} (hl : Rs w b m l) (h : Hs w a n A.hs) (hw : AcW A) (e1 : ledB l = true) (e2 : rightB A = true) (e3 : grpB g = true) (e4 : z = true) :
    Calls Try.prog 70 #[.slice b m d, .int .i64 g, .agg #[.string A.key, .int .i64 A.lo, .int .i64 A.hi, .int .i64 A.base, .int .i64 A.rd, .slice a n c, .int .i64 A.lk.c, .int .i64 A.lk.s, .int .i64 A.lk.h, .int .i64 A.lk.n], .int .i64 node, .bool z] w fun e w' => e = .returned (.tuple #[.agg #[.int .i64 0, .int .i64 0, .int .i64 0, .int .i64 0], .int .i64 1]) ∧ Below w.heap.size w w' := by
  have RL := fun W => hide (fun hW : Below w.heap.size w W => rledger_any (c := d) (hl.below hW))
  have RR := fun W => hide (fun hW : Below w.heap.size w W => rright_any (c := c) (h.below hW) hw)
  have GR := fun W => hide (rgroup_any g W)
  have FI := fun W => hide (fun hW : Below w.heap.size w W => rfind_any (c := c) (node := node) (h.below hW) hw)
  unfold findF at FI
  rw [e1] at RL
  rw [e2] at RR
  rw [e3] at GR
  subst e4
  clear hl h hw e1 e2 e3 FI
  obtain ⟨w1, ew, hb1, ha1, hz1⟩ := hz_new w A a n c
  have HB1 := hide hb1
  have HA1 := hide ha1
  have HZ1 : Hid (w1.heap[w.heap.size + 1]? = _) := hz1
  have hq1 : w.heap.size + 1 < w1.heap.size := (Array.getElem?_eq_some_iff.1 hz1).1
  clear hb1 ha1 hz1
  go_enter Try.func70, Try.ntmps70
  go_wp2_with fail
  rw [← ew]
  clear ew
  refine ((RL _).out HB1.out).mono ?_
  rintro e w2 ⟨rfl, hb⟩
  have HB2 : Hid (Below w.heap.size w w2) := HB1.out.trans (hb.mono HB1.out.size)
  have HA2 := hide (HA1.out.below hb)
  have HZ2 : Hid (w2.heap[w.heap.size + 1]? = _) := (hb.block _ hq1).trans HZ1.out
  have hq2 : w.heap.size + 1 < w2.heap.size := Nat.lt_of_lt_of_le hq1 hb.size
  clear hb HB1 HA1 HZ1 hq1
  obtain ⟨z0, z1, z2, z3, z4, z5, z6, z7, z8, z9⟩ := HA2.out.at_
  go_wp2_with fail
  clear z0 z1 z2 z3 z4 z5 z6 z7 z8 z9
  refine ((RR _).out HB2.out).mono ?_
  rintro e w3 ⟨rfl, hb⟩
  have HB3 : Hid (Below w.heap.size w w3) := HB2.out.trans (hb.mono HB2.out.size)
  have HA3 := hide (HA2.out.below hb)
  have HZ3 : Hid (w3.heap[w.heap.size + 1]? = _) := (hb.block _ hq2).trans HZ2.out
  have hq3 : w.heap.size + 1 < w3.heap.size := Nat.lt_of_lt_of_le hq2 hb.size
  clear hb HB2 HA2 HZ2 hq2
  obtain ⟨z0, z1, z2, z3, z4, z5, z6, z7, z8, z9⟩ := HA3.out.at_
  go_upto_region 4 with ((go_at_call 76; refine (GR _).out.mono ?_; rintro e w' ⟨rfl, hw⟩; rw [hw]; clear hw))
  go_wp2_with (refine wpList_store_row rfl 33 (.tmp 10) (.tmp 29) rfl (w.heap.size + 1) #[.int .i64 0, .int .i64 0, .int .i64 0, .int .i64 0] rfl rfl 33 #[.int .i64 0, .int .i64 0, .int .i64 0, .int .i64 0] HZ3.out hd_info rfl (by simp [Value.oneCell']) ?_)
  refine bodyPost_ret (v := .tuple #[.agg #[.int .i64 0, .int .i64 0, .int .i64 0, .int .i64 0], .int .i64 1]) ?r ?d ?_
  case r => exact results_cell_tmp' rfl _ _ (w.heap.size + 1) 33 #[.int .i64 0, .int .i64 0, .int .i64 0, .int .i64 0] (0, 0) _ (.int .i64 1) rfl rfl (setRow_heap _ _ _ _ _ _ HZ3.out) Try.underlying33 rfl hd_info
  case d => rfl
  exact ⟨rfl, below_setRow HB3.out (by omega) _⟩
set_option maxRecDepth 100000 in
set_option maxHeartbeats 8000000 in
theorem rheld_e {w : World} {b a : Option Addr} {m d n c : Nat} {l : List Rt} {g node : Int} {A : Ac} {z : Bool} (hl : Rs w b m l) (h : Hs w a n A.hs) (hw : AcW A) (e1 : ledB l = true) (e2 : rightB A = true) (e3 : grpB g = true) (e4 : z = false) (e5 : findH A.hs node = none) :
    Calls Try.prog 70 #[.slice b m d, .int .i64 g, .agg #[.string A.key, .int .i64 A.lo, .int .i64 A.hi, .int .i64 A.base, .int .i64 A.rd, .slice a n c, .int .i64 A.lk.c, .int .i64 A.lk.s, .int .i64 A.lk.h, .int .i64 A.lk.n], .int .i64 node, .bool z] w fun e w' => e = .returned (.tuple #[.agg #[.int .i64 0, .int .i64 0, .int .i64 0, .int .i64 0], .int .i64 151]) ∧ Below w.heap.size w w' := by
  have RL := fun W => hide (fun hW : Below w.heap.size w W => rledger_any (c := d) (hl.below hW))
  have RR := fun W => hide (fun hW : Below w.heap.size w W => rright_any (c := c) (h.below hW) hw)
  have GR := fun W => hide (rgroup_any g W)
  have FI := fun W => hide (fun hW : Below w.heap.size w W => rfind_any (c := c) (node := node) (h.below hW) hw)
  unfold findF at FI
  rw [e1] at RL
  rw [e2] at RR
  rw [e3] at GR
  subst e4
  rw [if_pos e2, e5] at FI
  simp only [Option.getD_none, Option.isSome_none, hval, hd0] at FI
  clear hl h hw e1 e2 e3 e5
  obtain ⟨w1, ew, hb1, ha1, hz1⟩ := hz_new w A a n c
  have HB1 := hide hb1
  have HA1 := hide ha1
  have HZ1 : Hid (w1.heap[w.heap.size + 1]? = _) := hz1
  have hq1 : w.heap.size + 1 < w1.heap.size := (Array.getElem?_eq_some_iff.1 hz1).1
  clear hb1 ha1 hz1
  go_enter Try.func70, Try.ntmps70
  go_wp2_with fail
  rw [← ew]
  clear ew
  refine ((RL _).out HB1.out).mono ?_
  rintro e w2 ⟨rfl, hb⟩
  have HB2 : Hid (Below w.heap.size w w2) := HB1.out.trans (hb.mono HB1.out.size)
  have HA2 := hide (HA1.out.below hb)
  have HZ2 : Hid (w2.heap[w.heap.size + 1]? = _) := (hb.block _ hq1).trans HZ1.out
  have hq2 : w.heap.size + 1 < w2.heap.size := Nat.lt_of_lt_of_le hq1 hb.size
  clear hb HB1 HA1 HZ1 hq1
  obtain ⟨z0, z1, z2, z3, z4, z5, z6, z7, z8, z9⟩ := HA2.out.at_
  go_wp2_with fail
  clear z0 z1 z2 z3 z4 z5 z6 z7 z8 z9
  refine ((RR _).out HB2.out).mono ?_
  rintro e w3 ⟨rfl, hb⟩
  have HB3 : Hid (Below w.heap.size w w3) := HB2.out.trans (hb.mono HB2.out.size)
  have HA3 := hide (HA2.out.below hb)
  have HZ3 : Hid (w3.heap[w.heap.size + 1]? = _) := (hb.block _ hq2).trans HZ2.out
  have hq3 : w.heap.size + 1 < w3.heap.size := Nat.lt_of_lt_of_le hq2 hb.size
  clear hb HB2 HA2 HZ2 hq2
  obtain ⟨z0, z1, z2, z3, z4, z5, z6, z7, z8, z9⟩ := HA3.out.at_
  go_wp2_with (go_at_call 76; refine (GR _).out.mono ?_; rintro e w' ⟨rfl, hw⟩; rw [hw]; clear hw)
  clear z0 z1 z2 z3 z4 z5 z6 z7 z8 z9
  refine ((FI _).out HB3.out).mono ?_
  rintro e w4 ⟨rfl, hb⟩
  have HB4 : Hid (Below w.heap.size w w4) := HB3.out.trans (hb.mono HB3.out.size)
  have HA4 := hide (HA3.out.below hb)
  have HZ4 : Hid (w4.heap[w.heap.size + 1]? = _) := (hb.block _ hq3).trans HZ3.out
  have hq4 : w.heap.size + 1 < w4.heap.size := Nat.lt_of_lt_of_le hq3 hb.size
  clear hb HB3 HA3 HZ3 hq3
  obtain ⟨z0, z1, z2, z3, z4, z5, z6, z7, z8, z9⟩ := HA4.out.at_
  have hb5 : Below w4.heap.size w4 (w4.alloc (.cells #[.int .i64 0, .int .i64 0, .int .i64 0, .int .i64 0] 33)) := Below.alloc (Below.refl _ _) (Nat.le_refl _) _
  have HB5 : Hid (Below w.heap.size w _) := HB4.out.trans (hb5.mono HB4.out.size)
  have HZ5 : Hid ((w4.alloc (.cells #[.int .i64 0, .int .i64 0, .int .i64 0, .int .i64 0] 33)).heap[w.heap.size + 1]? = _) := (hb5.block _ hq4).trans HZ4.out
  clear hb5
  go_upto_region 7 with (fail)
  go_wp2_with (refine wpList_store_row rfl 33 (.tmp 10) (.tmp 38) rfl (w.heap.size + 1) #[.int .i64 0, .int .i64 0, .int .i64 0, .int .i64 0] rfl rfl 33 #[.int .i64 0, .int .i64 0, .int .i64 0, .int .i64 0] HZ5.out hd_info rfl (by simp [Value.oneCell']) ?_)
  refine bodyPost_ret (v := .tuple #[.agg #[.int .i64 0, .int .i64 0, .int .i64 0, .int .i64 0], .int .i64 151]) ?r ?d ?_
  case r => exact results_cell_tmp' rfl _ _ (w.heap.size + 1) 33 #[.int .i64 0, .int .i64 0, .int .i64 0, .int .i64 0] (0, 0) _ (.int .i64 151) rfl rfl (setRow_heap _ _ _ _ _ _ HZ5.out) Try.underlying33 rfl hd_info
  case d => rfl
  exact ⟨rfl, below_setRow HB5.out (by omega) _⟩
set_option maxRecDepth 100000 in
set_option maxHeartbeats 8000000 in
theorem rheld_f {w : World} {b a : Option Addr} {m d n c : Nat} {l : List Rt} {g node : Int} {A : Ac} {z : Bool} {x : Hd} (hl : Rs w b m l) (h : Hs w a n A.hs) (hw : AcW A) (e1 : ledB l = true) (e2 : rightB A = true) (e3 : grpB g = true) (e4 : z = false) (e5 : findH A.hs node = some x) (e6 : ¬ A.rd = 0) :
    Calls Try.prog 70 #[.slice b m d, .int .i64 g, .agg #[.string A.key, .int .i64 A.lo, .int .i64 A.hi, .int .i64 A.base, .int .i64 A.rd, .slice a n c, .int .i64 A.lk.c, .int .i64 A.lk.s, .int .i64 A.lk.h, .int .i64 A.lk.n], .int .i64 node, .bool z] w fun e w' => e = .returned (.tuple #[.agg #[.int .i64 0, .int .i64 0, .int .i64 0, .int .i64 0], .int .i64 152]) ∧ Below w.heap.size w w' := by
  have RL := fun W => hide (fun hW : Below w.heap.size w W => rledger_any (c := d) (hl.below hW))
  have RR := fun W => hide (fun hW : Below w.heap.size w W => rright_any (c := c) (h.below hW) hw)
  have GR := fun W => hide (rgroup_any g W)
  have FI := fun W => hide (fun hW : Below w.heap.size w W => rfind_any (c := c) (node := node) (h.below hW) hw)
  unfold findF at FI
  rw [e1] at RL
  rw [e2] at RR
  rw [e3] at GR
  subst e4
  rw [if_pos e2, e5] at FI
  simp only [Option.getD_some, Option.isSome_some, hval] at FI
  have k3 : (A.rd != (0 : Int)) = true := by simpa using e6
  clear hl h hw e1 e2 e3 e5 e6
  obtain ⟨w1, ew, hb1, ha1, hz1⟩ := hz_new w A a n c
  have HB1 := hide hb1
  have HA1 := hide ha1
  have HZ1 : Hid (w1.heap[w.heap.size + 1]? = _) := hz1
  have hq1 : w.heap.size + 1 < w1.heap.size := (Array.getElem?_eq_some_iff.1 hz1).1
  clear hb1 ha1 hz1
  go_enter Try.func70, Try.ntmps70
  go_wp2_with fail
  rw [← ew]
  clear ew
  refine ((RL _).out HB1.out).mono ?_
  rintro e w2 ⟨rfl, hb⟩
  have HB2 : Hid (Below w.heap.size w w2) := HB1.out.trans (hb.mono HB1.out.size)
  have HA2 := hide (HA1.out.below hb)
  have HZ2 : Hid (w2.heap[w.heap.size + 1]? = _) := (hb.block _ hq1).trans HZ1.out
  have hq2 : w.heap.size + 1 < w2.heap.size := Nat.lt_of_lt_of_le hq1 hb.size
  clear hb HB1 HA1 HZ1 hq1
  obtain ⟨z0, z1, z2, z3, z4, z5, z6, z7, z8, z9⟩ := HA2.out.at_
  go_wp2_with fail
  clear z0 z1 z2 z3 z4 z5 z6 z7 z8 z9
  refine ((RR _).out HB2.out).mono ?_
  rintro e w3 ⟨rfl, hb⟩
  have HB3 : Hid (Below w.heap.size w w3) := HB2.out.trans (hb.mono HB2.out.size)
  have HA3 := hide (HA2.out.below hb)
  have HZ3 : Hid (w3.heap[w.heap.size + 1]? = _) := (hb.block _ hq2).trans HZ2.out
  have hq3 : w.heap.size + 1 < w3.heap.size := Nat.lt_of_lt_of_le hq2 hb.size
  clear hb HB2 HA2 HZ2 hq2
  obtain ⟨z0, z1, z2, z3, z4, z5, z6, z7, z8, z9⟩ := HA3.out.at_
  go_wp2_with (go_at_call 76; refine (GR _).out.mono ?_; rintro e w' ⟨rfl, hw⟩; rw [hw]; clear hw)
  clear z0 z1 z2 z3 z4 z5 z6 z7 z8 z9
  refine ((FI _).out HB3.out).mono ?_
  rintro e w4 ⟨rfl, hb⟩
  have HB4 : Hid (Below w.heap.size w w4) := HB3.out.trans (hb.mono HB3.out.size)
  have HA4 := hide (HA3.out.below hb)
  have HZ4 : Hid (w4.heap[w.heap.size + 1]? = _) := (hb.block _ hq3).trans HZ3.out
  have hq4 : w.heap.size + 1 < w4.heap.size := Nat.lt_of_lt_of_le hq3 hb.size
  clear hb HB3 HA3 HZ3 hq3
  obtain ⟨z0, z1, z2, z3, z4, z5, z6, z7, z8, z9⟩ := HA4.out.at_
  obtain ⟨w5, e5', hb5, hk5⟩ := hk_new w4 x
  have HB5 : Hid (Below w.heap.size w w5) := HB4.out.trans (hb5.mono HB4.out.size)
  have HZ5 : Hid (w5.heap[w.heap.size + 1]? = _) := (hb5.block _ hq4).trans HZ4.out
  have HA5 := hide (HA4.out.below hb5)
  have HK5 := hide hk5
  clear z0 z1 z2 z3 z4 z5 z6 z7 z8 z9 hb5 hk5 HA4 HB4 HZ4
  go_upto_region 6 with fail
  rw [← e5']
  clear e5'
  obtain ⟨p, ep⟩ : ∃ p, p = w4.heap.size := ⟨_, rfl⟩
  rw [← ep] at HK5 ⊢
  clear ep
  obtain ⟨z0, z1, z2, z3, z4, z5, z6, z7, z8, z9⟩ := HA5.out.at_
  obtain ⟨x0, x1, x2, x3⟩ := HK5.out.at_
  go_upto_region 9 with (fail)
  go_wp2_with (refine wpList_store_row rfl 33 (.tmp 10) (.tmp 42) rfl (w.heap.size + 1) #[.int .i64 0, .int .i64 0, .int .i64 0, .int .i64 0] rfl rfl 33 #[.int .i64 0, .int .i64 0, .int .i64 0, .int .i64 0] HZ5.out hd_info rfl (by simp [Value.oneCell']) ?_)
  refine bodyPost_ret (v := .tuple #[.agg #[.int .i64 0, .int .i64 0, .int .i64 0, .int .i64 0], .int .i64 152]) ?r ?d ?_
  case r => exact results_cell_tmp' rfl _ _ (w.heap.size + 1) 33 #[.int .i64 0, .int .i64 0, .int .i64 0, .int .i64 0] (0, 0) _ (.int .i64 152) rfl rfl (setRow_heap _ _ _ _ _ _ HZ5.out) Try.underlying33 rfl hd_info
  case d => rfl
  exact ⟨rfl, below_setRow HB5.out (by omega) _⟩
set_option maxRecDepth 100000 in
set_option maxHeartbeats 8000000 in
theorem rheld_g {w : World} {b a : Option Addr} {m d n c : Nat} {l : List Rt} {g node : Int} {A : Ac} {z : Bool} {x : Hd} (hl : Rs w b m l) (h : Hs w a n A.hs) (hw : AcW A) (e1 : ledB l = true) (e2 : rightB A = true) (e3 : grpB g = true) (e4 : z = false) (e5 : findH A.hs node = some x) (e6 : A.rd = 0) :
    Calls Try.prog 70 #[.slice b m d, .int .i64 g, .agg #[.string A.key, .int .i64 A.lo, .int .i64 A.hi, .int .i64 A.base, .int .i64 A.rd, .slice a n c, .int .i64 A.lk.c, .int .i64 A.lk.s, .int .i64 A.lk.h, .int .i64 A.lk.n], .int .i64 node, .bool z] w fun e w' => e = .returned (.tuple #[.agg #[.int .i64 x.nd, .int .i64 x.ls, .int .i64 x.up, .int .i64 x.dn], .int .i64 0]) ∧ Below w.heap.size w w' := by
  have RL := fun W => hide (fun hW : Below w.heap.size w W => rledger_any (c := d) (hl.below hW))
  have RR := fun W => hide (fun hW : Below w.heap.size w W => rright_any (c := c) (h.below hW) hw)
  have GR := fun W => hide (rgroup_any g W)
  have FI := fun W => hide (fun hW : Below w.heap.size w W => rfind_any (c := c) (node := node) (h.below hW) hw)
  unfold findF at FI
  rw [e1] at RL
  rw [e2] at RR
  rw [e3] at GR
  subst e4
  rw [if_pos e2, e5] at FI
  simp only [Option.getD_some, Option.isSome_some, hval] at FI
  have k3 : (A.rd != (0 : Int)) = false := by simpa using e6
  clear hl h hw e1 e2 e3 e5 e6
  obtain ⟨w1, ew, hb1, ha1, hz1⟩ := hz_new w A a n c
  have HB1 := hide hb1
  have HA1 := hide ha1
  have HZ1 : Hid (w1.heap[w.heap.size + 1]? = _) := hz1
  have hq1 : w.heap.size + 1 < w1.heap.size := (Array.getElem?_eq_some_iff.1 hz1).1
  clear hb1 ha1 hz1
  go_enter Try.func70, Try.ntmps70
  go_wp2_with fail
  rw [← ew]
  clear ew
  refine ((RL _).out HB1.out).mono ?_
  rintro e w2 ⟨rfl, hb⟩
  have HB2 : Hid (Below w.heap.size w w2) := HB1.out.trans (hb.mono HB1.out.size)
  have HA2 := hide (HA1.out.below hb)
  have HZ2 : Hid (w2.heap[w.heap.size + 1]? = _) := (hb.block _ hq1).trans HZ1.out
  have hq2 : w.heap.size + 1 < w2.heap.size := Nat.lt_of_lt_of_le hq1 hb.size
  clear hb HB1 HA1 HZ1 hq1
  obtain ⟨z0, z1, z2, z3, z4, z5, z6, z7, z8, z9⟩ := HA2.out.at_
  go_wp2_with fail
  clear z0 z1 z2 z3 z4 z5 z6 z7 z8 z9
  refine ((RR _).out HB2.out).mono ?_
  rintro e w3 ⟨rfl, hb⟩
  have HB3 : Hid (Below w.heap.size w w3) := HB2.out.trans (hb.mono HB2.out.size)
  have HA3 := hide (HA2.out.below hb)
  have HZ3 : Hid (w3.heap[w.heap.size + 1]? = _) := (hb.block _ hq2).trans HZ2.out
  have hq3 : w.heap.size + 1 < w3.heap.size := Nat.lt_of_lt_of_le hq2 hb.size
  clear hb HB2 HA2 HZ2 hq2
  obtain ⟨z0, z1, z2, z3, z4, z5, z6, z7, z8, z9⟩ := HA3.out.at_
  go_wp2_with (go_at_call 76; refine (GR _).out.mono ?_; rintro e w' ⟨rfl, hw⟩; rw [hw]; clear hw)
  clear z0 z1 z2 z3 z4 z5 z6 z7 z8 z9
  refine ((FI _).out HB3.out).mono ?_
  rintro e w4 ⟨rfl, hb⟩
  have HB4 : Hid (Below w.heap.size w w4) := HB3.out.trans (hb.mono HB3.out.size)
  have HA4 := hide (HA3.out.below hb)
  have HZ4 : Hid (w4.heap[w.heap.size + 1]? = _) := (hb.block _ hq3).trans HZ3.out
  have hq4 : w.heap.size + 1 < w4.heap.size := Nat.lt_of_lt_of_le hq3 hb.size
  clear hb HB3 HA3 HZ3 hq3
  obtain ⟨z0, z1, z2, z3, z4, z5, z6, z7, z8, z9⟩ := HA4.out.at_
  obtain ⟨w5, e5', hb5, hk5⟩ := hk_new w4 x
  have HB5 : Hid (Below w.heap.size w w5) := HB4.out.trans (hb5.mono HB4.out.size)
  have HZ5 : Hid (w5.heap[w.heap.size + 1]? = _) := (hb5.block _ hq4).trans HZ4.out
  have HA5 := hide (HA4.out.below hb5)
  have HK5 := hide hk5
  clear z0 z1 z2 z3 z4 z5 z6 z7 z8 z9 hb5 hk5 HA4 HB4 HZ4
  go_upto_region 6 with fail
  rw [← e5']
  clear e5'
  obtain ⟨p, ep⟩ : ∃ p, p = w4.heap.size := ⟨_, rfl⟩
  rw [← ep] at HK5 ⊢
  clear ep
  obtain ⟨z0, z1, z2, z3, z4, z5, z6, z7, z8, z9⟩ := HA5.out.at_
  obtain ⟨x0, x1, x2, x3⟩ := HK5.out.at_
  go_upto_region 10 with fail
  go_wp2_with (refine wpList_store_row rfl 33 (.tmp 10) (.tmp 43) rfl (w.heap.size + 1) #[.int .i64 x.nd, .int .i64 x.ls, .int .i64 x.up, .int .i64 x.dn] rfl rfl 33 #[.int .i64 0, .int .i64 0, .int .i64 0, .int .i64 0] HZ5.out hd_info rfl (by simp [Value.oneCell']) ?_)
  refine bodyPost_ret (v := .tuple #[.agg #[.int .i64 x.nd, .int .i64 x.ls, .int .i64 x.up, .int .i64 x.dn], .int .i64 0]) ?r ?d ?_
  case r => exact results_cell_tmp' rfl _ _ (w.heap.size + 1) 33 #[.int .i64 x.nd, .int .i64 x.ls, .int .i64 x.up, .int .i64 x.dn] (0, 0) _ (.int .i64 0) rfl rfl (setRow_heap _ _ _ _ _ _ HZ5.out) Try.underlying33 rfl hd_info
  case d => rfl
  exact ⟨rfl, below_setRow HB5.out (by omega) _⟩
theorem rheld_x {w : World} {b a : Option Addr} {m d n c : Nat} {l : List Rt} {g node E : Int} {A : Ac} {z : Bool} {X : Hd} (hl : Rs w b m l) (h : Hs w a n A.hs) (hw : AcW A) (eE : rhE l g A node z = E) (eX : rhH l g A node z = X) :
    Calls Try.prog 70 #[.slice b m d, .int .i64 g, .agg #[.string A.key, .int .i64 A.lo, .int .i64 A.hi, .int .i64 A.base, .int .i64 A.rd, .slice a n c, .int .i64 A.lk.c, .int .i64 A.lk.s, .int .i64 A.lk.h, .int .i64 A.lk.n], .int .i64 node, .bool z] w fun e w' => e = .returned (.tuple #[.agg #[.int .i64 X.nd, .int .i64 X.ls, .int .i64 X.up, .int .i64 X.dn], .int .i64 E]) ∧ Below w.heap.size w w' := by
  subst eE
  subst eX
  cases e1 : ledB l
  · have e0 : heldE l g A node = 21 := by unfold heldE; rw [if_neg (fun e => by rw [e1] at e; exact absurd e.1 (by simp))]
    have r1 : rhE l g A node z = 21 := by unfold rhE; rw [if_pos e0]
    have r2 : rhH l g A node z = hd0 := by unfold rhH; rw [if_neg (by omega)]
    rw [r1, r2]
    exact rheld_a hl h hw e1
  · cases e2 : rightB A
    · have e0 : heldE l g A node = 21 := by unfold heldE; rw [if_neg (fun e => by rw [e2] at e; exact absurd e.2 (by simp))]
      have r1 : rhE l g A node z = 21 := by unfold rhE; rw [if_pos e0]
      have r2 : rhH l g A node z = hd0 := by unfold rhH; rw [if_neg (by omega)]
      rw [r1, r2]
      exact rheld_b hl h hw e1 e2
    · cases e3 : grpB g
      · have e0 : heldE l g A node = 1 := by unfold heldE; rw [if_pos ⟨e1, e2⟩, if_neg (by rw [e3]; simp)]
        have r1 : rhE l g A node z = 1 := by
          unfold rhE
          rw [if_neg (by omega)]
          cases z
          · rw [if_neg (by simp), if_neg (by omega), e0]
          · rfl
        have r2 : rhH l g A node z = hd0 := by unfold rhH; rw [if_neg (by omega)]
        rw [r1, r2]
        exact rheld_c hl h hw e1 e2 e3
      · cases z
        · cases e5 : findH A.hs node with
          | none =>
            have e0 : heldE l g A node = 151 := by unfold heldE; rw [if_pos ⟨e1, e2⟩, if_pos e3, e5]; rfl
            have r1 : rhE l g A node false = 151 := by unfold rhE; rw [if_neg (by omega), if_neg (by simp), if_neg (by omega), e0]
            have r2 : rhH l g A node false = hd0 := by unfold rhH; rw [if_neg (by omega)]
            rw [r1, r2]
            exact rheld_e hl h hw e1 e2 e3 rfl e5
          | some x =>
            have e0 : heldE l g A node = 0 := by unfold heldE; rw [if_pos ⟨e1, e2⟩, if_pos e3, e5]; rfl
            have eX : heldH l g A node = x := by unfold heldH; rw [if_pos e0, e5]; rfl
            by_cases e6 : A.rd = 0
            · have r1 : rhE l g A node false = 0 := by unfold rhE; rw [if_neg (by omega), if_neg (by simp), if_pos e0, if_pos e6]
              have r2 : rhH l g A node false = x := by unfold rhH; rw [if_pos r1, eX]
              rw [r1, r2]
              exact rheld_g hl h hw e1 e2 e3 rfl e5 e6
            · have r1 : rhE l g A node false = 152 := by unfold rhE; rw [if_neg (by omega), if_neg (by simp), if_pos e0, if_neg e6]
              have r2 : rhH l g A node false = hd0 := by unfold rhH; rw [if_neg (by omega)]
              rw [r1, r2]
              exact rheld_f hl h hw e1 e2 e3 rfl e5 e6
        · have e0 : ¬ heldE l g A node = 21 := by
            unfold heldE
            rw [if_pos ⟨e1, e2⟩, if_pos e3]
            split <;> omega
          have r1 : rhE l g A node true = 1 := by unfold rhE; rw [if_neg e0, if_pos rfl]
          have r2 : rhH l g A node true = hd0 := by unfold rhH; rw [if_neg (by omega)]
          rw [r1, r2]
          exact rheld_d hl h hw e1 e2 e3 rfl
end Go.Proofs.Ytjcbhgkfbilifaa
