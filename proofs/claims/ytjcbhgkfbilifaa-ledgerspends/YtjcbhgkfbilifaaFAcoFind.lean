/- What Find and Plain answer: the landed code. Condition: the account can be read. -/
import Derived.Test.YtjcbhgkfbilifaaFAcoLook
import Derived.Test.YtjcbhgkfbilifaaFAcoPlace
namespace Go.Proofs.Ytjcbhgkfbilifaa
open Go.ChangeShapes Go.WideShapes Go.ChangeAt Go.RowKit Ao
set_option linter.unusedVariables false

theorem hd_info : (Try.prog.info? 33).map (·.size) = some 4 := by kernel_rfl
theorem hz_new (w : World) (A : Ac) (a : Option Addr) (n c : Nat) : ∃ w1, w1 = (w.alloc (.cells #[.string A.key, .int .i64 (A.lo), .int .i64 (A.hi), .int .i64 (A.base), .int .i64 (A.rd), .slice a n c, .int .i64 (A.lk.c), .int .i64 (A.lk.s), .int .i64 (A.lk.h), .int .i64 (A.lk.n)] 28)).alloc (.cells #[.int .i64 0, .int .i64 0, .int .i64 0, .int .i64 0] 33) ∧ Below w.heap.size w w1 ∧ Ab w1 w.heap.size A a n c ∧ w1.heap[w.heap.size + 1]? = some (.cells #[.int .i64 0, .int .i64 0, .int .i64 0, .int .i64 0] 33 (0, 0)) := by
  refine ⟨_, rfl, (Below.alloc (Below.refl _ _) (Nat.le_refl _) _).alloc (by simp) _, (ab_new w A a n c).below (Below.alloc (Below.refl _ _) (Nat.le_refl _) _), ?_⟩
  have := heap_alloc_new (w.alloc (.cells #[.string A.key, .int .i64 (A.lo), .int .i64 (A.hi), .int .i64 (A.base), .int .i64 (A.rd), .slice a n c, .int .i64 (A.lk.c), .int .i64 (A.lk.s), .int .i64 (A.lk.h), .int .i64 (A.lk.n)] 28)) (.cells #[.int .i64 0, .int .i64 0, .int .i64 0, .int .i64 0] 33)
  simpa using this
def findF (A : Ac) (node : Int) : Option Hd := if rightB A = true then findH A.hs node else none
theorem find_place {l : List Hd} {c : Int} {x : Hd} (hr : hsB 0 l = true) (h : findH l c = some x) : l[posL c l]? = some x ∧ x.nd = c := ⟨(drop_at hr h).2.2, (find_mem h).2⟩
set_option maxRecDepth 100000 in
set_option maxHeartbeats 2000000 in
theorem find_any {w : World} {a : Option Addr} {n c : Nat} {A : Ac} {node : Int} (h : Hs w a n A.hs) (hw : AcW A) : Calls Try.prog 95 #[acval A a n c, .int .i64 node] w fun e w' => e = .returned (.tuple #[hval ((findF A node).getD hd0), .bool (findF A node).isSome]) ∧ Below w.heap.size w w' := by
  have CK := fun W => hide (fun hW : Below w.heap.size w W => check_any (c := c) (h.below hW) hw)
  have H := hide h
  have hrm := h.room
  unfold findF
  unfold checkE at CK
  by_cases hr : rightB A = true
  · rw [if_pos hr]
    have hR := ((right_iff A).1 hr).hs
    simp only [if_pos hr] at CK
    have PL := fun W => hide (fun hW : Below w.heap.size w W => place_any (cp := c) (c := node) (h.below hW) hR)
    have HP : Hid (∀ x, findH A.hs node = some x → A.hs[posL node A.hs]? = some x ∧ x.nd = node) := fun x hx => find_place hR hx
    have hl := h.len
    clear h hw hr hR
    generalize findH A.hs node = f at *
    generalize posL node A.hs = p at *
    cases f with
    | none =>
      clear HP
      rw [show (none : Option Hd).getD hd0 = hd0 from rfl]
      unfold hval hd0
      unfold acval at *
      go_enter Try.func95, Try.ntmps95
      go_wp2_with fail
      obtain ⟨w1, ew, hb1, ha1, hz1⟩ := hz_new w A a n c
      rw [← ew]
      have HB1 := hide hb1
      have HA1 := hide ha1
      have HZ1 : Hid (w1.heap[w.heap.size + 1]? = _) := hz1
      have hq1 : w.heap.size + 1 < w1.heap.size := (Array.getElem?_eq_some_iff.1 hz1).1
      clear hb1 ha1 hz1 ew
      obtain ⟨z0, z1, z2, z3, z4, z5, z6, z7, z8, z9⟩ := HA1.out.at_
      have hs1 : w.heap.size < w1.heap.size := HA1.out.lt
      refine ((CK _).out HB1.out).mono ?_
      rintro e w2 ⟨rfl, hb⟩
      have HB2 : Hid (Below w.heap.size w w2) := HB1.out.trans (hb.mono HB1.out.size)
      have HA2 := hide (HA1.out.below hb)
      have HZ2 : Hid (w2.heap[w.heap.size + 1]? = _) := (hb.block _ hq1).trans HZ1.out
      have hq2 : w.heap.size + 1 < w2.heap.size := Nat.lt_of_lt_of_le hq1 hb.size
      clear hb z0 z1 z2 z3 z4 z5 z6 z7 z8 z9
      obtain ⟨z0, z1, z2, z3, z4, z5, z6, z7, z8, z9⟩ := HA2.out.at_
      have hs2 : w.heap.size < w2.heap.size := HA2.out.lt
      go_wp2_with fail
      refine ((PL _).out HB2.out).mono ?_
      rintro e w3 ⟨rfl, hb⟩
      have HB3 : Hid (Below w.heap.size w w3) := HB2.out.trans (hb.mono HB2.out.size)
      have HA3 := hide (HA2.out.below hb)
      have HZ3 : Hid (w3.heap[w.heap.size + 1]? = _) := (hb.block _ hq2).trans HZ2.out
      have hq3 : w.heap.size + 1 < w3.heap.size := Nat.lt_of_lt_of_le hq2 hb.size
      clear hb z0 z1 z2 z3 z4 z5 z6 z7 z8 z9
      obtain ⟨z0, z1, z2, z3, z4, z5, z6, z7, z8, z9⟩ := HA3.out.at_
      have hs3 : w.heap.size < w3.heap.size := HA3.out.lt
      go_wp2_with (refine wpList_store_row rfl 33 (.tmp 4) (.tmp 21) rfl (w.heap.size + 1) #[.int .i64 0, .int .i64 0, .int .i64 0, .int .i64 0] rfl rfl 33 #[.int .i64 0, .int .i64 0, .int .i64 0, .int .i64 0] HZ3.out hd_info rfl (by simp [Value.oneCell']) ?_)
      refine bodyPost_ret (v := .tuple #[.agg #[.int .i64 0, .int .i64 0, .int .i64 0, .int .i64 0], .bool false]) ?r ?d ?_
      case r => exact results_cell_tmp' rfl _ _ (w.heap.size + 1) 33 #[.int .i64 0, .int .i64 0, .int .i64 0, .int .i64 0] (0, 0) _ (.bool false) rfl rfl (setRow_heap _ _ _ _ _ _ HZ3.out) Try.underlying33 rfl hd_info
      case d => rfl
      exact ⟨rfl, below_setRow HB3.out (by omega) _⟩
    | some x =>
      have hp := (HP.out x rfl).1
      have hpn : p < n := by rw [← hl]; exact (List.getElem?_eq_some_iff.1 hp).1
      clear HP
      rw [show (some x).getD hd0 = x from rfl]
      unfold hval
      unfold acval at *
      have i1 : (p : Int) < (n : Int) := by omega
      have i2 : (0 : Int) ≤ (p : Int) := by omega
      have HP := hide hp
      clear hp hl
      go_enter Try.func95, Try.ntmps95
      go_wp2_with fail
      obtain ⟨w1, ew, hb1, ha1, hz1⟩ := hz_new w A a n c
      rw [← ew]
      have HB1 := hide hb1
      have HA1 := hide ha1
      have HZ1 : Hid (w1.heap[w.heap.size + 1]? = _) := hz1
      have hq1 : w.heap.size + 1 < w1.heap.size := (Array.getElem?_eq_some_iff.1 hz1).1
      clear hb1 ha1 hz1 ew
      obtain ⟨z0, z1, z2, z3, z4, z5, z6, z7, z8, z9⟩ := HA1.out.at_
      have hs1 : w.heap.size < w1.heap.size := HA1.out.lt
      refine ((CK _).out HB1.out).mono ?_
      rintro e w2 ⟨rfl, hb⟩
      have HB2 : Hid (Below w.heap.size w w2) := HB1.out.trans (hb.mono HB1.out.size)
      have HA2 := hide (HA1.out.below hb)
      have HZ2 : Hid (w2.heap[w.heap.size + 1]? = _) := (hb.block _ hq1).trans HZ1.out
      have hq2 : w.heap.size + 1 < w2.heap.size := Nat.lt_of_lt_of_le hq1 hb.size
      clear hb z0 z1 z2 z3 z4 z5 z6 z7 z8 z9
      obtain ⟨z0, z1, z2, z3, z4, z5, z6, z7, z8, z9⟩ := HA2.out.at_
      have hs2 : w.heap.size < w2.heap.size := HA2.out.lt
      go_wp2_with fail
      refine ((PL _).out HB2.out).mono ?_
      rintro e w3 ⟨rfl, hb⟩
      have HB3 : Hid (Below w.heap.size w w3) := HB2.out.trans (hb.mono HB2.out.size)
      have HA3 := hide (HA2.out.below hb)
      have HZ3 : Hid (w3.heap[w.heap.size + 1]? = _) := (hb.block _ hq2).trans HZ2.out
      have hq3 : w.heap.size + 1 < w3.heap.size := Nat.lt_of_lt_of_le hq2 hb.size
      clear hb z0 z1 z2 z3 z4 z5 z6 z7 z8 z9
      obtain ⟨z0, z1, z2, z3, z4, z5, z6, z7, z8, z9⟩ := HA3.out.at_
      have hs3 : w.heap.size < w3.heap.size := HA3.out.lt
      obtain ⟨b, off, x', rfl, hx, hbl, M⟩ := hs_at (H.out.below HB3.out) hpn
      obtain rfl : x = x' := by rw [HP.out] at hx; exact Option.some.inj hx
      obtain ⟨c0, c1, c2, c3⟩ := M
      clear hx hbl CK PL
      go_wp2_with (refine wpList_store_row rfl 33 (.tmp 4) (.tmp 26) rfl (w.heap.size + 1) #[.int .i64 x.nd, .int .i64 x.ls, .int .i64 x.up, .int .i64 x.dn] rfl rfl 33 #[.int .i64 0, .int .i64 0, .int .i64 0, .int .i64 0] HZ3.out hd_info rfl (by simp [Value.oneCell']) ?_)
      refine bodyPost_ret (v := .tuple #[.agg #[.int .i64 x.nd, .int .i64 x.ls, .int .i64 x.up, .int .i64 x.dn], .bool true]) ?r ?d ?_
      case r => exact results_cell_tmp' rfl _ _ (w.heap.size + 1) 33 #[.int .i64 x.nd, .int .i64 x.ls, .int .i64 x.up, .int .i64 x.dn] (0, 0) _ (.bool true) rfl rfl (setRow_heap _ _ _ _ _ _ HZ3.out) Try.underlying33 rfl hd_info
      case d => rfl
      exact ⟨rfl, below_setRow HB3.out (by omega) _⟩
  · rw [if_neg hr]
    simp only [if_neg hr] at CK
    clear h hw hr H
    rw [show (none : Option Hd).getD hd0 = hd0 from rfl]
    unfold hval hd0
    unfold acval at *
    go_enter Try.func95, Try.ntmps95
    go_wp2_with fail
    obtain ⟨w1, ew, hb1, ha1, hz1⟩ := hz_new w A a n c
    rw [← ew]
    have HB1 := hide hb1
    have HA1 := hide ha1
    have HZ1 : Hid (w1.heap[w.heap.size + 1]? = _) := hz1
    have hq1 : w.heap.size + 1 < w1.heap.size := (Array.getElem?_eq_some_iff.1 hz1).1
    clear hb1 ha1 hz1 ew
    obtain ⟨z0, z1, z2, z3, z4, z5, z6, z7, z8, z9⟩ := HA1.out.at_
    have hs1 : w.heap.size < w1.heap.size := HA1.out.lt
    refine ((CK _).out HB1.out).mono ?_
    rintro e w2 ⟨rfl, hb⟩
    have HB2 : Hid (Below w.heap.size w w2) := HB1.out.trans (hb.mono HB1.out.size)
    have HA2 := hide (HA1.out.below hb)
    have HZ2 : Hid (w2.heap[w.heap.size + 1]? = _) := (hb.block _ hq1).trans HZ1.out
    have hq2 : w.heap.size + 1 < w2.heap.size := Nat.lt_of_lt_of_le hq1 hb.size
    clear hb z0 z1 z2 z3 z4 z5 z6 z7 z8 z9
    obtain ⟨z0, z1, z2, z3, z4, z5, z6, z7, z8, z9⟩ := HA2.out.at_
    have hs2 : w.heap.size < w2.heap.size := HA2.out.lt
    go_wp2_with (refine wpList_store_row rfl 33 (.tmp 4) (.tmp 11) rfl (w.heap.size + 1) #[.int .i64 0, .int .i64 0, .int .i64 0, .int .i64 0] rfl rfl 33 #[.int .i64 0, .int .i64 0, .int .i64 0, .int .i64 0] HZ2.out hd_info rfl (by simp [Value.oneCell']) ?_)
    refine bodyPost_ret (v := .tuple #[.agg #[.int .i64 0, .int .i64 0, .int .i64 0, .int .i64 0], .bool false]) ?r ?d ?_
    case r => exact results_cell_tmp' rfl _ _ (w.heap.size + 1) 33 #[.int .i64 0, .int .i64 0, .int .i64 0, .int .i64 0] (0, 0) _ (.bool false) rfl rfl (setRow_heap _ _ _ _ _ _ HZ2.out) Try.underlying33 rfl hd_info
    case d => rfl
    exact ⟨rfl, below_setRow HB2.out (by omega) _⟩
/-- an account of the key alone -/
def plainB (A : Ac) : Bool := rightB A && decide (A.lo = 0 ∧ A.hi = 0) && decide (A.base = 0) && decide (A.rd = 0) && knownB A
set_option maxRecDepth 100000 in
set_option maxHeartbeats 2000000 in
theorem sp_eql (x y x' y' : Int) (w : World) : (binOp .eql 23 (sval x y) (sval x' y')).run Try.prog w = .ok (.bool (decide (x = x' ∧ y = y'))) w := by
  unfold sval
  go_simp
  (repeat' split) <;> simp_all
set_option maxRecDepth 100000 in
set_option maxHeartbeats 2000000 in
theorem plain_a {w : World} {a : Option Addr} {n c : Nat} {A : Ac} (h : Hs w a n A.hs) (hw : AcW A) : Calls Try.prog 56 #[acval A a n c] w fun e w' => e = .returned (.bool (plainB A)) ∧ Below w.heap.size w w' := by
  have CK := fun W => hide (fun hW : Below w.heap.size w W => check_any (c := c) (h.below hW) hw)
  have hl := h.len
  have hrm := h.room
  have KN := fun W => hide (known_any (a := a) c W hl (by omega))
  have EQ := fun W => sp_eql A.lo A.hi 0 0 W
  unfold plainB
  unfold checkE at CK
  clear h hw hl hrm
  generalize rightB A = b1 at CK ⊢
  generalize knownB A = b2 at KN ⊢
  generalize decide (A.lo = 0 ∧ A.hi = 0) = b3 at EQ ⊢
  unfold sval at EQ
  unfold acval at *
  cases b1
  · clear EQ
    go_enter Try.func56, Try.ntmps56
    go_wp2_with fail
    obtain ⟨w1, ew, hb1, ha1⟩ := one_new w A a n c
    rw [← ew]
    have HB1 := hide hb1
    have HA1 := hide ha1
    clear hb1 ha1 ew
    obtain ⟨z0, z1, z2, z3, z4, z5, z6, z7, z8, z9⟩ := HA1.out.at_
    have hs1 : w.heap.size < w1.heap.size := HA1.out.lt
    refine ((CK _).out HB1.out).mono ?_
    rintro e w2 ⟨rfl, hb⟩
    have HB2 : Hid (Below w.heap.size w w2) := HB1.out.trans (hb.mono HB1.out.size)
    have HA2 := hide (HA1.out.below hb)
    clear hb
    clear z0 z1 z2 z3 z4 z5 z6 z7 z8 z9
    obtain ⟨z0, z1, z2, z3, z4, z5, z6, z7, z8, z9⟩ := HA2.out.at_
    have hs2 : w.heap.size < w2.heap.size := HA2.out.lt
    go_wp2_with fail
    go_returns
    exact ⟨rfl, HB2.out⟩
  cases b3
  · go_enter Try.func56, Try.ntmps56
    go_wp2_with fail
    obtain ⟨w1, ew, hb1, ha1⟩ := one_new w A a n c
    rw [← ew]
    have HB1 := hide hb1
    have HA1 := hide ha1
    clear hb1 ha1 ew
    obtain ⟨z0, z1, z2, z3, z4, z5, z6, z7, z8, z9⟩ := HA1.out.at_
    have hs1 : w.heap.size < w1.heap.size := HA1.out.lt
    refine ((CK _).out HB1.out).mono ?_
    rintro e w2 ⟨rfl, hb⟩
    have HB2 : Hid (Below w.heap.size w w2) := HB1.out.trans (hb.mono HB1.out.size)
    have HA2 := hide (HA1.out.below hb)
    clear hb
    clear z0 z1 z2 z3 z4 z5 z6 z7 z8 z9
    obtain ⟨z0, z1, z2, z3, z4, z5, z6, z7, z8, z9⟩ := HA2.out.at_
    have hs2 : w.heap.size < w2.heap.size := HA2.out.lt
    go_wp2_with fail
    go_returns
    exact ⟨rfl, HB2.out⟩
  by_cases hb : A.base = 0
  · by_cases hd : A.rd = 0
    · rw [decide_eq_true hb, decide_eq_true hd]
      obtain ⟨ak, alo, ahi, ab, ard, ahs, alk⟩ := A
      obtain rfl : ab = 0 := hb
      obtain rfl : ard = 0 := hd
      go_enter Try.func56, Try.ntmps56
      go_wp2_with fail
      obtain ⟨w1, ew, hb1, ha1⟩ := one_new w ⟨ak, alo, ahi, 0, 0, ahs, alk⟩ a n c
      rw [← ew]
      have HB1 := hide hb1
      have HA1 := hide ha1
      clear hb1 ha1 ew
      obtain ⟨z0, z1, z2, z3, z4, z5, z6, z7, z8, z9⟩ := HA1.out.at_
      have hs1 : w.heap.size < w1.heap.size := HA1.out.lt
      refine ((CK _).out HB1.out).mono ?_
      rintro e w2 ⟨rfl, hb⟩
      have HB2 : Hid (Below w.heap.size w w2) := HB1.out.trans (hb.mono HB1.out.size)
      have HA2 := hide (HA1.out.below hb)
      clear hb
      clear z0 z1 z2 z3 z4 z5 z6 z7 z8 z9
      obtain ⟨z0, z1, z2, z3, z4, z5, z6, z7, z8, z9⟩ := HA2.out.at_
      have hs2 : w.heap.size < w2.heap.size := HA2.out.lt
      go_wp2_with fail
      refine ((KN _).out).mono ?_
      rintro e w3 ⟨rfl, hb⟩
      have HB3 : Hid (Below w.heap.size w w3) := HB2.out.trans (hb.mono HB2.out.size)
      have HA3 := hide (HA2.out.below hb)
      clear hb
      clear z0 z1 z2 z3 z4 z5 z6 z7 z8 z9
      obtain ⟨z0, z1, z2, z3, z4, z5, z6, z7, z8, z9⟩ := HA3.out.at_
      have hs3 : w.heap.size < w3.heap.size := HA3.out.lt
      cases b2
      · go_wp2_with fail
        go_returns
        exact ⟨rfl, HB3.out⟩
      · go_wp2_with fail
        go_returns
        exact ⟨rfl, HB3.out⟩
    · rw [decide_eq_true hb, decide_eq_false hd]
      obtain ⟨ak, alo, ahi, ab, ard, ahs, alk⟩ := A
      obtain rfl : ab = 0 := hb
      have hd : ¬ ard = 0 := hd
      go_enter Try.func56, Try.ntmps56
      go_wp2_with fail
      obtain ⟨w1, ew, hb1, ha1⟩ := one_new w ⟨ak, alo, ahi, 0, ard, ahs, alk⟩ a n c
      rw [← ew]
      have HB1 := hide hb1
      have HA1 := hide ha1
      clear hb1 ha1 ew
      obtain ⟨z0, z1, z2, z3, z4, z5, z6, z7, z8, z9⟩ := HA1.out.at_
      have hs1 : w.heap.size < w1.heap.size := HA1.out.lt
      refine ((CK _).out HB1.out).mono ?_
      rintro e w2 ⟨rfl, hb⟩
      have HB2 : Hid (Below w.heap.size w w2) := HB1.out.trans (hb.mono HB1.out.size)
      have HA2 := hide (HA1.out.below hb)
      clear hb
      clear z0 z1 z2 z3 z4 z5 z6 z7 z8 z9
      obtain ⟨z0, z1, z2, z3, z4, z5, z6, z7, z8, z9⟩ := HA2.out.at_
      have hs2 : w.heap.size < w2.heap.size := HA2.out.lt
      go_wp2_with fail
      go_returns
      exact ⟨by simp, HB2.out⟩
  · rw [decide_eq_false hb]
    go_enter Try.func56, Try.ntmps56
    go_wp2_with fail
    obtain ⟨w1, ew, hb1, ha1⟩ := one_new w A a n c
    rw [← ew]
    have HB1 := hide hb1
    have HA1 := hide ha1
    clear hb1 ha1 ew
    obtain ⟨z0, z1, z2, z3, z4, z5, z6, z7, z8, z9⟩ := HA1.out.at_
    have hs1 : w.heap.size < w1.heap.size := HA1.out.lt
    refine ((CK _).out HB1.out).mono ?_
    rintro e w2 ⟨rfl, hb⟩
    have HB2 : Hid (Below w.heap.size w w2) := HB1.out.trans (hb.mono HB1.out.size)
    have HA2 := hide (HA1.out.below hb)
    clear hb
    clear z0 z1 z2 z3 z4 z5 z6 z7 z8 z9
    obtain ⟨z0, z1, z2, z3, z4, z5, z6, z7, z8, z9⟩ := HA2.out.at_
    have hs2 : w.heap.size < w2.heap.size := HA2.out.lt
    go_wp2_with fail
    go_returns
    exact ⟨by simp, HB2.out⟩
end Go.Proofs.Ytjcbhgkfbilifaa
