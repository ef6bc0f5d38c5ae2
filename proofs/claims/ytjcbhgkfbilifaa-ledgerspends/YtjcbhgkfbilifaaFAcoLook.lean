/- What New, Room and Total answer: the landed code. Condition: the account can be read. -/
import Derived.Test.YtjcbhgkfbilifaaFAcoStand
import Derived.Laws.Tables
namespace Go.Proofs.Ytjcbhgkfbilifaa
open Go.ChangeShapes Go.WideShapes Go.ChangeAt Go.RowKit Ao
set_option linter.unusedVariables false

theorem one_new (w : World) (A : Ac) (a : Option Addr) (n c : Nat) : ∃ w1, w1 = w.alloc (.cells #[.string A.key, .int .i64 (A.lo), .int .i64 (A.hi), .int .i64 (A.base), .int .i64 (A.rd), .slice a n c, .int .i64 (A.lk.c), .int .i64 (A.lk.s), .int .i64 (A.lk.h), .int .i64 (A.lk.n)] 28) ∧ Below w.heap.size w w1 ∧ Ab w1 w.heap.size A a n c := ⟨_, rfl, Below.alloc (Below.refl _ _) (Nat.le_refl _) _, ab_new w A a n c⟩
theorem two_new (w : World) (A : Ac) (a : Option Addr) (n c : Nat) : ∃ w1, w1 = (w.alloc (.cells #[.string A.key, .int .i64 (A.lo), .int .i64 (A.hi), .int .i64 (A.base), .int .i64 (A.rd), .slice a n c, .int .i64 (A.lk.c), .int .i64 (A.lk.s), .int .i64 (A.lk.h), .int .i64 (A.lk.n)] 28)).alloc (.cells #[.string ⟨#[]⟩, .int .i64 0, .int .i64 0, .int .i64 0, .int .i64 0, .slice none 0 0, .int .i64 0, .int .i64 0, .int .i64 0, .int .i64 0] 28) ∧ Below w.heap.size w w1 ∧ Ab w1 w.heap.size A a n c ∧ Ab w1 (w.heap.size + 1) ac0 none 0 0 := by
  refine ⟨_, rfl, (Below.alloc (Below.refl _ _) (Nat.le_refl _) _).alloc (by simp) _, (ab_new w A a n c).below (Below.alloc (Below.refl _ _) (Nat.le_refl _) _), ?_⟩
  refine ⟨?_⟩
  show _ = some (Obj.cells #[.string ⟨#[]⟩, .int .i64 0, .int .i64 0, .int .i64 0, .int .i64 0, .slice none 0 0, .int .i64 0, .int .i64 0, .int .i64 0, .int .i64 0] 28 (0, 0))
  have := heap_alloc_new (w.alloc (.cells #[.string A.key, .int .i64 (A.lo), .int .i64 (A.hi), .int .i64 (A.base), .int .i64 (A.rd), .slice a n c, .int .i64 (A.lk.c), .int .i64 (A.lk.s), .int .i64 (A.lk.h), .int .i64 (A.lk.n)] 28)) (.cells #[.string ⟨#[]⟩, .int .i64 0, .int .i64 0, .int .i64 0, .int .i64 0, .slice none 0 0, .int .i64 0, .int .i64 0, .int .i64 0, .int .i64 0] 28)
  simpa using this
theorem zrow {w : World} {b : Nat} (h : Ab w b ac0 none 0 0) : w.heap[b]? = some (.cells #[.string ⟨#[]⟩, .int .i64 0, .int .i64 0, .int .i64 0, .int .i64 0, .slice none 0 0, .int .i64 0, .int .i64 0, .int .i64 0, .int .i64 0] 28 (0, 0)) := h.row
theorem room_b (lo hi v : Int) (w : World) (a1 : -9223372036854775808 ≤ lo) (a2 : lo ≤ 9223372036854775807) (b1 : -9223372036854775808 ≤ hi) (b2 : hi ≤ 9223372036854775807) (h1 : lo ≤ v) (h2 : v ≤ hi) :
    Calls Try.prog 129 #[.agg #[.int .i64 lo, .int .i64 hi], .int .i64 v] w fun e w' => e = .returned (.tuple #[.int .u64 (v - lo), .int .u64 (hi - v)]) ∧ Below w.heap.size w w' :=
  (room_yes lo hi v w a1 a2 b1 b2 h1 h2).mono fun e w' h => ⟨h.1, by
    have X : Below w.heap.size w ((w.alloc (.cells #[.int .i64 lo, .int .i64 hi] 23)).alloc (.cells #[.int .i64 lo, .int .i64 hi] 23)) := (Below.alloc (Below.refl _ _) (Nat.le_refl _) _).alloc (by simp) _
    rw [h.2]
    exact ⟨X.os, X.tape, X.output, X.size, X.block⟩⟩
def newE (k : ByteArray) : Int := if keyB k = true then 0 else 1
def newA (k : ByteArray) : Ac := if keyB k = true then ⟨k, 0, 0, 0, 0, [], lk0⟩ else ac0
set_option maxRecDepth 100000 in
set_option maxHeartbeats 2000000 in
theorem new_any (k : ByteArray) (w : World) : Calls Try.prog 55 #[.string k] w fun e w' => e = .returned (.tuple #[acval (newA k) none 0 0, .int .i64 (newE k)]) ∧ Below w.heap.size w w' := by
  have K := fun W => hide (key_any k W)
  unfold newE newA
  generalize keyB k = b at K ⊢
  cases b
  · go_enter Try.func55, Try.ntmps55
    go_wp2_with (go_at_call 114; refine ((K _).out).mono ?_; rintro e w' ⟨rfl, hw⟩; rw [hw]; clear hw)
    refine bodyPost_ret (v := .tuple #[.agg #[.string ⟨#[]⟩, .int .i64 0, .int .i64 0, .int .i64 0, .int .i64 0, .slice none 0 0, .int .i64 0, .int .i64 0, .int .i64 0, .int .i64 0], .int .i64 1]) (results_cell_tmp' rfl _ _ (w.heap.size) 28 #[.string ⟨#[]⟩, .int .i64 0, .int .i64 0, .int .i64 0, .int .i64 0, .slice none 0 0, .int .i64 0, .int .i64 0, .int .i64 0, .int .i64 0] (0, 0) _ (.int .i64 1) rfl rfl (heap_alloc_new w _) Try.underlying28 rfl ac_info) rfl ?_
    exact ⟨rfl, by go_grown⟩
  · go_enter Try.func55, Try.ntmps55
    go_wp2_with (go_at_call 114; refine ((K _).out).mono ?_; rintro e w' ⟨rfl, hw⟩; rw [hw]; clear hw)
    refine bodyPost_ret (v := .tuple #[.agg #[.string k, .int .i64 0, .int .i64 0, .int .i64 0, .int .i64 0, .slice none 0 0, .int .i64 0, .int .i64 0, .int .i64 0, .int .i64 0], .int .i64 0]) (results_cell_tmp' rfl _ _ (w.heap.size) 28 #[.string k, .int .i64 0, .int .i64 0, .int .i64 0, .int .i64 0, .slice none 0 0, .int .i64 0, .int .i64 0, .int .i64 0, .int .i64 0] (0, 0) _ (.int .i64 0) rfl rfl (heap_alloc_new w _) Try.underlying28 rfl ac_info) rfl ?_
    exact ⟨rfl, by go_grown⟩
set_option maxRecDepth 100000 in
set_option maxHeartbeats 2000000 in
theorem room_any {w : World} {a : Option Addr} {n c : Nat} {A : Ac} (h : Hs w a n A.hs) (hw : AcW A) : Calls Try.prog 96 #[acval A a n c] w fun e w' => e = .returned (.tuple #[.int .u64 (downR A), .int .u64 (upR A)]) ∧ Below w.heap.size w w' := by
  have CK := fun W => hide (fun hW : Below w.heap.size w W => check_any (c := c) (h.below hW) hw)
  have LC := fun W => hide (locked_any A a n c W)
  by_cases hr : rightB A = true
  · have hR := (right_iff A).1 hr
    by_cases hl : A.lk.c = 0
    · have e1 : downR A = A.base - downs A.hs - A.lo := by unfold downR; rw [if_pos ⟨hr, hl⟩]
      have e2 : upR A = A.hi - (A.base + ups A.hs) := by unfold upR; rw [if_pos ⟨hr, hl⟩]
      have e3 : lockedB A = false := by unfold lockedB; rw [hl]; rfl
      have e4 : checkE A = 0 := by unfold checkE; rw [if_pos hr]
      have hu := ups_nonneg hR.hs
      have q1 := hR.base
      have q2 := hR.up
      have q3 := hR.dn
      have q4 := hw.lo
      have q5 := hw.hi
      have e5 : reachB A = true := by unfold reachB; apply decide_eq_true; unfold I64 at *; omega
      have e6 : reachL A = A.base - downs A.hs := by unfold reachL; rw [if_pos e5]
      have e7 : reachH A = A.base + ups A.hs := by unfold reachH; rw [if_pos e5]
      have RE := fun W => hide (fun hW : Below w.heap.size w W => reach_any (c := c) (h.below hW) hw hR.hs)
      rw [e4] at CK
      rw [e3] at LC
      rw [e5, e6, e7] at RE
      rw [e1, e2]
      clear e1 e2 e3 e4 e5 e6 e7 hl hr hR h
      obtain ⟨p, ep⟩ : ∃ p, p = A.base - downs A.hs := ⟨_, rfl⟩
      obtain ⟨q, eq⟩ : ∃ q, q = A.base + ups A.hs := ⟨_, rfl⟩
      rw [← ep, ← eq] at RE ⊢
      have R1 := fun W => hide (room_b A.lo A.hi p W q4.1 q4.2 q5.1 q5.2 (by omega) (by omega))
      have R2 := fun W => hide (room_b A.lo A.hi q W q4.1 q4.2 q5.1 q5.2 (by omega) (by omega))
      clear ep eq hu q1 q2 q3 q4 q5 hw
      unfold acval at *
      go_enter Try.func96, Try.ntmps96
      go_wp2_with fail
      obtain ⟨w1, ew, hb1, ha1⟩ := one_new w A a n c
      rw [← ew]
      have HB1 := hide hb1
      have HA1 := hide ha1
      clear hb1 ha1 ew
      obtain ⟨z0, z1, z2, z3, z4, z5, z6, z7, z8, z9⟩ := HA1.out.at_
      have hs1 : w.heap.size < w1.heap.size := HA1.out.lt
      refine ((CK _).out HB1.out).mono ?_
      rintro e w2 ⟨rfl, hb⟩
      have HB2 : Hid (Below w.heap.size w w2) := HB1.out.trans (hb.mono HB1.out.size)
      have HA2 := hide (HA1.out.below hb)
      clear hb
      clear z0 z1 z2 z3 z4 z5 z6 z7 z8 z9
      obtain ⟨z0, z1, z2, z3, z4, z5, z6, z7, z8, z9⟩ := HA2.out.at_
      have hs2 : w.heap.size < w2.heap.size := HA2.out.lt
      go_wp2_with fail
      refine ((LC _).out).mono ?_
      rintro e w3 ⟨rfl, hb⟩
      have HB3 : Hid (Below w.heap.size w w3) := HB2.out.trans (hb.mono HB2.out.size)
      have HA3 := hide (HA2.out.below hb)
      clear hb
      clear z0 z1 z2 z3 z4 z5 z6 z7 z8 z9
      obtain ⟨z0, z1, z2, z3, z4, z5, z6, z7, z8, z9⟩ := HA3.out.at_
      have hs3 : w.heap.size < w3.heap.size := HA3.out.lt
      go_wp2_with fail
      refine ((RE _).out HB3.out).mono ?_
      rintro e w4 ⟨rfl, hb⟩
      have HB4 : Hid (Below w.heap.size w w4) := HB3.out.trans (hb.mono HB3.out.size)
      have HA4 := hide (HA3.out.below hb)
      clear hb
      clear z0 z1 z2 z3 z4 z5 z6 z7 z8 z9
      obtain ⟨z0, z1, z2, z3, z4, z5, z6, z7, z8, z9⟩ := HA4.out.at_
      have hs4 : w.heap.size < w4.heap.size := HA4.out.lt
      go_wp2_with fail
      have HS4 : Hid (Sb (w4.alloc (.cells #[.int .i64 p, .int .i64 q] 23)) w4.heap.size p q) := ⟨heap_alloc_new w4 _⟩
      have HB5 : Hid (Below w.heap.size w (w4.alloc (.cells #[.int .i64 p, .int .i64 q] 23))) := HB4.out.alloc HB4.out.size _
      have HA5 := hide (HA4.out.below (w' := w4.alloc (.cells #[.int .i64 p, .int .i64 q] 23)) (Below.alloc (Below.refl _ _) (Nat.le_refl _) _))
      obtain ⟨w5, e5⟩ : ∃ w5, w5 = w4.alloc (.cells #[.int .i64 p, .int .i64 q] 23) := ⟨_, rfl⟩
      have hs45 : w.heap.size < w4.heap.size := hs4
      obtain ⟨b4, eb4⟩ : ∃ b4, b4 = w4.heap.size := ⟨_, rfl⟩
      rw [← e5] at HS4 HB5 HA5 ⊢
      rw [← eb4] at HS4 hs45 ⊢
      clear z0 z1 z2 z3 z4 z5 z6 z7 z8 z9 HB4 HA4 e5 eb4 hs4
      obtain ⟨z0, z1, z2, z3, z4, z5, z6, z7, z8, z9⟩ := HA5.out.at_
      have hs5 : w.heap.size < w5.heap.size := HA5.out.lt
      refine ((R1 _).out).mono ?_
      rintro e w6 ⟨rfl, hb⟩
      have HB6 : Hid (Below w.heap.size w w6) := HB5.out.trans (hb.mono HB5.out.size)
      have HA6 := hide (HA5.out.below hb)
      have HS6 := hide (HS4.out.below hb)
      clear hb
      clear z0 z1 z2 z3 z4 z5 z6 z7 z8 z9
      obtain ⟨z0, z1, z2, z3, z4, z5, z6, z7, z8, z9⟩ := HA6.out.at_
      have hs6 : w.heap.size < w6.heap.size := HA6.out.lt
      have s0 := HS6.out.c0
      have s1 := HS6.out.c1
      have hs46 : b4 < w6.heap.size := HS6.out.lt
      go_wp2_with fail
      refine (R2 _).out.mono ?_
      rintro e w7 ⟨rfl, hb⟩
      have HB7 : Hid (Below w.heap.size w w7) := HB6.out.trans (hb.mono HB6.out.size)
      clear hb
      go_wp2_with fail
      go_returns
      exact ⟨rfl, HB7.out⟩
    · have e1 : downR A = 0 := by unfold downR; rw [if_neg fun x => hl x.2]
      have e2 : upR A = 0 := by unfold upR; rw [if_neg fun x => hl x.2]
      have e3 : lockedB A = true := by unfold lockedB; rw [decide_eq_false hl]; rfl
      have e4 : checkE A = 0 := by unfold checkE; rw [if_pos hr]
      rw [e4] at CK
      rw [e3] at LC
      rw [e1, e2]
      clear e1 e2 e3 e4 hl hr hR h hw
      unfold acval at *
      go_enter Try.func96, Try.ntmps96
      go_wp2_with fail
      obtain ⟨w1, ew, hb1, ha1⟩ := one_new w A a n c
      rw [← ew]
      have HB1 := hide hb1
      have HA1 := hide ha1
      clear hb1 ha1 ew
      obtain ⟨z0, z1, z2, z3, z4, z5, z6, z7, z8, z9⟩ := HA1.out.at_
      have hs1 : w.heap.size < w1.heap.size := HA1.out.lt
      refine ((CK _).out HB1.out).mono ?_
      rintro e w2 ⟨rfl, hb⟩
      have HB2 : Hid (Below w.heap.size w w2) := HB1.out.trans (hb.mono HB1.out.size)
      have HA2 := hide (HA1.out.below hb)
      clear hb
      clear z0 z1 z2 z3 z4 z5 z6 z7 z8 z9
      obtain ⟨z0, z1, z2, z3, z4, z5, z6, z7, z8, z9⟩ := HA2.out.at_
      have hs2 : w.heap.size < w2.heap.size := HA2.out.lt
      go_wp2_with fail
      refine ((LC _).out).mono ?_
      rintro e w3 ⟨rfl, hb⟩
      have HB3 : Hid (Below w.heap.size w w3) := HB2.out.trans (hb.mono HB2.out.size)
      have HA3 := hide (HA2.out.below hb)
      clear hb
      clear z0 z1 z2 z3 z4 z5 z6 z7 z8 z9
      obtain ⟨z0, z1, z2, z3, z4, z5, z6, z7, z8, z9⟩ := HA3.out.at_
      have hs3 : w.heap.size < w3.heap.size := HA3.out.lt
      go_wp2_with fail
      go_returns
      exact ⟨rfl, HB3.out⟩
  · have e1 : downR A = 0 := by unfold downR; rw [if_neg fun x => hr x.1]
    have e2 : upR A = 0 := by unfold upR; rw [if_neg fun x => hr x.1]
    have e4 : checkE A = 21 := by unfold checkE; rw [if_neg hr]
    rw [e4] at CK
    rw [e1, e2]
    clear e1 e2 e4 hr h hw LC
    unfold acval at *
    go_enter Try.func96, Try.ntmps96
    go_wp2_with fail
    obtain ⟨w1, ew, hb1, ha1⟩ := one_new w A a n c
    rw [← ew]
    have HB1 := hide hb1
    have HA1 := hide ha1
    clear hb1 ha1 ew
    obtain ⟨z0, z1, z2, z3, z4, z5, z6, z7, z8, z9⟩ := HA1.out.at_
    have hs1 : w.heap.size < w1.heap.size := HA1.out.lt
    refine ((CK _).out HB1.out).mono ?_
    rintro e w2 ⟨rfl, hb⟩
    have HB2 : Hid (Below w.heap.size w w2) := HB1.out.trans (hb.mono HB1.out.size)
    have HA2 := hide (HA1.out.below hb)
    clear hb
    clear z0 z1 z2 z3 z4 z5 z6 z7 z8 z9
    obtain ⟨z0, z1, z2, z3, z4, z5, z6, z7, z8, z9⟩ := HA2.out.at_
    have hs2 : w.heap.size < w2.heap.size := HA2.out.lt
    go_wp2_with fail
    go_returns
    exact ⟨rfl, HB2.out⟩
def totalV (A : Ac) : Int := if totalB A = true then A.base else 0
theorem totalB_eq (A : Ac) : totalB A = (rightB A && knownB A) := by
  unfold totalB knownB lockedB
  cases rightB A <;> simp
end Go.Proofs.Ytjcbhgkfbilifaa
