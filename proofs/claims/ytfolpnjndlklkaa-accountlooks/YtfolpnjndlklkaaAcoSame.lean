/- The law folder's Account of any two accounts. Condition: both can be read. -/
import Derived.Test.YtfolpnjndlklkaaAcoHelp
import Derived.Test.YtfolpnjndlklkaaAcoFind
import Derived.Test.YtfolpnjndlklkaaAcoSmall
namespace Go.Proofs.Ytfolpnjndlklkaa
open Go.ChangeShapes Go.WideShapes Go.ChangeAt Go.RowKit Ao
set_option linter.unusedVariables false

theorem acc_two (w : World) (A B : Ac) (a b : Option Addr) (n c m d : Nat) : ∃ w1, w1 = (w.alloc (.cells #[.string A.key, .int .i64 (A.lo), .int .i64 (A.hi), .int .i64 (A.base), .int .i64 (A.rd), .slice a n c, .int .i64 (A.lk.c), .int .i64 (A.lk.s), .int .i64 (A.lk.h), .int .i64 (A.lk.n)] 28)).alloc (.cells #[.string B.key, .int .i64 (B.lo), .int .i64 (B.hi), .int .i64 (B.base), .int .i64 (B.rd), .slice b m d, .int .i64 (B.lk.c), .int .i64 (B.lk.s), .int .i64 (B.lk.h), .int .i64 (B.lk.n)] 28) ∧ Below w.heap.size w w1 ∧ Ab w1 w.heap.size A a n c ∧ Ab w1 (w.heap.size + 1) B b m d := by
  have q := ab_new (w.alloc (.cells #[.string A.key, .int .i64 (A.lo), .int .i64 (A.hi), .int .i64 (A.base), .int .i64 (A.rd), .slice a n c, .int .i64 (A.lk.c), .int .i64 (A.lk.s), .int .i64 (A.lk.h), .int .i64 (A.lk.n)] 28)) B b m d
  rw [show (w.alloc (.cells #[.string A.key, .int .i64 (A.lo), .int .i64 (A.hi), .int .i64 (A.base), .int .i64 (A.rd), .slice a n c, .int .i64 (A.lk.c), .int .i64 (A.lk.s), .int .i64 (A.lk.h), .int .i64 (A.lk.n)] 28)).heap.size = w.heap.size + 1 by simp] at q
  exact ⟨_, rfl, (Below.alloc (Below.refl _ _) (Nat.le_refl _) _).alloc (by simp) _, (ab_new w A a n c).below (Below.alloc (Below.refl _ _) (Nat.le_refl _) _), q⟩
/-- the same account? -/
def accEq (A B : Ac) : Bool := decide (A.key = B.key) && decide (A.lo = B.lo ∧ A.hi = B.hi) && decide (A.base = B.base) && decide (A.rd = B.rd) && decide (A.hs = B.hs) && decide (A.lk = B.lk)
theorem accEq_iff (A B : Ac) : accEq A B = true ↔ A = B := by
  obtain ⟨ak, alo, ahi, ab, ard, ahs, alk⟩ := A
  obtain ⟨bk, blo, bhi, bb, brd, bhs, blk⟩ := B
  unfold accEq
  simp only [Bool.and_eq_true, decide_eq_true_eq, Ac.mk.injEq]
  constructor
  · rintro ⟨⟨⟨⟨⟨h1, h2, h3⟩, h4⟩, h5⟩, h6⟩, h7⟩
    exact ⟨h1, h2, h3, h4, h5, h6, h7⟩
  · rintro ⟨h1, h2, h3, h4, h5, h6, h7⟩
    exact ⟨⟨⟨⟨⟨h1, h2, h3⟩, h4⟩, h5⟩, h6⟩, h7⟩
theorem str_eq (a b : ByteArray) : (a.toList == b.toList) = decide (a = b) := by
  rw [Lib.toList_data, Lib.toList_data]
  by_cases h : a = b
  · subst h; simp
  · rw [decide_eq_false h, beq_eq_false_iff_ne]
    exact fun e => h (WideShapes.bytes_inj e)
set_option maxRecDepth 100000 in
set_option maxHeartbeats 2000000 in
theorem same_any {w : World} {a b : Option Addr} {n c m d : Nat} {A B : Ac} (h : Hs w a n A.hs) (h' : Hs w b m B.hs) : Calls Try.prog 21 #[acval A a n c, acval B b m d] w fun e w' => e = .returned (.bool (accEq A B)) ∧ Below w.heap.size w w' := by
  have C0 := fun W => hide (fun hW : Below w.heap.size w W => FnH.plain_any (cap := c) (cap' := d) (h.below hW) (h'.below hW))
  have TW := acc_two w A B a b n c m d
  obtain ⟨ak, alo, ahi, ab, ard, ahs, alk⟩ := A
  obtain ⟨bk, blo, bhi, bb, brd, bhs, blk⟩ := B
  clear h h'
  have E0 := str_eq ak bk
  by_cases k1 : ak = bk
  rotate_left
  · have HE : Hid (accEq ⟨ak, alo, ahi, ab, ard, ahs, alk⟩ ⟨bk, blo, bhi, bb, brd, bhs, blk⟩ = false) := by show _ = _; unfold accEq; simp [k1]
    rw [decide_eq_false k1] at E0
    unfold acval
    go_enter Try.func21, Try.ntmps21
    go_wp2_with fail
    obtain ⟨w1, ew, hb1, ha1, hy1⟩ := TW
    rw [← ew]
    have HB1 := hide hb1
    have HA1 := hide ha1
    have HY1 := hide hy1
    clear hb1 ha1 hy1 ew
    obtain ⟨z0, z1, z2, z3, z4, z5, z6, z7, z8, z9⟩ := HA1.out.at_
    obtain ⟨y0, y1, y2, y3, y4, y5, y6, y7, y8, y9⟩ := HY1.out.at_
    have hs1 : w.heap.size + 1 < w1.heap.size := HY1.out.lt
    go_wp2_with fail
    go_returns
    exact ⟨by first | rfl | (rw [HE.out]; done) | (rw [HE.out]; rfl), HB1.out⟩
  clear E0
  subst k1
  have E1 := fun W => sp_eql alo ahi blo bhi W
  by_cases k2 : alo = blo ∧ ahi = bhi
  rotate_left
  · have HE : Hid (accEq ⟨ak, alo, ahi, ab, ard, ahs, alk⟩ ⟨ak, blo, bhi, bb, brd, bhs, blk⟩ = false) := by show _ = _; unfold accEq; rw [decide_eq_false k2]; simp
    simp only [decide_eq_false k2] at E1
    unfold sval at E1
    unfold acval
    go_enter Try.func21, Try.ntmps21
    go_wp2_with fail
    obtain ⟨w1, ew, hb1, ha1, hy1⟩ := TW
    rw [← ew]
    have HB1 := hide hb1
    have HA1 := hide ha1
    have HY1 := hide hy1
    clear hb1 ha1 hy1 ew
    obtain ⟨z0, z1, z2, z3, z4, z5, z6, z7, z8, z9⟩ := HA1.out.at_
    obtain ⟨y0, y1, y2, y3, y4, y5, y6, y7, y8, y9⟩ := HY1.out.at_
    have hs1 : w.heap.size + 1 < w1.heap.size := HY1.out.lt
    go_wp2_with fail
    go_returns
    exact ⟨by first | rfl | (rw [HE.out]; done) | (rw [HE.out]; rfl), HB1.out⟩
  simp only [decide_eq_true k2] at E1
  obtain ⟨rfl, rfl⟩ := k2
  unfold sval at E1
  by_cases k3 : ab = bb
  rotate_left
  · have HE : Hid (accEq ⟨ak, alo, ahi, ab, ard, ahs, alk⟩ ⟨ak, alo, ahi, bb, brd, bhs, blk⟩ = false) := by show _ = _; unfold accEq; simp [k3]
    unfold acval
    go_enter Try.func21, Try.ntmps21
    go_wp2_with fail
    obtain ⟨w1, ew, hb1, ha1, hy1⟩ := TW
    rw [← ew]
    have HB1 := hide hb1
    have HA1 := hide ha1
    have HY1 := hide hy1
    clear hb1 ha1 hy1 ew
    obtain ⟨z0, z1, z2, z3, z4, z5, z6, z7, z8, z9⟩ := HA1.out.at_
    obtain ⟨y0, y1, y2, y3, y4, y5, y6, y7, y8, y9⟩ := HY1.out.at_
    have hs1 : w.heap.size + 1 < w1.heap.size := HY1.out.lt
    go_wp2_with fail
    go_returns
    exact ⟨by first | rfl | (rw [HE.out]; done) | (rw [HE.out]; rfl), HB1.out⟩
  subst k3
  by_cases k4 : ard = brd
  rotate_left
  · have HE : Hid (accEq ⟨ak, alo, ahi, ab, ard, ahs, alk⟩ ⟨ak, alo, ahi, ab, brd, bhs, blk⟩ = false) := by show _ = _; unfold accEq; simp [k4]
    unfold acval
    go_enter Try.func21, Try.ntmps21
    go_wp2_with fail
    obtain ⟨w1, ew, hb1, ha1, hy1⟩ := TW
    rw [← ew]
    have HB1 := hide hb1
    have HA1 := hide ha1
    have HY1 := hide hy1
    clear hb1 ha1 hy1 ew
    obtain ⟨z0, z1, z2, z3, z4, z5, z6, z7, z8, z9⟩ := HA1.out.at_
    obtain ⟨y0, y1, y2, y3, y4, y5, y6, y7, y8, y9⟩ := HY1.out.at_
    have hs1 : w.heap.size + 1 < w1.heap.size := HY1.out.lt
    go_wp2_with fail
    go_returns
    exact ⟨by first | rfl | (rw [HE.out]; done) | (rw [HE.out]; rfl), HB1.out⟩
  subst k4
  by_cases k5 : ahs = bhs
  rotate_left
  · have HE : Hid (accEq ⟨ak, alo, ahi, ab, ard, ahs, alk⟩ ⟨ak, alo, ahi, ab, ard, bhs, blk⟩ = false) := by show _ = _; unfold accEq; simp [k5]
    simp only [decide_eq_false k5] at C0
    unfold acval
    go_enter Try.func21, Try.ntmps21
    go_wp2_with fail
    obtain ⟨w1, ew, hb1, ha1, hy1⟩ := TW
    rw [← ew]
    have HB1 := hide hb1
    have HA1 := hide ha1
    have HY1 := hide hy1
    clear hb1 ha1 hy1 ew
    obtain ⟨z0, z1, z2, z3, z4, z5, z6, z7, z8, z9⟩ := HA1.out.at_
    obtain ⟨y0, y1, y2, y3, y4, y5, y6, y7, y8, y9⟩ := HY1.out.at_
    have hs1 : w.heap.size + 1 < w1.heap.size := HY1.out.lt
    go_wp2_with fail
    refine ((C0 _).out HB1.out).mono ?_
    rintro e w2 ⟨rfl, q, eq⟩
    have hb : Below w1.heap.size w1 w2 := eq ▸ below_drewN (Below.refl _ _) q
    have HB2 : Hid (Below w.heap.size w w2) := HB1.out.trans (hb.mono HB1.out.size)
    have HA2 := hide (HA1.out.below hb)
    have HY2 := hide (HY1.out.below hb)
    clear hb eq z0 z1 z2 z3 z4 z5 z6 z7 z8 z9 y0 y1 y2 y3 y4 y5 y6 y7 y8 y9
    obtain ⟨z0, z1, z2, z3, z4, z5, z6, z7, z8, z9⟩ := HA2.out.at_
    obtain ⟨y0, y1, y2, y3, y4, y5, y6, y7, y8, y9⟩ := HY2.out.at_
    go_wp2_with fail
    go_returns
    exact ⟨by first | rfl | (rw [HE.out]; done) | (rw [HE.out]; rfl), HB2.out⟩
  subst k5
  simp only [decide_true] at C0
  have HE : Hid (accEq ⟨ak, alo, ahi, ab, ard, ahs, alk⟩ ⟨ak, alo, ahi, ab, ard, ahs, blk⟩ = decide (alk = blk)) := by show _ = _; unfold accEq; simp
  have E2 := fun W => lk_eql alk blk W
  generalize decide (alk = blk) = b0 at E2 HE
  unfold lval at E2
  unfold acval
  go_enter Try.func21, Try.ntmps21
  go_wp2_with fail
  obtain ⟨w1, ew, hb1, ha1, hy1⟩ := TW
  rw [← ew]
  have HB1 := hide hb1
  have HA1 := hide ha1
  have HY1 := hide hy1
  clear hb1 ha1 hy1 ew
  obtain ⟨z0, z1, z2, z3, z4, z5, z6, z7, z8, z9⟩ := HA1.out.at_
  obtain ⟨y0, y1, y2, y3, y4, y5, y6, y7, y8, y9⟩ := HY1.out.at_
  have hs1 : w.heap.size + 1 < w1.heap.size := HY1.out.lt
  go_wp2_with fail
  refine ((C0 _).out HB1.out).mono ?_
  rintro e w2 ⟨rfl, q, eq⟩
  have hb : Below w1.heap.size w1 w2 := eq ▸ below_drewN (Below.refl _ _) q
  have HB2 : Hid (Below w.heap.size w w2) := HB1.out.trans (hb.mono HB1.out.size)
  have HA2 := hide (HA1.out.below hb)
  have HY2 := hide (HY1.out.below hb)
  clear hb eq z0 z1 z2 z3 z4 z5 z6 z7 z8 z9 y0 y1 y2 y3 y4 y5 y6 y7 y8 y9
  obtain ⟨z0, z1, z2, z3, z4, z5, z6, z7, z8, z9⟩ := HA2.out.at_
  obtain ⟨y0, y1, y2, y3, y4, y5, y6, y7, y8, y9⟩ := HY2.out.at_
  go_wp2_with fail
  go_returns
  exact ⟨by first | rfl | (rw [HE.out]; done) | (rw [HE.out]; rfl), HB2.out⟩
end Go.Proofs.Ytfolpnjndlklkaa
