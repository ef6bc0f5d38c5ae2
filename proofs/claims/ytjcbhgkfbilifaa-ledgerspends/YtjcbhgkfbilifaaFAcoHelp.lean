/- The law folder's Account of two that hold the same answers true; lists with marks behind them. No condition but that the lists can be read. -/
import Derived.Test.YtjcbhgkfbilifaaFAcoMade
import Derived.Test.YtjcbhgkfbilifaaFFlatKeptH
namespace Go.Proofs.Ytjcbhgkfbilifaa
open Go.ChangeShapes Go.WideShapes Go.ChangeAt Go.RowKit Ao
set_option linter.unusedVariables false

set_option maxRecDepth 100000 in
set_option maxHeartbeats 4000000 in
theorem same_true {w : World} {a b : Option Addr} {n c n' c' : Nat} {A : Ac} (h : Hs w a n A.hs) (h' : Hs w b n' A.hs) : Calls Try.prog 13 #[acval A a n c, acval A b n' c'] w fun e w' => e = .returned (.bool true) ∧ Below w.heap.size w w' := by
  obtain rfl : n = n' := h.len.symm.trans h'.len
  have C0 := fun W => hide (fun hW : Below w.heap.size w W => FnH.plain_any (cap := c) (cap' := c') (h.below hW) (h'.below hW))
  obtain ⟨ak, alo, ahi, ab, ard, ahs, alk⟩ := A
  obtain ⟨l0, l1, l2, l3⟩ := alk
  have HA0 := hide (ab_new w ⟨ak, alo, ahi, ab, ard, ahs, ⟨l0, l1, l2, l3⟩⟩ a n c)
  have HA1 := fun W : World => hide (ab_new W ⟨ak, alo, ahi, ab, ard, ahs, ⟨l0, l1, l2, l3⟩⟩ b n c')
  clear h h'
  unfold acval
  go_enter Try.func13, Try.ntmps13
  go_wp2_with fail
  have HB1 : Hid (Below w.heap.size w ((w.alloc (.cells #[.string ak, .int .i64 alo, .int .i64 ahi, .int .i64 ab, .int .i64 ard, .slice a n c, .int .i64 l0, .int .i64 l1, .int .i64 l2, .int .i64 l3] 28)).alloc (.cells #[.string ak, .int .i64 alo, .int .i64 ahi, .int .i64 ab, .int .i64 ard, (.slice b n c'), .int .i64 l0, .int .i64 l1, .int .i64 l2, .int .i64 l3] 28))) := (Below.alloc (Below.refl _ _) (Nat.le_refl _) _).alloc (by simp) _
  have HA2 := hide (HA0.out.below (w' := (w.alloc (.cells #[.string ak, .int .i64 alo, .int .i64 ahi, .int .i64 ab, .int .i64 ard, .slice a n c, .int .i64 l0, .int .i64 l1, .int .i64 l2, .int .i64 l3] 28)).alloc (.cells #[.string ak, .int .i64 alo, .int .i64 ahi, .int .i64 ab, .int .i64 ard, (.slice b n c'), .int .i64 l0, .int .i64 l1, .int .i64 l2, .int .i64 l3] 28)) (Below.alloc (Below.refl _ _) (Nat.le_refl _) _))
  have HA3 := hide (HA1 (w.alloc (.cells #[.string ak, .int .i64 alo, .int .i64 ahi, .int .i64 ab, .int .i64 ard, .slice a n c, .int .i64 l0, .int .i64 l1, .int .i64 l2, .int .i64 l3] 28))).out
  obtain ⟨w1, e1⟩ : ∃ w1, w1 = (w.alloc (.cells #[.string ak, .int .i64 alo, .int .i64 ahi, .int .i64 ab, .int .i64 ard, .slice a n c, .int .i64 l0, .int .i64 l1, .int .i64 l2, .int .i64 l3] 28)).alloc (.cells #[.string ak, .int .i64 alo, .int .i64 ahi, .int .i64 ab, .int .i64 ard, (.slice b n c'), .int .i64 l0, .int .i64 l1, .int .i64 l2, .int .i64 l3] 28) := ⟨_, rfl⟩
  rw [show (w.alloc (.cells #[.string ak, .int .i64 alo, .int .i64 ahi, .int .i64 ab, .int .i64 ard, .slice a n c, .int .i64 l0, .int .i64 l1, .int .i64 l2, .int .i64 l3] 28)).heap.size = w.heap.size + 1 by simp] at HA3
  rw [← e1] at HB1 HA2 HA3 ⊢
  clear e1 HA0 HA1
  refine ((C0 _).out HB1.out).mono ?_
  rintro e w2 ⟨rfl, q, rfl⟩
  have hb : Below w1.heap.size w1 (w1.drewN q) := below_drewN (Below.refl _ _) q
  have HB2 : Hid (Below w.heap.size w (w1.drewN q)) := HB1.out.trans (hb.mono HB1.out.size)
  have HA4 := hide (HA2.out.below hb)
  have HA5 := hide (HA3.out.below hb)
  obtain ⟨w2, e2⟩ : ∃ w2, w2 = w1.drewN q := ⟨_, rfl⟩
  rw [← e2] at HB2 HA4 HA5 ⊢
  clear e2 hb HA2 HA3 HB1
  obtain ⟨z0, z1, z2, z3, z4, z5, z6, z7, z8, z9⟩ := HA4.out.at_
  obtain ⟨y0, y1, y2, y3, y4, y5, y6, y7, y8, y9⟩ := HA5.out.at_
  go_wp2_with fail
  go_returns
  exact ⟨rfl, HB2.out⟩
def mk71 : Hd := ⟨71, 0, 0, 0⟩
/-- what Own makes: the list, in a row with two marks behind it -/
structure Owned (w : World) (B g len : Nat) (l : List Hd) : Prop where
  row : w.ownsRow B 33 4 (.slice (some ⟨g, 0, none⟩) (len + 2) (len + 2)) (len + 2) (fcells henc (l ++ [mk71, mk71]))
  ms : Hs w (some ⟨g, 0, none⟩) len l
theorem Owned.below {w w' : World} {B g len : Nat} {l : List Hd} (h : Owned w B g len l) (hb : Below w.heap.size w w') : Owned w' B g len l := ⟨row_keeps h.row hb, h.ms.below hb⟩
theorem own_h {w : World} {a : Option Addr} {len cap : Nat} {l : List Hd} (h : Hs w a len l) (hno : a = none → cap = 0) :
    Calls Try.prog 9 #[.slice a len cap, .agg #[.int .i64 71, .int .i64 0, .int .i64 0, .int .i64 0]] w fun e w' => ∃ g, e = .returned (.slice (some ⟨g, 0, none⟩) len (len + 2)) ∧ Below w.heap.size w w' ∧ Owned w' w.heap.size g len l := by
  refine (FnH.own_any (mk := mk71) h hno).mono ?_
  rintro e w1 ⟨g, rfl, hb, ho⟩
  exact ⟨g, rfl, hb, ho, (FnH.own_row h.len h.room ho).1⟩
theorem kept_h {w : World} {B g len cap : Nat} {a : Option Addr} {l : List Hd} (h : Hs w a len l) (ho : Owned w B g len l) :
    Calls Try.prog 14 #[.slice (some ⟨g, 0, none⟩) len (len + 2), .slice a len cap, .agg #[.int .i64 71, .int .i64 0, .int .i64 0, .int .i64 0]] w fun e w' => e = .returned (.bool true) ∧ Below w.heap.size w w' := FnH.kept_any (cap := cap) (mk := mk71) h ho.row
end Go.Proofs.Ytjcbhgkfbilifaa
