/- What the landed reader's Num, Int, Byte, Flag and Count answer, and how it stands then. No condition. -/
import Derived.Test.YtgenfklbponodaaDoorCodecThing
import Derived.Test.YtgenfklbponodaaDoorCodecBackMath
namespace Go.Proofs.YtgenfklbponodaaDoor
open Go.ChangeShapes Go.WideShapes Go.ChangeAt Go.RowKit B8 Cm
set_option linter.unusedVariables false

theorem rd_alloc {w : World} {R : Nat} {a : Option Addr} {n cp : Nat} {bs : List Int} {pl : Nat} {err : Int} (h : Rd w R a n cp bs pl err) (o : Obj) : Rd (w.alloc o) R a n cp bs pl err :=
  h.grown (grown_below (Below.alloc (Below.refl _ _) (Nat.le_refl _) o) none) (by simp) (by simp)
theorem grown_alloc {w w' : World} {o : Obj} {row : Option Nat} (h : (w.alloc o).grownBy w' row) : w.grownBy w' row :=
  World.grownBy.trans (grown_below (Below.alloc (Below.refl _ _) (Nat.le_refl _) o) row) h
theorem ends {X Y : Prop} (h : X ∧ Y) : Y ∧ X := ⟨h.2, h.1⟩

theorem num_end (bs : List Int) (pl : Nat) (err : Int) (V : Value) (hq : err = 0 → (numG (bs.drop pl) 0 0).e = 0 → V = .int .u64 ((numG (bs.drop pl) 0 0).v : Nat)) :
    thingV err (numG (bs.drop pl) 0 0).e V (.int .u64 0) = .int .u64 ((numA bs ⟨pl, err⟩).v : Nat) ∧ thingS err (numG (bs.drop pl) 0 0).e pl (pl + (numG (bs.drop pl) 0 0).used) = (numA bs ⟨pl, err⟩).s := by
  by_cases h0 : err = 0
  · subst h0
    by_cases h1 : (numG (bs.drop pl) 0 0).e = 0
    · rw [numA_good _ _ rfl h1, hq rfl h1]
      unfold thingV thingS
      rw [if_pos rfl, if_pos h1, if_pos rfl, if_pos h1]
      exact ⟨rfl, rfl⟩
    · rw [numA_bad _ _ rfl h1, thingV_bad h1, thingS_bad h1]; exact ⟨rfl, rfl⟩
  · rw [numA_fault _ _ h0, thingV_fault h0, thingS_fault h0]; exact ⟨rfl, rfl⟩
theorem xor_ones (x : Int) (h0 : 0 ≤ x) (h1 : x < 9223372036854775808) : bits .xor .i64 x (-1) = -x - 1 := by
  show IntKind.i64.wrap ((BitVec.ofInt 64 x ^^^ BitVec.ofInt 64 (-1)).toNat : Int) = _
  have e1 : BitVec.ofInt 64 (-1) = BitVec.allOnes 64 := by decide
  rw [e1, BitVec.xor_allOnes, BitVec.toNat_not, BitVec.toNat_ofInt, IntKind.wrap_i64]
  omega
theorem xor_zero64 (x : Int) (h0 : 0 ≤ x) (h1 : x < 9223372036854775808) : bits .xor .i64 x 0 = x := by
  show IntKind.i64.wrap ((BitVec.ofInt 64 x ^^^ BitVec.ofInt 64 0).toNat : Int) = _
  have e1 : BitVec.ofInt 64 0 = 0#64 := by decide
  rw [e1, BitVec.xor_zero, BitVec.toNat_ofInt, IntKind.wrap_i64]
  omega
theorem zag_form (v : Nat) (hv : v < 18446744073709551616) : bits .xor .i64 ((v : Int) / 2) (wrap64 (-wrap64 (bits .and .u64 (v : Int) 1))) = zag v := by
  rw [u64_and _ 1 (by omega) (by omega) (by omega) (by omega), Int.toNat_natCast, show (1 : Int).toNat = 1 from rfl, nat_mask1]
  unfold zag
  by_cases h : v % 2 = 1
  · rw [h, if_pos rfl, show wrap64 (-wrap64 ((1 : Nat) : Int)) = -1 from by unfold wrap64; omega, xor_ones _ (by omega) (by omega)]
    omega
  · rw [show v % 2 = 0 by omega, if_neg (by decide), show wrap64 (-wrap64 ((0 : Nat) : Int)) = 0 from by unfold wrap64; omega, xor_zero64 _ (by omega) (by omega)]
    omega

theorem clos_num {w : World} {R C : Nat} {a : Option Addr} {n cp : Nat} {bs : List Int} {pl : Nat} (h : Rd w R a n cp bs pl 0) (hC : w.cell? ⟨C, 0, none⟩ = some (.pointer (some ⟨R, 0, none⟩))) :
    Calls Tryd.prog 19 #[.pointer (some ⟨C, 0, none⟩)] w (Read R a n cp bs (numG (bs.drop pl) 0 0).e (pl + (numG (bs.drop pl) 0 0).used) (fun V _ => V = .int .u64 ((numG (bs.drop pl) 0 0).v : Nat)) w) := by
  have CN := hide (cnumber_any h)
  clear h
  go_enter Tryd.func19, Tryd.ntmps19
  go_wp2_with fail
  refine CN.out.mono ?_
  rintro e w1 ⟨rfl, p', hr, hp, hg⟩
  go_wp2_with fail
  go_ret2
  exact ⟨_, p', rfl, hr, hp, rfl, hg⟩

theorem cnum_any {w : World} {R : Nat} {a : Option Addr} {n cp : Nat} {bs : List Int} {s : St} (h : Rd w R a n cp bs s.pl s.err) :
    Calls Tryd.prog 11 #[.pointer (some ⟨R, 0, none⟩)] w fun e w' => e = .returned (.int .u64 ((numA bs s).v : Nat)) ∧ Rd w' R a n cp bs (numA bs s).s.pl (numA bs s).s.err ∧ w.grownBy w' (some R) := by
  obtain ⟨pl, err⟩ := s
  have HR := hide (rd_alloc h (.cells #[.pointer (some ⟨R, 0, none⟩)] 36))
  clear h
  have C := hide (thing_num (X := (numG (bs.drop pl) 0 0).e) (P := pl + (numG (bs.drop pl) 0 0).used) (Q := fun V _ => V = .int .u64 ((numG (bs.drop pl) 0 0).v : Nat)) #[.pointer (some ⟨w.heap.size, 0, none⟩)] HR.out (fun (h0 : err = 0) => clos_num (by have := HR.out; rw [← h0]; exact this) (by simp)))
  go_enter Tryd.func11, Tryd.ntmps11
  go_wp2_with fail
  refine C.out.mono ?_
  rintro e w1 ⟨V, rfl, hq, hr, hg⟩
  have E := hide (num_end bs pl err V hq)
  clear hq
  go_wp2_with fail
  go_ret
  rw [← E.out.2]
  exact ⟨congrArg Ending.returned E.out.1, hr, grown_alloc hg⟩

end Go.Proofs.YtgenfklbponodaaDoor
