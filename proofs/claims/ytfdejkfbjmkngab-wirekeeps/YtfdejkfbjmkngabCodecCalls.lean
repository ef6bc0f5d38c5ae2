/- What the landed reader's Num, Int, Byte, Flag and Count answer, and how it stands then. No condition. -/
import Derived.Test.YtfdejkfbjmkngabCodecThing
import Derived.Test.YtfdejkfbjmkngabCodecBackMath
namespace Go.Proofs.Ytfdejkfbjmkngab
open Go.ChangeShapes Go.WideShapes Go.ChangeAt Go.RowKit B8 Cm
set_option linter.unusedVariables false

theorem rd_alloc {w : World} {R : Nat} {a : Option Addr} {n cp : Nat} {bs : List Int} {pl : Nat} {err : Int} (h : Rd w R a n cp bs pl err) (o : Obj) : Rd (w.alloc o) R a n cp bs pl err :=
  h.grown (grown_below (Below.alloc (Below.refl _ _) (Nat.le_refl _) o) none) (by simp) (by simp)
theorem grown_alloc {w w' : World} {o : Obj} {row : Option Nat} (h : (w.alloc o).grownBy w' row) : w.grownBy w' row :=
  World.grownBy.trans (grown_below (Below.alloc (Below.refl _ _) (Nat.le_refl _) o) row) h
theorem ends {X Y : Prop} (h : X ∧ Y) : Y ∧ X := ⟨h.2, h.1⟩

/-- what Flag's reading answers -/
def flagR (bs : List Int) (pl : Nat) : Bool × Int := if 1 < (nextA bs pl).1 then (false, 21) else (decide ((nextA bs pl).1 = 1), (nextA bs pl).2.1)
theorem num_end (bs : List Int) (pl : Nat) (err : Int) (V : Value) (hq : err = 0 → (numG (bs.drop pl) 0 0).e = 0 → V = .int .u64 ((numG (bs.drop pl) 0 0).v : Nat)) :
    thingV err (numG (bs.drop pl) 0 0).e V (.int .u64 0) = .int .u64 ((numA bs ⟨pl, err⟩).v : Nat) ∧ thingS err (numG (bs.drop pl) 0 0).e pl (pl + (numG (bs.drop pl) 0 0).used) = (numA bs ⟨pl, err⟩).s := by
  by_cases h0 : err = 0
  · subst h0
    by_cases h1 : (numG (bs.drop pl) 0 0).e = 0
    · rw [numA_good _ _ rfl h1, hq rfl h1]
      unfold thingV thingS
      rw [if_pos rfl, if_pos h1, if_pos rfl, if_pos h1]
      exact ⟨rfl, rfl⟩
    · rw [numA_bad _ _ rfl h1, thingV_bad h1, thingS_bad h1]; exact ⟨rfl, rfl⟩
  · rw [numA_fault _ _ h0, thingV_fault h0, thingS_fault h0]; exact ⟨rfl, rfl⟩
theorem int_end (bs : List Int) (pl : Nat) (err : Int) (V : Value) (hq : err = 0 → (numG (bs.drop pl) 0 0).e = 0 → V = .int .i64 (zag (numG (bs.drop pl) 0 0).v)) :
    thingV err (numG (bs.drop pl) 0 0).e V (.int .i64 0) = .int .i64 (intA bs ⟨pl, err⟩).v ∧ thingS err (numG (bs.drop pl) 0 0).e pl (pl + (numG (bs.drop pl) 0 0).used) = (intA bs ⟨pl, err⟩).s := by
  unfold intA
  by_cases h0 : err = 0
  · subst h0
    by_cases h1 : (numG (bs.drop pl) 0 0).e = 0
    · rw [numA_good _ _ rfl h1, hq rfl h1]
      unfold thingV thingS
      rw [if_pos rfl, if_pos h1, if_pos rfl, if_pos h1]
      exact ⟨rfl, rfl⟩
    · rw [numA_bad _ _ rfl h1, thingV_bad h1, thingS_bad h1]; exact ⟨congrArg (Value.int .i64) (show (0 : Int) = zag 0 from by decide), rfl⟩
  · rw [numA_fault _ _ h0, thingV_fault h0, thingS_fault h0]; exact ⟨congrArg (Value.int .i64) (show (0 : Int) = zag 0 from by decide), rfl⟩
theorem flag_end (bs : List Int) (pl : Nat) (err : Int) (V : Value) (hq : err = 0 → (flagR bs pl).2 = 0 → V = .bool (flagR bs pl).1) :
    thingV err (flagR bs pl).2 V (.bool false) = .bool (flagA bs ⟨pl, err⟩).v ∧ thingS err (flagR bs pl).2 pl (nextA bs pl).2.2 = (flagA bs ⟨pl, err⟩).s := by
  by_cases h0 : err = 0
  · subst h0
    by_cases h1 : pl < bs.length
    · have e : nextA bs pl = (bs[pl]?.getD 0, 0, pl + 1) := if_pos h1
      have eb := byteA_good bs ⟨pl, 0⟩ rfl h1
      by_cases h2 : 1 < bs[pl]?.getD 0
      · have ef : flagR bs pl = (false, 21) := by unfold flagR; rw [e, if_pos h2]
        rw [ef, e, flagA_bad _ _ (by rw [eb]; exact h2), thingV_bad (by decide), thingS_bad (by decide)]
        exact ⟨rfl, rfl⟩
      · have ef : flagR bs pl = (decide (bs[pl]?.getD 0 = 1), 0) := by unfold flagR; rw [e, if_neg h2]
        rw [ef] at hq
        rw [ef, e, flagA_good _ _ (by rw [eb]; exact h2), hq rfl rfl, thingV_ok, thingS_ok, eb]
        exact ⟨rfl, rfl⟩
    · have e : nextA bs pl = (0, 20, pl) := if_neg h1
      have eb := byteA_short bs ⟨pl, 0⟩ rfl h1
      have ef : flagR bs pl = (false, 20) := by unfold flagR; rw [e, if_neg (show ¬ (1 : Int) < 0 by decide)]; rfl
      rw [ef, e, flagA_good _ _ (by rw [eb]; show ¬ (1 : Int) < 0; decide), thingV_bad (by decide), thingS_bad (by decide), eb]
      exact ⟨rfl, rfl⟩
  · have eb := byteA_fault bs ⟨pl, err⟩ h0
    rw [flagA_good _ _ (by rw [eb]; show ¬ (1 : Int) < 0; decide), thingV_fault h0, thingS_fault h0, eb]; exact ⟨rfl, rfl⟩
theorem count_end (bs : List Int) (most : Int) (pl : Nat) (err : Int) (V : Value) (hq : err = 0 → (upR (numG (bs.drop pl) 0 0) most).2 = 0 → V = .int .i64 (upR (numG (bs.drop pl) 0 0) most).1) :
    thingV err (upR (numG (bs.drop pl) 0 0) most).2 V (.int .i64 0) = .int .i64 ((countA bs most ⟨pl, err⟩).v : Nat) ∧ thingS err (upR (numG (bs.drop pl) 0 0) most).2 pl (pl + (numG (bs.drop pl) 0 0).used) = (countA bs most ⟨pl, err⟩).s := by
  by_cases h0 : err = 0
  · subst h0
    by_cases h1 : (numG (bs.drop pl) 0 0).e = 0
    · have en := numA_good bs ⟨pl, 0⟩ rfl h1
      by_cases h2 : max 0 most < ((numG (bs.drop pl) 0 0).v : Int)
      · have eu : upR (numG (bs.drop pl) 0 0) most = (0, 22) := by unfold upR; rw [if_pos h1, if_pos h2]
        rw [eu, countA_long _ _ _ (by rw [en]; exact h2), thingV_bad (by decide), thingS_bad (by decide)]
        exact ⟨rfl, rfl⟩
      · have eu : upR (numG (bs.drop pl) 0 0) most = (((numG (bs.drop pl) 0 0).v : Int), 0) := by unfold upR; rw [if_pos h1, if_neg h2]
        rw [eu] at hq
        rw [eu, countA_good _ _ _ (by rw [en]; exact h2), hq rfl rfl, thingV_ok, thingS_ok, en]
        exact ⟨rfl, rfl⟩
    · have en := numA_bad bs ⟨pl, 0⟩ rfl h1
      have eu : upR (numG (bs.drop pl) 0 0) most = (0, (numG (bs.drop pl) 0 0).e) := by unfold upR; rw [if_neg h1]
      rw [eu, countA_good _ _ _ (by rw [en]; show ¬ _ < ((0 : Nat) : Int); omega), thingV_bad h1, thingS_bad h1, en]
      exact ⟨rfl, rfl⟩
  · have en := numA_fault bs ⟨pl, err⟩ h0
    rw [countA_good _ _ _ (by rw [en]; show ¬ _ < ((0 : Nat) : Int); omega), thingV_fault h0, thingS_fault h0, en]; exact ⟨rfl, rfl⟩
theorem xor_ones (x : Int) (h0 : 0 ≤ x) (h1 : x < 9223372036854775808) : bits .xor .i64 x (-1) = -x - 1 := by
  show IntKind.i64.wrap ((BitVec.ofInt 64 x ^^^ BitVec.ofInt 64 (-1)).toNat : Int) = _
  have e1 : BitVec.ofInt 64 (-1) = BitVec.allOnes 64 := by decide
  rw [e1, BitVec.xor_allOnes, BitVec.toNat_not, BitVec.toNat_ofInt, IntKind.wrap_i64]
  omega
theorem xor_zero64 (x : Int) (h0 : 0 ≤ x) (h1 : x < 9223372036854775808) : bits .xor .i64 x 0 = x := by
  show IntKind.i64.wrap ((BitVec.ofInt 64 x ^^^ BitVec.ofInt 64 0).toNat : Int) = _
  have e1 : BitVec.ofInt 64 0 = 0#64 := by decide
  rw [e1, BitVec.xor_zero, BitVec.toNat_ofInt, IntKind.wrap_i64]
  omega
theorem zag_form (v : Nat) (hv : v < 18446744073709551616) : bits .xor .i64 ((v : Int) / 2) (wrap64 (-wrap64 (bits .and .u64 (v : Int) 1))) = zag v := by
  rw [u64_and _ 1 (by omega) (by omega) (by omega) (by omega), Int.toNat_natCast, show (1 : Int).toNat = 1 from rfl, nat_mask1]
  unfold zag
  by_cases h : v % 2 = 1
  · rw [h, if_pos rfl, show wrap64 (-wrap64 ((1 : Nat) : Int)) = -1 from by unfold wrap64; omega, xor_ones _ (by omega) (by omega)]
    omega
  · rw [show v % 2 = 0 by omega, if_neg (by decide), show wrap64 (-wrap64 ((0 : Nat) : Int)) = 0 from by unfold wrap64; omega, xor_zero64 _ (by omega) (by omega)]
    omega

theorem clos_int {w : World} {R C : Nat} {a : Option Addr} {n cp : Nat} {bs : List Int} {pl : Nat} (h : Rd w R a n cp bs pl 0) (hC : w.cell? ⟨C, 0, none⟩ = some (.pointer (some ⟨R, 0, none⟩))) :
    Calls Try.prog 95 #[.pointer (some ⟨C, 0, none⟩)] w (Read R a n cp bs (numG (bs.drop pl) 0 0).e (pl + (numG (bs.drop pl) 0 0).used) (fun V _ => V = .int .i64 (zag (numG (bs.drop pl) 0 0).v)) w) := by
  have CN := cnumber_any h
  have hlt := numG_lt (bs.drop pl) 0 0 (by omega) (by simp) (fun x hx => bs_bd h.sq.wf x (List.mem_of_mem_drop hx))
  obtain ⟨G, eG⟩ : ∃ G, G = numG (bs.drop pl) 0 0 := ⟨_, rfl⟩
  rw [← eG] at CN hlt ⊢
  clear h eG
  obtain ⟨v, u, x⟩ := G
  have hv : v < 18446744073709551616 := hlt
  have CN := hide CN
  clear hlt
  have HZ := hide (zag_form v hv)
  go_enter Try.func95, Try.ntmps95
  go_wp2_with fail
  refine CN.out.mono ?_
  rintro e w1 ⟨rfl, p', hr, hp, hg⟩
  go_wp2_with fail
  go_ret2
  exact ⟨_, p', rfl, hr, hp, congrArg (Value.int .i64) HZ.out, hg⟩
theorem clos_flag {w : World} {R C : Nat} {a : Option Addr} {n cp : Nat} {bs : List Int} {pl : Nat} (h : Rd w R a n cp bs pl 0) (hC : w.cell? ⟨C, 0, none⟩ = some (.pointer (some ⟨R, 0, none⟩))) :
    Calls Try.prog 98 #[.pointer (some ⟨C, 0, none⟩)] w (Read R a n cp bs (flagR bs pl).2 (nextA bs pl).2.2 (fun V _ => V = .bool (flagR bs pl).1) w) := by
  have CN := cnext_any h
  unfold flagR
  obtain ⟨A, eA⟩ : ∃ A, A = nextA bs pl := ⟨_, rfl⟩
  rw [← eA] at CN ⊢
  clear h eA
  obtain ⟨c, x, p⟩ := A
  have CN := hide CN
  by_cases h1 : 1 < c
  · have q1 : decide (1 < c) = true := by simpa using h1
    have HV : Hid ((if 1 < c then (false, (21 : Int)) else (decide (c = 1), x)) = (false, 21)) := if_pos h1
    go_enter Try.func98, Try.ntmps98
    go_wp2_with fail
    refine CN.out.mono ?_
    rintro e w1 ⟨rfl, hr, hg⟩
    go_wp2_with fail
    go_ret2
    exact ⟨_, _, rfl, hr, fun h => absurd h (by decide), rfl, hg⟩
  · have q1 : decide (1 < c) = false := by simpa using h1
    have HV : Hid ((if 1 < c then (false, (21 : Int)) else (decide (c = 1), x)) = (decide (c = 1), x)) := if_neg h1
    go_enter Try.func98, Try.ntmps98
    go_wp2_with fail
    refine CN.out.mono ?_
    rintro e w1 ⟨rfl, hr, hg⟩
    go_wp2_with fail
    go_ret2
    exact ⟨_, _, rfl, hr, fun _ => rfl, congrArg Value.bool (by rw [Bool.eq_iff_iff]; simp), hg⟩
theorem clos_count {w : World} {R C D : Nat} {a : Option Addr} {n cp : Nat} {bs : List Int} {pl : Nat} (most : Int) (h9 : most < 9223372036854775808) (h : Rd w R a n cp bs pl 0) (hC : w.cell? ⟨C, 0, none⟩ = some (.pointer (some ⟨R, 0, none⟩))) (hD : w.cell? ⟨D, 0, none⟩ = some (.int .i64 most)) :
    Calls Try.prog 94 #[.pointer (some ⟨C, 0, none⟩), .pointer (some ⟨D, 0, none⟩)] w (Read R a n cp bs (upR (numG (bs.drop pl) 0 0) most).2 (pl + (numG (bs.drop pl) 0 0).used) (fun V _ => V = .int .i64 (upR (numG (bs.drop pl) 0 0) most).1) w) := by
  have CN := hide (cupto_any most h9 h)
  clear h
  go_enter Try.func94, Try.ntmps94
  go_wp2_with fail
  refine CN.out.mono ?_
  rintro e w1 ⟨rfl, p', hr, hp, hg⟩
  go_wp2_with fail
  go_ret2
  exact ⟨_, p', rfl, hr, hp, rfl, hg⟩
theorem cint_any {w : World} {R : Nat} {a : Option Addr} {n cp : Nat} {bs : List Int} {s : St} (h : Rd w R a n cp bs s.pl s.err) :
    Calls Try.prog 88 #[.pointer (some ⟨R, 0, none⟩)] w fun e w' => e = .returned (.int .i64 (intA bs s).v) ∧ Rd w' R a n cp bs (intA bs s).s.pl (intA bs s).s.err ∧ w.grownBy w' (some R) := by
  obtain ⟨pl, err⟩ := s
  have HR := hide (rd_alloc h (.cells #[.pointer (some ⟨R, 0, none⟩)] 84))
  clear h
  have C := hide (thing_int (X := (numG (bs.drop pl) 0 0).e) (P := pl + (numG (bs.drop pl) 0 0).used) (Q := fun V _ => V = .int .i64 (zag (numG (bs.drop pl) 0 0).v)) #[.pointer (some ⟨w.heap.size, 0, none⟩)] HR.out (fun (h0 : err = 0) => clos_int (by have := HR.out; rw [← h0]; exact this) (by simp)))
  go_enter Try.func88, Try.ntmps88
  go_wp2_with fail
  refine C.out.mono ?_
  rintro e w1 ⟨V, rfl, hq, hr, hg⟩
  have E := hide (int_end bs pl err V hq)
  clear hq
  go_wp2_with fail
  go_ret
  rw [← E.out.2]
  exact ⟨congrArg Ending.returned E.out.1, hr, grown_alloc hg⟩
theorem cflag_any {w : World} {R : Nat} {a : Option Addr} {n cp : Nat} {bs : List Int} {s : St} (h : Rd w R a n cp bs s.pl s.err) :
    Calls Try.prog 89 #[.pointer (some ⟨R, 0, none⟩)] w fun e w' => e = .returned (.bool (flagA bs s).v) ∧ Rd w' R a n cp bs (flagA bs s).s.pl (flagA bs s).s.err ∧ w.grownBy w' (some R) := by
  obtain ⟨pl, err⟩ := s
  have HR := hide (rd_alloc h (.cells #[.pointer (some ⟨R, 0, none⟩)] 84))
  clear h
  have C := hide (thing_flag (X := (flagR bs pl).2) (P := (nextA bs pl).2.2) (Q := fun V _ => V = .bool (flagR bs pl).1) #[.pointer (some ⟨w.heap.size, 0, none⟩)] HR.out (fun (h0 : err = 0) => clos_flag (by have := HR.out; rw [← h0]; exact this) (by simp)))
  go_enter Try.func89, Try.ntmps89
  go_wp2_with fail
  refine C.out.mono ?_
  rintro e w1 ⟨V, rfl, hq, hr, hg⟩
  have E := hide (flag_end bs pl err V hq)
  clear hq
  go_wp2_with fail
  go_ret
  rw [← E.out.2]
  exact ⟨congrArg Ending.returned E.out.1, hr, grown_alloc hg⟩
theorem ccount_any {w : World} {R : Nat} {a : Option Addr} {n cp : Nat} {bs : List Int} {s : St} (most : Int) (h9 : most < 9223372036854775808) (h : Rd w R a n cp bs s.pl s.err) :
    Calls Try.prog 87 #[.pointer (some ⟨R, 0, none⟩), .int .i64 most] w fun e w' => e = .returned (.int .i64 ((countA bs most s).v : Nat)) ∧ Rd w' R a n cp bs (countA bs most s).s.pl (countA bs most s).s.err ∧ w.grownBy w' (some R) := by
  obtain ⟨pl, err⟩ := s
  have HR := hide (rd_alloc (rd_alloc h (.cells #[.pointer (some ⟨R, 0, none⟩)] 84)) (.cells #[.int .i64 most] 3))
  clear h
  have C := hide (thing_count (X := (upR (numG (bs.drop pl) 0 0) most).2) (P := pl + (numG (bs.drop pl) 0 0).used) (Q := fun V _ => V = .int .i64 (upR (numG (bs.drop pl) 0 0) most).1) #[.pointer (some ⟨w.heap.size, 0, none⟩), .pointer (some ⟨w.heap.size + 1, 0, none⟩)] HR.out (fun (h0 : err = 0) => clos_count most h9 (by have := HR.out; rw [← h0]; exact this) (by simp) (by simp)))
  go_enter Try.func87, Try.ntmps87
  go_wp2_with fail
  refine C.out.mono ?_
  rintro e w1 ⟨V, rfl, hq, hr, hg⟩
  have E := hide (count_end bs most pl err V hq)
  clear hq
  go_wp2_with fail
  go_ret
  rw [← E.out.2]
  exact ⟨congrArg Ending.returned E.out.1, hr, grown_alloc (grown_alloc hg)⟩
end Go.Proofs.Ytfdejkfbjmkngab
