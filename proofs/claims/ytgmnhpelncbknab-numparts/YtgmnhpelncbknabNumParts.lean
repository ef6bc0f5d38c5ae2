/- For every uint64 and every int the law NumParts ('What follows') returns true at the landed code: shares together are the whole, none differs from another by more than 1, and they never rise. No condition. -/
import Derived.Test.YtgmnhpelncbknabNumOpen
import Derived.Test.YtgmnhpelncbknabNumShare
namespace Go.Proofs.Ytgmnhpelncbknab
namespace NumParts
open Go.ChangeShapes Go.WideShapes Go.ChangeAt Go.RowKit
set_option linter.unusedVariables false

theorem few (n p : Int) (w : World) (n0 : 0 ≤ n) (n1 : n ≤ 18446744073709551615) (h : p < 1) :
    Calls Try.prog 4 #[.int .u64 n, .int .i64 p] w fun e w' => e = .returned (.bool true) ∧ Below w.heap.size w w' := by
  have c1 : Hid (∀ w, Calls Try.prog 10 #[.int .u64 n, .int .i64 p, .int .i64 0] w fun e w' => e = .returned (.int .u64 0) ∧ ∃ k, w' = w.drewN k) := by
    intro w
    have := share_any n p 0 w n0 n1 (by omega)
    rw [sharev_no n p 0 (by omega)] at this
    exact this
  go_enter Try.func4, Try.ntmps4
  go_wp2_with fail
  refine (awake_any _).mono ?_
  rintro e w' ⟨rfl, rfl⟩
  go_wp2_with fail
  refine (c1.out _).mono ?_
  rintro e w' ⟨rfl, k, rfl⟩
  go_wp2_with fail
  go_ret
  exact ⟨rfl, below_drewN (Below.alloc (Below.refl _ _) (by simp) _) _⟩

theorem many (n p : Int) (w : World) (n0 : 0 ≤ n) (n1 : n ≤ 18446744073709551615) (h : 300 < p) :
    Calls Try.prog 4 #[.int .u64 n, .int .i64 p] w fun e w' => e = .returned (.bool true) ∧ Below w.heap.size w w' := by
  go_enter Try.func4, Try.ntmps4
  go_wp2_with fail
  refine (awake_any _).mono ?_
  rintro e w' ⟨rfl, rfl⟩
  go_wp2_with fail
  go_ret
  exact ⟨rfl, by repeat (first | exact Below.refl _ _ | refine Below.drew ?_ | refine Below.alloc ?_ (by simp <;> omega) _)⟩

/-- the sum of the first k parts -/
def sumTo (n p : Int) (k : Nat) : Int := n / p * k + min (k : Int) (n % p)

theorem share_at (n p : Int) (k : Int) (h1 : 1 ≤ p) (h2 : 0 ≤ k) (h3 : k < p) : sharev n p k = n / p + if k < n % p then 1 else 0 := by
  by_cases h : k < n % p
  · rw [sharev_more n p k h1 h2 h3 h, if_pos h]
  · rw [sharev_less n p k h1 h2 h3 h, if_neg h]; omega

theorem share_facts (n p : Int) (k : Nat) (n0 : 0 ≤ n) (h1 : 1 ≤ p) (h3 : (k : Int) < p) :
    0 ≤ sharev n p k ∧ sharev n p k ≤ sharev n p 0 ∧ sharev n p 0 - sharev n p k ≤ 1 ∧ (0 < k → sharev n p k ≤ sharev n p ((k : Int) - 1)) := by
  have hb := quo_bd n p n0 h1
  rw [share_at n p k h1 (by omega) h3, share_at n p 0 h1 (by omega) (by omega)]
  refine ⟨?_, ?_, ?_, fun hk => ?_⟩
  · split <;> omega
  · split <;> split <;> omega
  · split <;> split <;> omega
  · rw [share_at n p ((k : Int) - 1) h1 (by omega) (by omega)]
    split <;> split <;> omega

theorem sum_zero (n p : Int) (n0 : 0 ≤ n) (h1 : 1 ≤ p) : sumTo n p 0 = 0 := by
  have hb := quo_bd n p n0 h1
  unfold sumTo
  simp
  omega

theorem sum_step (n p : Int) (k : Nat) (h1 : 1 ≤ p) (h3 : (k : Int) < p) : sumTo n p k + sharev n p k = sumTo n p (k + 1) := by
  rw [share_at n p k h1 (by omega) h3]
  unfold sumTo
  rw [show ((k + 1 : Nat) : Int) = (k : Int) + 1 from by omega, Int.mul_add, Int.mul_one]
  split <;> omega

theorem sum_bd (n p : Int) (k : Nat) (n0 : 0 ≤ n) (h1 : 1 ≤ p) (h3 : (k : Int) ≤ p) : 0 ≤ sumTo n p k ∧ sumTo n p k ≤ n := by
  have hb := quo_bd n p n0 h1
  have h2 := Int.mul_ediv_add_emod n p
  have h5 : n / p * p = p * (n / p) := Int.mul_comm _ _
  have h4 : n / p * k ≤ n / p * p := Int.mul_le_mul_of_nonneg_left h3 hb.1
  have h6 : 0 ≤ n / p * k := Int.mul_nonneg hb.1 (by omega)
  unfold sumTo
  omega

theorem sum_all (n p : Int) (k : Nat) (n0 : 0 ≤ n) (h1 : 1 ≤ p) (h3 : (k : Int) = p) : sumTo n p k = n := by
  have hb := quo_bd n p n0 h1
  have h2 := Int.mul_ediv_add_emod n p
  have h5 : n / p * p = p * (n / p) := Int.mul_comm _ _
  unfold sumTo
  rw [h3]
  omega

theorem within (n p : Int) (w : World) (n0 : 0 ≤ n) (n1 : n ≤ 18446744073709551615) (h1 : 1 ≤ p) (h2 : p ≤ 300) :
    Calls Try.prog 4 #[.int .u64 n, .int .i64 p] w fun e w' => e = .returned (.bool true) ∧ Below w.heap.size w w' := by
  have cs := hide (fun i w => share_any n p i w n0 n1 (by omega))
  go_enter Try.func4, Try.ntmps4
  go_wp2_with fail
  refine (awake_any _).mono ?_
  rintro e w' ⟨rfl, rfl⟩
  go_wp2_with fail
  go_loopw [5, 6] (fun s i wr => ∃ k : Nat, (k : Int) ≤ p ∧ i = .int .i64 k ∧ s = .int .u64 (sumTo n p k) ∧ Below w.heap.size w wr) (fun _ i _ => (p - intOf i).toNat)
  case atStart => exact ⟨0, by omega, rfl, by rw [sum_zero n p n0 h1], Below.alloc (Below.refl _ _) (by simp) _⟩
  case round =>
    obtain ⟨k, hk, rfl, rfl, hbel⟩ := hrel
    by_cases hlt : (k : Int) < p
    · have hs := sum_step n p k h1 hlt
      have HS := hide hs
      obtain ⟨b0, b1⟩ := sum_bd n p k n0 h1 hk
      obtain ⟨d0, d1⟩ := sum_bd n p (k + 1) n0 h1 (by omega)
      rw [← hs] at d0 d1
      obtain ⟨f0, f1, f2, f3⟩ := share_facts n p k n0 h1 hlt
      clear hs
      have hp : p ≤ 300 := h2
      by_cases hk0 : 0 < k
      · have f4 := f3 hk0
        have g0 : (0 : Int) < k := by omega
        clear f3
        go_wp2_with fail
        refine (cs.out _ _).mono ?_
        rintro e w' ⟨rfl, m1, rfl⟩
        go_wp2_with fail
        refine (cs.out _ _).mono ?_
        rintro e w' ⟨rfl, m2, rfl⟩
        go_wp2_with fail
        refine (cs.out _ _).mono ?_
        rintro e w' ⟨rfl, m3, rfl⟩
        go_wp2_with fail
        go_roundw
        case rel => exact ⟨k + 1, by omega, by go_num, by rw [HS.out], below_drewN hbel _⟩
        case measure => simp [intOf]; omega
      · obtain rfl : k = 0 := by omega
        clear f3
        rw [show ((0 : Nat) : Int) = 0 from rfl] at f0 f1 f2 d0 d1 HS
        go_wp2_with fail
        refine (cs.out _ _).mono ?_
        rintro e w' ⟨rfl, m1, rfl⟩
        go_wp2_with fail
        refine (cs.out _ _).mono ?_
        rintro e w' ⟨rfl, m2, rfl⟩
        go_wp2_with fail
        go_roundw
        case rel => exact ⟨0 + 1, by omega, by go_num, by rw [HS.out], below_drewN hbel _⟩
        case measure => simp [intOf]; omega
    · have hkp : (k : Int) = p := by omega
      rw [sum_all n p k n0 h1 hkp]
      have z1 := sharev_no n p p (by omega)
      have z2 := sharev_no n p (-1) (by omega)
      clear hkp
      go_wp2_with fail
      refine (cs.out _ _).mono ?_
      rintro e w' ⟨rfl, m1, rfl⟩
      go_wp2_with fail
      refine (cs.out _ _).mono ?_
      rintro e w' ⟨rfl, m2, rfl⟩
      go_wp2_with fail
      go_ret
      exact ⟨rfl, below_drewN hbel _⟩

theorem walk (n p : Int) (w : World) (a : 0 ≤ n ∧ n ≤ 18446744073709551615) :
    Calls Try.prog 4 #[.int .u64 n, .int .i64 p] w fun e w' => e = .returned (.bool true) ∧ Below w.heap.size w w' := by
  by_cases h : p < 1
  · exact few n p w a.1 a.2 h
  · by_cases h' : 300 < p
    · exact many n p w a.1 a.2 h'
    · exact within n p w a.1 a.2 (by omega) (by omega)

set_option maxRecDepth 100000 in
theorem lifted (os : Os) (started : os.Started) (H : Type) (enc : TypeId × Value → H) :
    ReturnsInHanded {} Try.checked os 4 .any (Rows.numPartsSpec.pre6 enc Try.prog Try.f4 Rows.numPartsRow.domain false) (Rows.numPartsSpec.post enc Try.prog Try.f4 false true false false) := by
  refine returnsInHanded_of_change (C := Try.checked) own started (by kernel_rfl) Try.func4
    (ChangeSpec.witness6 (enc := enc) (C := Try.checked) false ⟨#[], #[.int .u64 0, .int .i64 0], []⟩ 8 (by kernel_rfl) (by kernel_rfl) (by kernel_rfl) (by kernel_rfl)) ?_
  intro W base args ds gs before hval0 hW hcnd _
  have hval : ∀ (j : Nat) t v, Try.f4.params[j]? = some t → args[j]? = some v → Value.okWide Try.prog W .any base t v := hval0
  have hW' := hW
  obtain ⟨p, q, hA0, hV, rfl, hfz, hnd⟩ := hW
  have hA : DataW.TrodAll enc Try.prog W 0 (fun _ => true) true Try.f4.params.toList args.toList ds p := hA0
  rw [Try.params4] at hA hval
  obtain ⟨v0, vs0, d0, ds0, p0, q0, hargs, rfl, rfl, h0, r0⟩ := trodAll_cons hA
  obtain ⟨v1, vs1, d1, ds1, p1, q1, rfl, rfl, rfl, h1, r1⟩ := trodAll_cons r0
  obtain ⟨rfl, rfl, rfl⟩ := trodAll_nil r1
  obtain rfl : args = #[v0, v1] := by cases args; simp_all
  obtain ⟨rfl, rfl⟩ := trodVars_none hV
  have lt0 : ∀ x ∈ p0, x.block < W.heap.size := by obtain ⟨m, hm⟩ := h0; exact DataW.trod_lt m _ _ _ hm
  obtain ⟨n, rfl, a⟩ := open_u64 (hval 0 24 v0 rfl rfl) h0
  have lt1 : ∀ x ∈ p1, x.block < W.heap.size := by obtain ⟨m, hm⟩ := h1; exact DataW.trod_lt m _ _ _ hm
  obtain ⟨p, rfl, b⟩ := open_i64 (hval 1 3 v1 rfl rfl) h1
  clear hA0 hval0
  refine (walk n p W a).mono fun e W' ⟨he, bel⟩ => ?_
  subst he
  exact ⟨_, rfl, _, _, _, [], _, [], hW', trodAll_mk1 (shut_bool Try.underlying4 _), (trodAll_cons_mk (Below.trod laidOut (by kernel_rfl) (of_decide_eq_true (by kernel_rfl)) h0 bel lt0) (trodAll_cons_mk (Below.trod laidOut (by kernel_rfl) (of_decide_eq_true (by kernel_rfl)) h1 bel lt1) trodAll_mk0)), rfl, bel.frame _, fun h => by cases h⟩

theorem over : Rows.numPartsRow.holds Try.pinned (OpenSpec.ofChange Rows.numPartsSpec) :=
  OpenClaim.holds_of_wide 4 Try.f4 rfl rfl rfl rfl rfl rfl rfl ⟨rfl, rfl, rfl, rfl, rfl⟩ rfl rfl rfl rfl rfl (by kernel_rfl) Try.func4 (by kernel_rfl)
    (of_decide_eq_true (by kernel_rfl)) (by unfold Func.isWrapper; first | (rw [if_pos (by decide +kernel)]; kernel_rfl) | (rw [if_neg (by decide +kernel)]; exact ⟨rfl, rfl⟩))
    (fun os started H enc _ => lifted os started H enc)

theorem proved : Rows.NumPartsSaid := over
#print axioms proved
end NumParts
theorem numParts_holds : Rows.NumPartsSaid := NumParts.proved
end Go.Proofs.Ytgmnhpelncbknab
