/- For every int and every two lists of ints, where all of it together is of bounded bulk, the law BallotMeets ('What follows') returns true at the landed code: two lists that are each a majority name a node in common; more names are never fewer. Condition: the second form's bound on the arguments' bulk. -/
import Derived.Test.YtlcccaiahmbkpaaBallotOpen
import Derived.Test.YtlcccaiahmbkpaaBallotMeetMath
import Derived.Test.YtlcccaiahmbkpaaUptoOpenI
import Derived.Deep.RegionWith
namespace Go.Proofs.Ytlcccaiahmbkpaa
namespace BallotMeets
open Go.ChangeShapes Go.WideShapes Go.ChangeAt Go.RowKit I8
set_option linter.unusedVariables false

theorem bel_drewN {w w1 : World} (h : Below w.heap.size w w1) (q : Nat) : Below w.heap.size w (w1.drewN q) := h.trans ⟨rfl, rfl, rfl, Nat.le_refl _, fun _ _ => rfl⟩
theorem next {k : Nat} {P : Nat → Prop} (h : ∀ j, j < k → P j) (hk : P k) : ∀ j, j < k + 1 → P j := fun j hj => by
  by_cases e : j = k
  · subst e; exact hk
  · exact h j (by omega)
set_option maxHeartbeats 2000000 in
theorem walk {w : World} {a b : Option Addr} {la ca lb cb : Nat} {xs ys : List Int} (nodes : Int) (hA : Sq w a la ca xs) (hca : ca ≤ 1048576) (hB : Sq w b lb cb ys) (hcb : cb ≤ 1048576) :
    Calls Try.prog 8 #[.int .i64 nodes, .slice a la ca, .slice b lb cb] w fun e w' => e = .returned (.bool true) ∧ Below w.heap.size w w' := by
  have l1 : la ≤ 1048576 := Nat.le_trans hA.lecap hca
  have l2 : lb ≤ 1048576 := Nat.le_trans hB.lecap hcb
  have HA := hide hA
  have HB := hide hB
  clear hA hB hca hcb
  go_enter Try.func8, Try.ntmps8
  go_wp2_with fail
  refine (awake_any _).mono ?_
  rintro e w1 ⟨rfl, hb1⟩
  have B1 := hide hb1
  clear hb1
  go_wp2_with (first
    | (at_builtin; refine wp_append_sq _ rfl (.tmp 12) (.tmp 13) rfl w.heap.size (.slice none 0 0) 0 [] rfl (World.ownsRow_nil _ _ _ _) a la ca xs rfl (HA.out.below B1.out) (by omega) B1.out.size ?_; intro x2 w2 o2 g2; simp only [List.nil_append, Nat.zero_add] at o2; have B2 := hide (below_grown B1.out (World.ownsRow_nil w1 w.heap.size 3 1) (Nat.le_refl _) g2); have O2 := hide o2; clear o2 g2 B1)
    | (at_builtin; refine wp_append_sq _ rfl (.tmp 15) (.tmp 16) rfl w.heap.size x2 la xs rfl O2.out b lb cb ys rfl (HB.out.below B2.out) (by omega) B2.out.size ?_; intro x4 w4 o4 g4; have B4 := hide (below_grown B2.out O2.out (Nat.le_refl _) g4); have O4 := hide o4; clear o4 g4 B2 O2))
  obtain ⟨a4, c4, rfl, S4⟩ := sq_of_row (zs := xs ++ ys) (len := la + lb) (by rw [List.length_append, HA.out.length, HB.out.length]) (wfs_append HA.out.wf HB.out.wf) O4.out
  have H4 := hide S4
  clear S4 O4
  have hn2 : la + lb ≤ 2097152 := by omega
  generalize la + lb = n at hn2 H4 ⊢
  refine (count_any nodes H4.out (by omega)).mono ?_
  rintro e w5 ⟨rfl, hb5⟩
  have B5 := hide (below_step B4.out hb5)
  have H5 := hide (H4.out.below hb5)
  have K1 := hide (cnt_mono nodes xs ys)
  clear hb5 B4 H4
  go_wp2_with fail
  refine (count_any nodes (HA.out.below B5.out) (by omega)).mono ?_
  rintro e w6 ⟨rfl, hb6⟩
  have B6 := hide (below_step B5.out hb6)
  have H6 := hide (H5.out.below hb6)
  clear hb6 B5 H5
  have k1 : ¬ cntV nodes (xs ++ ys) < cntV nodes xs := by have := K1.out; omega
  clear K1
  go_wp2_with fail
  refine (enough_any nodes (HA.out.below B6.out) (by omega)).mono ?_
  rintro e w7 ⟨rfl, hb7⟩
  have B7 := hide (below_step B6.out hb7)
  have H7 := hide (H6.out.below hb7)
  clear hb7 B6 H6
  cases hx : enB nodes xs with
  | false =>
    go_wp2_with fail
    refine (enough_any nodes (HA.out.below B7.out) (by omega)).mono ?_
    rintro e w8 ⟨rfl, hb8⟩
    have B8 := hide (below_step B7.out hb8)
    clear hb8 B7 H7
    rw [hx]
    go_wp2_with fail
    go_ret
    exact ⟨rfl, B8.out⟩
  | true =>
    go_wp2_with fail
    refine (enough_any nodes H7.out (by omega)).mono ?_
    rintro e w8 ⟨rfl, hb8⟩
    have B8 := hide (below_step B7.out hb8)
    clear hb8 B7 H7
    rw [en_mono ys hx]
    go_wp2_with fail
    refine (enough_any nodes (HA.out.below B8.out) (by omega)).mono ?_
    rintro e w9 ⟨rfl, hb9⟩
    have B9 := hide (below_step B8.out hb9)
    clear hb9 B8
    rw [hx]
    go_wp2_with fail
    refine (enough_any nodes (HB.out.below B9.out) (by omega)).mono ?_
    rintro e w10 ⟨rfl, hb10⟩
    have B10 := hide (below_step B9.out hb10)
    clear hb10 B9
    cases hy : enB nodes ys with
    | false =>
      go_wp2_with fail
      go_ret
      exact ⟨rfl, B10.out⟩
    | true =>
      have M := hide (both_at (meet hx hy))
      clear hx hy
      go_wp2_with fail
      go_loopw [8, 9] (fun iv _ wr => ∃ (i : Nat), i ≤ la ∧ iv = .int .i64 i ∧ Hid (Below w.heap.size w wr) ∧ Hid (∀ i', i' < i → ∀ k', k' < lb → ¬ (xs[i']?.getD 0 = ys[k']?.getD 0 ∧ 1 ≤ xs[i']?.getD 0 ∧ xs[i']?.getD 0 ≤ nodes))) (fun iv _ _ => la - (intOf iv).toNat)
      case atStart => exact ⟨0, Nat.zero_le _, rfl, B10, fun i' h => absurd h (by omega)⟩
      case round =>
        obtain ⟨i, hi, rfl, HW, HI⟩ := hrel
        by_cases hlt : i < la
        · go_wp2_with fail
          go_loopw [9] (fun kv wq => ∃ (k : Nat), k ≤ lb ∧ kv = .int .i64 k ∧ Hid (Below w.heap.size w wq) ∧ Hid (∀ k', k' < k → ¬ (xs[i]?.getD 0 = ys[k']?.getD 0 ∧ 1 ≤ xs[i]?.getD 0 ∧ xs[i]?.getD 0 ≤ nodes))) (fun kv _ => lb - (intOf kv).toNat)
          case atStart => exact ⟨0, Nat.zero_le _, rfl, HW, fun k' h => absurd h (by omega)⟩
          case round =>
            obtain ⟨k, hk, rfl, HQ, HK⟩ := hrel
            by_cases hkl : k < lb
            · have SA := HA.out.below HQ.out
              have SB := HB.out.below HQ.out
              obtain ⟨ba, oa, rfl, hca⟩ := SA.cells (by omega)
              obtain ⟨bb, ob, rfl, hcb⟩ := SB.cells (by omega)
              have c1 := hca i hlt
              have c2 := hcb k hkl
              clear SA SB hca hcb
              obtain ⟨x, hx⟩ : ∃ x, xs[i]?.getD 0 = x := ⟨_, rfl⟩
              obtain ⟨y, hy⟩ : ∃ y, ys[k]?.getD 0 = y := ⟨_, rfl⟩
              rw [hx] at c1
              rw [hy] at c2
              have HX := hide hx
              have HY := hide hy
              clear hx hy
              by_cases e : x = y
              · subst e
                by_cases x1 : 1 ≤ x
                · by_cases x2 : x ≤ nodes
                  · go_wp2_with fail
                    go_quiet (fail)
                    go_wp2_with fail
                    go_ret
                    exact ⟨rfl, bel_drewN HQ.out _⟩
                  · have NO := hide (show ¬ (x = x ∧ 1 ≤ x ∧ x ≤ nodes) from fun h => x2 h.2.2)
                    go_wp2_with fail
                    go_quiet (fail)
                    go_wp2_with fail
                    go_roundw
                    case rel => exact ⟨k + 1, by omega, by go_num, bel_drewN HQ.out _, next HK.out (by rw [HX.out, HY.out]; first | exact NO.out | (have := NO.out; simpa using this))⟩
                    case measure => simp [intOf]; omega
                · have d1 : decide (1 ≤ x) = false := decide_eq_false x1
                  have d2 : (1 ≤ x) = False := by simp [x1]
                  have NO := hide (show ¬ (x = x ∧ 1 ≤ x ∧ x ≤ nodes) from fun h => x1 h.2.1)
                  go_wp2_with fail
                  go_quiet (fail)
                  go_wp2_with fail
                  go_roundw
                  case rel => exact ⟨k + 1, by omega, by go_num, bel_drewN HQ.out _, next HK.out (by rw [HX.out, HY.out]; first | exact NO.out | (have := NO.out; simpa using this))⟩
                  case measure => simp [intOf]; omega
              · have d1 : decide (x = y) = false := decide_eq_false e
                have d2 : (x = y) = False := by simp [e]
                have d3 : (x == y) = false := by simp [e]
                have NO := hide (show ¬ (x = y ∧ 1 ≤ x ∧ x ≤ nodes) from fun h => e h.1)
                go_wp2_with fail
                go_quiet (fail)
                go_wp2_with fail
                go_roundw
                case rel => exact ⟨k + 1, by omega, by go_num, bel_drewN HQ.out _, next HK.out (by rw [HX.out, HY.out]; first | exact NO.out | (have := NO.out; simpa using this))⟩
                case measure => simp [intOf]; omega
            · obtain rfl : k = lb := by omega
              go_wp2_with fail
              go_roundw
              case rel => exact ⟨i + 1, by omega, by go_num, HQ, fun i' h => by
                by_cases e : i' = i
                · subst e; exact HK.out
                · exact HI.out i' (by omega)⟩
              case measure => simp [intOf]; omega
        · obtain ⟨i0, k0, h1, h2, h3⟩ := M.out
          exact absurd h3 (HI.out i0 (by have := HA.out.length; omega) k0 (by have := HB.out.length; omega))

theorem contract (H : Type) (enc : TypeId × Value → H) (W : World) (base : Nat) (args : Array Value) (ds gs : List (DataW H)) (before : List MemPlace)
    (hval0 : ∀ (j : Nat) t v, Try.f8.params[j]? = some t → args[j]? = some v → Value.okWide Try.prog W .any base t v)
    (hW : DataW.Whole enc Try.prog Try.f8.params.toList Rows.ballotMeetsSpec.vars false W args.toList ds gs before)
    (hcond : Rows.uptoSmall H (ds ++ gs) = true)
    (hsz0 : (DataW.weightsEach Try.prog (Try.f8.params.toList ++ Rows.ballotMeetsSpec.plain.varTypes Try.prog) (ds ++ gs)).all (· ≤ reachBytes) = true) :
    Calls Try.prog 8 args W fun e W' => ∃ v, e = .returned v ∧ Rows.ballotMeetsSpec.post enc Try.prog Try.f8 false true false false W args v W' := by
  have hsz : (DataW.weightsEach Try.prog (Try.f8.params.toList ++ Rows.ballotMeetsSpec.plain.varTypes Try.prog) (ds ++ gs)).all (· ≤ reachBytes) = true := hsz0
  have hval : ∀ (j : Nat) t v, Try.f8.params[j]? = some t → args[j]? = some v → Value.okWide Try.prog W .any base t v := hval0
  have hW' := hW
  obtain ⟨p, q, hA0, hV, rfl, hfz, hnd⟩ := hW
  have hA : DataW.TrodAll enc Try.prog W 0 (fun _ => true) true Try.f8.params.toList args.toList ds p := hA0
  rw [Try.params8] at hA hval hsz
  obtain ⟨v0, vs0, d0, ds0, p0, q0, hargs, rfl, rfl, h0, r0⟩ := trodAll_cons hA
  obtain ⟨v1, vs1, d1, ds1, p1, q1, rfl, rfl, rfl, h1, r1⟩ := trodAll_cons r0
  obtain ⟨v2, vs2, d2, ds2, p2, q2, rfl, rfl, rfl, h2, r2⟩ := trodAll_cons r1
  obtain ⟨rfl, rfl, rfl⟩ := trodAll_nil r2
  obtain rfl : args = #[v0, v1, v2] := by cases args; simp_all
  obtain ⟨rfl, rfl⟩ := trodVars_none hV
  have lt0 : ∀ x ∈ p0, x.block < W.heap.size := by obtain ⟨m, hm⟩ := h0; exact DataW.trod_lt m _ _ _ hm
  obtain ⟨nodes, rfl, na⟩ := open_i64 (hval 0 3 v0 rfl rfl) h0
  have lt1 : ∀ x ∈ p1, x.block < W.heap.size := by obtain ⟨m, hm⟩ := h1; exact DataW.trod_lt m _ _ _ hm
  obtain ⟨a, la, ca, xs, rfl, ⟨sa, ka⟩⟩ := I8.open_sq_bulk (hval 1 34 v1 rfl rfl) h1 (fun elems spare e => bulk_slice hcond (by rw [← e]; simp))
  have lt2 : ∀ x ∈ p2, x.block < W.heap.size := by obtain ⟨m, hm⟩ := h2; exact DataW.trod_lt m _ _ _ hm
  obtain ⟨b, lb, cb, ys, rfl, ⟨sb, kb⟩⟩ := I8.open_sq_bulk (hval 2 34 v2 rfl rfl) h2 (fun elems spare e => bulk_slice hcond (by rw [← e]; simp))
  clear hA0 hval0
  refine (walk nodes sa ka sb kb).mono fun e W' ⟨he, bel⟩ => ?_
  subst he
  exact ⟨_, rfl, _, _, _, [], _, [], hW', trodAll_mk1 (shut_bool Try.underlying4 _), (trodAll_cons_mk (Below.trod laidOut (by kernel_rfl) (of_decide_eq_true (by kernel_rfl)) h0 bel lt0) (trodAll_cons_mk (Below.trod laidOut (by kernel_rfl) (of_decide_eq_true (by kernel_rfl)) h1 bel lt1) (trodAll_cons_mk (Below.trod laidOut (by kernel_rfl) (of_decide_eq_true (by kernel_rfl)) h2 bel lt2) trodAll_mk0))), rfl, bel.frame _, fun h => by cases h⟩

set_option maxRecDepth 100000 in
theorem lifted (os : Os) (started : os.Started) (H : Type) (enc : TypeId × Value → H) (F : Stop.Interp) :
    ReturnsInHanded {} Try.checked os 8 .any ((Rows.OpenSpec.upto Rows.ballotMeetsSpec).pre6 enc Try.prog Try.f8 Rows.ballotMeetsUptoRow.domain false) (((Rows.OpenSpec.upto Rows.ballotMeetsSpec).at F).post enc Try.prog Try.f8 false true false false) := by
  refine returnsInHanded_of_cond_sized (C := Try.checked) (s := Rows.OpenSpec.upto Rows.ballotMeetsSpec) (k := Rows.uptoSmall) rfl own started (by kernel_rfl) Try.func8
    (OpenSpec.witness (enc := enc) (C := Try.checked) (s := Rows.OpenSpec.upto Rows.ballotMeetsSpec) (k := Rows.uptoSmall) rfl false ⟨#[], #[.int .i64 0, .slice none 0 0, .slice none 0 0], []⟩ 8 (by kernel_rfl) (by kernel_rfl) (by kernel_rfl)
      (x := ([.lit (.int .i64 0), .nil, .nil], [], [])) (by kernel_rfl) rfl (by kernel_rfl)) ?_
  intro W base args ds gs before hval hW _ hk hsz _
  exact contract H enc W base args ds gs before hval hW hk hsz

theorem proved : Rows.BallotMeetsUptoSaid :=
  OpenClaim.holds_of_cond 8 Try.f8 rfl rfl rfl rfl rfl rfl rfl ⟨rfl, rfl, rfl, rfl, rfl⟩ rfl rfl rfl rfl rfl (by kernel_rfl) Try.func8 (by kernel_rfl)
    (of_decide_eq_true (by kernel_rfl)) (by unfold Func.isWrapper; first | (rw [if_pos (by decide +kernel)]; kernel_rfl) | (rw [if_neg (by decide +kernel)]; exact ⟨rfl, rfl⟩))
    (fun os started H enc _ F => lifted os started H enc F)
#print axioms proved
end BallotMeets
theorem ballotMeets_upto : Rows.BallotMeetsUptoSaid := BallotMeets.proved
end Go.Proofs.Ytlcccaiahmbkpaa
