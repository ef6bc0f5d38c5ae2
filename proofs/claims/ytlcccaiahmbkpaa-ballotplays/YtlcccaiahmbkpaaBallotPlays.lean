/- For every two ballots, every list of ballots and every int the law BallotPlays (P9.1, P9.2) returns true at the landed code: which ballots may be, which is below which, the greatest of some, and the next one of a node. No condition. -/
import Derived.Test.YtlcccaiahmbkpaaBallotNextC
import Derived.Test.YtlcccaiahmbkpaaBallotBestB
import Derived.Test.YtlcccaiahmbkpaaBallotRefMost
namespace Go.Proofs.Ytlcccaiahmbkpaa
namespace BallotPlays
open Go.ChangeShapes Go.WideShapes Go.ChangeAt Go.RowKit
set_option linter.unusedVariables false

def mayB (r n nodes : Int) : Bool := decide ((1 ≤ nodes ∧ nodes ≤ 5) ∧ (1 ≤ n ∧ n ≤ nodes) ∧ 1 ≤ r)
theorem may_any (r n nodes : Int) (w : World) : Calls Try.prog 12 #[.agg #[.int .i64 r, .int .i64 n], .int .i64 nodes] w fun e w' => e = .returned (.bool (mayB r n nodes)) ∧ Below w.heap.size w w' := by
  by_cases h1 : 1 ≤ nodes ∧ nodes ≤ 5
  · by_cases h2 : 1 ≤ n ∧ n ≤ nodes
    · rw [show mayB r n nodes = decide (1 ≤ r) from decide_eq_decide.2 ⟨fun h => h.2.2, fun h => ⟨h1, h2, h⟩⟩]
      have m1 := hide (fun w => among_lit (amongB_true h1) w)
      have m2 := hide (fun w => among_lit (amongB_true h2) w)
      clear h1 h2
      go_enter Try.func12, Try.ntmps12
      go_wp2_with fail
      refine (m1.out _).mono ?_
      rintro e w' ⟨rfl, rfl⟩
      go_wp2_with fail
      refine (m2.out _).mono ?_
      rintro e w' ⟨rfl, rfl⟩
      go_wp2_with fail
      go_ret
      exact ⟨rfl, by go_grown⟩
    · rw [show mayB r n nodes = false from decide_eq_false fun h => h2 h.2.1]
      have m1 := hide (fun w => among_lit (amongB_true h1) w)
      have m2 := hide (fun w => among_lit (amongB_false h2) w)
      clear h1 h2
      go_enter Try.func12, Try.ntmps12
      go_wp2_with fail
      refine (m1.out _).mono ?_
      rintro e w' ⟨rfl, rfl⟩
      go_wp2_with fail
      refine (m2.out _).mono ?_
      rintro e w' ⟨rfl, rfl⟩
      go_wp2_with fail
      go_ret
      exact ⟨rfl, by go_grown⟩
  · rw [show mayB r n nodes = false from decide_eq_false fun h => h1 h.1]
    have m1 := hide (fun w => among_lit (amongB_false h1) w)
    clear h1
    go_enter Try.func12, Try.ntmps12
    go_wp2_with fail
    refine (m1.out _).mono ?_
    rintro e w' ⟨rfl, rfl⟩
    go_wp2_with fail
    go_ret
    exact ⟨rfl, by go_grown⟩
theorem rmay_any (r n nodes : Int) (w : World) : Calls Try.prog 13 #[.agg #[.int .i64 r, .int .i64 n], .int .i64 nodes] w fun e w' => e = .returned (.bool (mayB r n nodes)) ∧ Below w.heap.size w w' := by
  by_cases h1 : 1 ≤ nodes ∧ nodes ≤ 5
  · have m1 := hide (fun w => nodes_lit (amongB_true h1) w)
    by_cases h2 : 1 ≤ n
    · by_cases h3 : n ≤ nodes
      · rw [show mayB r n nodes = decide (1 ≤ r) from decide_eq_decide.2 ⟨fun h => h.2.2, fun h => ⟨h1, ⟨h2, h3⟩, h⟩⟩]
        clear h1
        go_enter Try.func13, Try.ntmps13
        go_wp2_with fail
        refine (m1.out _).mono ?_
        rintro e w' ⟨rfl, rfl⟩
        go_wp2_with fail
        go_ret
        exact ⟨rfl, by go_grown⟩
      · rw [show mayB r n nodes = false from decide_eq_false fun h => h3 h.2.1.2]
        clear h1
        go_enter Try.func13, Try.ntmps13
        go_wp2_with fail
        refine (m1.out _).mono ?_
        rintro e w' ⟨rfl, rfl⟩
        go_wp2_with fail
        go_ret
        exact ⟨rfl, by go_grown⟩
    · rw [show mayB r n nodes = false from decide_eq_false fun h => h2 h.2.1.1]
      clear h1
      go_enter Try.func13, Try.ntmps13
      go_wp2_with fail
      refine (m1.out _).mono ?_
      rintro e w' ⟨rfl, rfl⟩
      go_wp2_with fail
      go_ret
      exact ⟨rfl, by go_grown⟩
  · rw [show mayB r n nodes = false from decide_eq_false fun h => h1 h.1]
    have m1 := hide (fun w => nodes_lit (amongB_false h1) w)
    clear h1
    go_enter Try.func13, Try.ntmps13
    go_wp2_with fail
    refine (m1.out _).mono ?_
    rintro e w' ⟨rfl, rfl⟩
    go_wp2_with fail
    go_ret
    exact ⟨rfl, by go_grown⟩
theorem most_lit {w w1 : World} {a : Option Addr} {len cap : Nat} {f : Nat → Int × Int} {x : Int × Int} (h : Rws w 2 16 a len (fun j => bc (f j))) (hx : Mx f len x) (hb : Below w.heap.size w w1) :
    Calls Try.prog 16 #[.slice a len cap] w1 fun e w' => e = .returned (.agg #[.int .i64 x.1, .int .i64 x.2]) ∧ Below w1.heap.size w1 w' :=
  (most_any (h.below hb)).mono fun e w' ⟨⟨y, he, hy⟩, hb'⟩ => by
    obtain rfl := hy.one hx
    exact ⟨he, hb'⟩
theorem rmost_lit {w w1 : World} {a : Option Addr} {len cap : Nat} {f : Nat → Int × Int} {x : Int × Int} (h : Rws w 2 16 a len (fun j => bc (f j))) (hx : Mx f len x) (hb : Below w.heap.size w w1) :
    Calls Try.prog 17 #[.slice a len cap] w1 fun e w' => e = .returned (.agg #[.int .i64 x.1, .int .i64 x.2]) ∧ Below w1.heap.size w1 w' :=
  (rmost_any (h.below hb)).mono fun e w' ⟨⟨y, he, hy⟩, hb'⟩ => by
    obtain rfl := hy.one hx
    exact ⟨he, hb'⟩
set_option maxHeartbeats 2000000 in
theorem walk {w : World} {a : Option Addr} {len cap : Nat} {f : Nat → Int × Int} (r n r' n' node : Int) (hr : -9223372036854775808 ≤ r ∧ r ≤ 9223372036854775807) (h : Rws w 2 16 a len (fun j => bc (f j))) :
    Calls Try.prog 3 #[.agg #[.int .i64 r, .int .i64 n], .agg #[.int .i64 r', .int .i64 n'], .slice a len cap, .int .i64 node] w fun e w' => e = .returned (.bool true) ∧ Below w.heap.size w w' := by
  obtain ⟨R, N, E, _, c1, c2⟩ := next_ex r node hr
  obtain ⟨x, is, hx⟩ := mx_ex f len
  have HX := hide hx.mx
  have HL := hide h
  have C1 := hide (c1 n)
  have C2 := hide (c2 n)
  have U0 := hide (allCells_append (allCells_alloc (.cells #[.int .i64 r', .int .i64 n'] 23) (allCells_new2 w (.int .i64 r) (.int .i64 n) 23)) (allCells_new2 (w.alloc (.cells #[.int .i64 r, .int .i64 n] 23)) (.int .i64 r') (.int .i64 n') 23))
  have B0 := hide (below_alloc (below_alloc (Below.refl w.heap.size w) (.cells #[.int .i64 r, .int .i64 n] 23)) (.cells #[.int .i64 r', .int .i64 n'] 23))
  have SZ : (w.alloc (.cells #[.int .i64 r, .int .i64 n] 23)).heap.size = w.heap.size + 1 := by simp
  rw [SZ] at U0
  clear hx hr h c1 c2 SZ
  go_enter Try.func3, Try.ntmps3
  go_wp2_with fail
  refine (C1.out _).mono ?_
  rintro e w1 ⟨rfl, hb1⟩
  have U1 := hide (allCells_below hb1 U0.out)
  have B1 := hide (below_step B0.out hb1)
  obtain ⟨q1, q2, q3, q4, _⟩ := U1.out
  simp only at q1 q2 q3 q4
  have z1 := World.block_lt_of_cell? _ _ q1
  simp only at z1
  clear hb1 U0 B0
  go_wp2_with fail
  refine (C2.out _).mono ?_
  rintro e w2 ⟨rfl, hb2⟩
  have U2 := hide (allCells_below hb2 (allCells_append (allCells_alloc _ U1.out) (allCells_new2 w1 (.int .i64 R) (.int .i64 N) 23)))
  have B2 := hide (below_step (below_alloc B1.out _) hb2)
  clear hb2 U1 B1 q1 q2 q3 q4 z1 C1 C2
  have U3 := hide (allCells_append (allCells_alloc (.cells #[.int .i64 R, .int .i64 N] 23) U2.out) (allCells_new2 w2 (.int .i64 R) (.int .i64 N) 23))
  have B3 := hide (below_alloc B2.out (.cells #[.int .i64 R, .int .i64 N] 23))
  clear U2 B2
  go_wp2_with fail
  refine wp_region_cells w [(⟨w.heap.size, 0, none⟩, .int .i64 r), (⟨w.heap.size, 1, none⟩, .int .i64 n), (⟨w.heap.size + 1, 0, none⟩, .int .i64 r'), (⟨w.heap.size + 1, 1, none⟩, .int .i64 n'), (⟨w1.heap.size, 0, none⟩, .int .i64 R), (⟨w1.heap.size, 1, none⟩, .int .i64 N), (⟨w2.heap.size, 0, none⟩, .int .i64 R), (⟨w2.heap.size, 1, none⟩, .int .i64 N)] (by kernel_rfl) (by kernel_rfl) B3.out U3.out ?_
  intro hne q
  simp only [AllCells, and_true] at q
  repeat (go_big_quiet_step (first
    | (go_at_call 11; exact Held.call _ (awake_any _))
    | (go_at_call 12; exact Held.call _ (may_any _ _ _ _))
    | (go_at_call 13; exact Held.call _ (rmay_any _ _ _ _))
    | (go_at_call 14; exact Held.call _ (less_lit rfl _))
    | (go_at_call 15; exact Held.call _ (rless_lit rfl _))
    | (go_at_call 16; exact Held.call _ (most_lit HL.out HX.out (Held.below _)))
    | (go_at_call 17; exact Held.call _ (rmost_lit HL.out HX.out (Held.below _)))))
  refine wpQuiet_nil ?_
  rintro _ ⟨y, rfl⟩
  go_wp2_with fail
  go_ret
  exact ⟨rfl, y.below⟩

set_option maxRecDepth 100000 in
theorem lifted (os : Os) (started : os.Started) (H : Type) (enc : TypeId × Value → H) :
    ReturnsInHanded {} Try.checked os 3 .any (Rows.ballotPlaysSpec.pre6 enc Try.prog Try.f3 Rows.ballotPlaysRow.domain false) (Rows.ballotPlaysSpec.post enc Try.prog Try.f3 false true false false) := by
  refine returnsInHanded_of_change_sized (C := Try.checked) own started (by kernel_rfl) Try.func3
    (ChangeSpec.witness6 (enc := enc) (C := Try.checked) false ⟨#[], #[.agg #[.int .i64 0, .int .i64 0], .agg #[.int .i64 0, .int .i64 0], .slice none 0 0, .int .i64 0], []⟩ 8 (by kernel_rfl) (by kernel_rfl) (by kernel_rfl) (by kernel_rfl)) ?_
  intro W base args ds gs before hval0 hW hcnd hsz0 _
  have hsz : (DataW.weightsEach Try.prog (Try.f3.params.toList ++ Rows.ballotPlaysSpec.plain.varTypes Try.prog) (ds ++ gs)).all (· ≤ reachBytes) = true := hsz0
  have hval : ∀ (j : Nat) t v, Try.f3.params[j]? = some t → args[j]? = some v → Value.okWide Try.prog W .any base t v := hval0
  have hW' := hW
  obtain ⟨p, q, hA0, hV, rfl, hfz, hnd⟩ := hW
  have hA : DataW.TrodAll enc Try.prog W 0 (fun _ => true) true Try.f3.params.toList args.toList ds p := hA0
  rw [Try.params3] at hA hval hsz
  obtain ⟨v0, vs0, d0, ds0, p0, q0, hargs, rfl, rfl, h0, r0⟩ := trodAll_cons hA
  obtain ⟨v1, vs1, d1, ds1, p1, q1, rfl, rfl, rfl, h1, r1⟩ := trodAll_cons r0
  obtain ⟨v2, vs2, d2, ds2, p2, q2, rfl, rfl, rfl, h2, r2⟩ := trodAll_cons r1
  obtain ⟨v3, vs3, d3, ds3, p3, q3, rfl, rfl, rfl, h3, r3⟩ := trodAll_cons r2
  obtain ⟨rfl, rfl, rfl⟩ := trodAll_nil r3
  obtain rfl : args = #[v0, v1, v2, v3] := by cases args; simp_all
  obtain ⟨rfl, rfl⟩ := trodVars_none hV
  have lt0 : ∀ x ∈ p0, x.block < W.heap.size := by obtain ⟨m, hm⟩ := h0; exact DataW.trod_lt m _ _ _ hm
  obtain ⟨r, n, rfl, kr⟩ := open_ballot (hval 0 23 v0 rfl rfl) h0
  have lt1 : ∀ x ∈ p1, x.block < W.heap.size := by obtain ⟨m, hm⟩ := h1; exact DataW.trod_lt m _ _ _ hm
  obtain ⟨r', n', rfl, kr'⟩ := open_ballot (hval 1 23 v1 rfl rfl) h1
  have lt2 : ∀ x ∈ p2, x.block < W.heap.size := by obtain ⟨m, hm⟩ := h2; exact DataW.trod_lt m _ _ _ hm
  obtain ⟨a, len, cap, f, rfl, kl⟩ := open_bals_held (hval 2 24 v2 rfl rfl) h2 (fun n hn => by have h := List.all_eq_true.1 hsz n (DataW.weights_mem_each (j := 2) rfl rfl n hn); simpa using h)
  have lt3 : ∀ x ∈ p3, x.block < W.heap.size := by obtain ⟨m, hm⟩ := h3; exact DataW.trod_lt m _ _ _ hm
  obtain ⟨node, rfl, kn⟩ := open_i64 (hval 3 3 v3 rfl rfl) h3
  clear hA0 hval0
  refine (walk r n r' n' node kr.1 kl).mono fun e W' ⟨he, bel⟩ => ?_
  subst he
  exact ⟨_, rfl, _, _, _, [], _, [], hW', trodAll_mk1 (shut_bool Try.underlying4 _), (trodAll_cons_mk (Below.trod laidOut (by kernel_rfl) (of_decide_eq_true (by kernel_rfl)) h0 bel lt0) (trodAll_cons_mk (Below.trod laidOut (by kernel_rfl) (of_decide_eq_true (by kernel_rfl)) h1 bel lt1) (trodAll_cons_mk (Below.trod laidOut (by kernel_rfl) (of_decide_eq_true (by kernel_rfl)) h2 bel lt2) (trodAll_cons_mk (Below.trod laidOut (by kernel_rfl) (of_decide_eq_true (by kernel_rfl)) h3 bel lt3) trodAll_mk0)))), rfl, bel.frame _, fun h => by cases h⟩

theorem over : Rows.ballotPlaysRow.holds Try.pinned (OpenSpec.ofChange Rows.ballotPlaysSpec) :=
  OpenClaim.holds_of_wide 3 Try.f3 rfl rfl rfl rfl rfl rfl rfl ⟨rfl, rfl, rfl, rfl, rfl⟩ rfl rfl rfl rfl rfl (by kernel_rfl) Try.func3 (by kernel_rfl)
    (of_decide_eq_true (by kernel_rfl)) (by unfold Func.isWrapper; first | (rw [if_pos (by decide +kernel)]; kernel_rfl) | (rw [if_neg (by decide +kernel)]; exact ⟨rfl, rfl⟩))
    (fun os started H enc _ => lifted os started H enc)

theorem proved : Rows.BallotPlaysSaid := over
#print axioms proved
end BallotPlays
theorem ballotPlays_holds : Rows.BallotPlaysSaid := BallotPlays.proved
end Go.Proofs.Ytlcccaiahmbkpaa
