/- What the document's own Quorum, Count and Enough return. No condition but that the list's bytes are within reach. -/
import Derived.Test.YtlcccaiahmbkpaaBallotCount
namespace Go.Proofs.Ytlcccaiahmbkpaa
open Go.ChangeShapes Go.WideShapes Go.ChangeAt Go.RowKit I8
set_option linter.unusedVariables false

theorem rquorum_any (n : Int) (w : World) :
    Calls Try.prog 19 #[.int .i64 n] w fun e w' => e = .returned (.int .i64 (quoV n)) ∧ w' = w := by
  by_cases h : 1 ≤ n ∧ n ≤ 5
  · have hm := hide (fun w => nodes_lit (amongB_true h) w)
    have E := hide (show quoV n = n / 2 + 1 from if_pos h)
    have h1 : 1 ≤ n := h.1
    have h2 : n ≤ 5 := h.2
    clear h
    go_enter Try.func19, Try.ntmps19
    go_wp2_with fail
    go_loopw [3] (fun kv wr => ∃ (k : Nat), Hid (2 * (k : Int) ≤ n + 2) ∧ kv = .int .i64 k ∧ Hid (wr = w)) (fun kv _ => 8 - (intOf kv).toNat)
    case atStart => exact ⟨0, by show _ ≤ _; omega, rfl, rfl⟩
    case round =>
      obtain ⟨k, hk, rfl, HW⟩ := hrel
      have k5 : (k : Int) ≤ 5 := by have := hk.out; omega
      go_wp2_with fail
      refine (hm.out _).mono ?_
      rintro e wr ⟨rfl, rfl⟩
      by_cases hlt : 2 * (k : Int) ≤ n
      · go_wp2_with fail
        go_roundw
        case rel => exact ⟨k + 1, by show _ ≤ _; omega, by go_num, HW⟩
        case measure => simp [intOf]; omega
      · have e : (k : Int) = n / 2 + 1 := by have := hk.out; omega
        have E2 := hide (e.trans E.out.symm)
        clear e
        go_wp2_with fail
        go_ret
        exact ⟨ret1 E2.out, HW.out⟩
  · have hm := hide (fun w => nodes_lit (amongB_false h) w)
    rw [show quoV n = 0 from if_neg h]
    clear h
    go_enter Try.func19, Try.ntmps19
    go_wp2_with fail
    refine wp_loop_rounds 1 ?_
    rw [rounds_succ]
    go_wp2_with fail
    refine (hm.out _).mono ?_
    rintro e w ⟨rfl, rfl⟩
    go_wp2_with fail
    go_ret
    exact ⟨rfl, rfl⟩

/-- how many of the first j nodes l names -/
def part (l : List Int) : Nat → Int
  | 0 => 0
  | j + 1 => part l j + bi (decide (((j : Int) + 1) ∈ l))
theorem part_bd (l : List Int) : ∀ j, 0 ≤ part l j ∧ part l j ≤ j
  | 0 => by simp [part]
  | j + 1 => by
    have := part_bd l j
    have := bi_bd (decide (((j : Int) + 1) ∈ l))
    simp only [part]
    omega
theorem part_cn {nodes : Int} {n : Nat} (l : List Int) (h : nodes = (n : Int)) (h1 : 1 ≤ n) (h5 : n ≤ 5) : part l n = cn nodes l := by
  subst h
  match n, h1, h5 with
  | 1, _, _ => simp [part, cn, nb, bi]
  | 2, _, _ => simp [part, cn, nb, bi]
  | 3, _, _ => simp [part, cn, nb, bi]
  | 4, _, _ => simp [part, cn, nb, bi]
  | 5, _, _ => simp [part, cn, nb, bi]
set_option maxHeartbeats 1000000 in
theorem rcount_any {w : World} {a : Option Addr} {len cap : Nat} {zs : List Int} (nodes : Int) (h : Sq w a len cap zs) (hr : len * 8 ≤ 140737488351232) :
    Calls Try.prog 21 #[.int .i64 nodes, .slice a len cap] w fun e w' => e = .returned (.int .i64 (cntV nodes zs)) ∧ w' = w := by
  by_cases hn : 1 ≤ nodes ∧ nodes ≤ 5
  · rw [show cntV nodes zs = cn nodes zs from if_pos hn]
    have HS := hide h
    have HL := hide h.length
    have hm := hide (fun w => nodes_lit (amongB_true hn) w)
    obtain ⟨n, rfl⟩ : ∃ n : Nat, nodes = (n : Int) := ⟨nodes.toNat, by omega⟩
    have E := hide (part_cn zs (nodes := n) rfl (by omega) (by omega))
    have n5 : n ≤ 5 := by omega
    clear h hn
    go_enter Try.func21, Try.ntmps21
    go_wp2_with fail
    go_loopw [5, 6, 7, 8] (fun cv nv _ _ wr => ∃ (j : Nat), j ≤ n ∧ nv = .int .i64 ((j : Int) + 1) ∧ cv = .int .i64 (part zs j) ∧ Hid (wr = w)) (fun _ nv _ _ _ => 8 - (intOf nv).toNat)
    case atStart => exact ⟨0, Nat.zero_le _, rfl, rfl, rfl⟩
    case round =>
      obtain ⟨j, hj, rfl, rfl, HW⟩ := hrel
      have pb := part_bd zs j
      go_wp2_with fail
      refine (hm.out _).mono ?_
      rintro e wr ⟨rfl, rfl⟩
      by_cases hlt : j < n
      · have l1 : (j : Int) + 1 ≤ n := by omega
        go_wp2_with fail
        go_loopw [7, 8] (fun bv iv wq => ∃ (k : Nat), k ≤ len ∧ iv = .int .i64 k ∧ bv = .bool (decide (((j : Int) + 1) ∈ zs.take k)) ∧ Hid (wq = w)) (fun _ iv _ => len - (intOf iv).toNat)
        case atStart => exact ⟨0, Nat.zero_le _, rfl, by simp, HW⟩
        case round =>
          obtain ⟨k, hk, rfl, rfl, HQ⟩ := hrel
          by_cases hkl : k < len
          · obtain ⟨b, off, rfl, hc⟩ := HS.out.cells (by omega)
            have ck := hc k hkl
            rw [← HQ.out] at ck
            have TN := hide (take_next (zs := zs) (k := k) (by rw [HL.out]; exact hkl))
            clear hc
            generalize zs[k]?.getD 0 = z at ck TN
            generalize hl : zs.take k = l at *
            cases hb : decide (((j : Int) + 1) ∈ l) with
            | true =>
              go_wp2_with fail
              go_roundw
              case rel => exact ⟨k + 1, by omega, by go_num, by rw [TN.out]; have := of_decide_eq_true hb; simp [this], HQ⟩
              case measure => simp [intOf]; omega
            | false =>
              have E2 := hide (show decide (((j : Int) + 1) ∈ l ++ [z]) = decide (z = (j : Int) + 1) by
                have := of_decide_eq_false hb
                simp [this, eq_comm])
              clear hb
              go_wp2_with fail
              go_roundw
              case rel => exact ⟨k + 1, by omega, by go_num, by rw [TN.out, E2.out]; rfl, HQ⟩
              case measure => simp [intOf]; omega
          · obtain rfl : k = len := by omega
            rw [List.take_of_length_le (by rw [HL.out]; exact Nat.le_refl _)]
            have P := hide (show part zs (j + 1) = part zs j + bi (decide (((j : Int) + 1) ∈ zs)) from rfl)
            cases hb : decide (((j : Int) + 1) ∈ zs) with
            | true =>
              rw [hb] at P
              clear hb
              go_wp2_with fail
              go_roundw
              case rel => exact ⟨j + 1, by omega, by go_num, by rw [P.out]; rfl, HQ⟩
              case measure => simp [intOf]; omega
            | false =>
              rw [hb] at P
              clear hb
              go_wp2_with fail
              go_roundw
              case rel => exact ⟨j + 1, by omega, by go_num, by rw [P.out]; simp [bi], HQ⟩
              case measure => simp [intOf]; omega
      · obtain rfl : j = n := by omega
        go_wp2_with fail
        go_ret
        exact ⟨ret1 E.out, HW.out⟩
  · rw [show cntV nodes zs = 0 from if_neg hn]
    have hm := hide (fun w => nodes_lit (amongB_false hn) w)
    clear h hn
    go_enter Try.func21, Try.ntmps21
    go_wp2_with fail
    refine wp_loop_rounds 1 ?_
    rw [rounds_succ]
    go_wp2_with fail
    refine (hm.out _).mono ?_
    rintro e w ⟨rfl, rfl⟩
    go_wp2_with fail
    go_ret
    exact ⟨rfl, rfl⟩
theorem renough_any {w : World} {a : Option Addr} {len cap : Nat} {zs : List Int} (nodes : Int) (h : Sq w a len cap zs) (hr : len * 8 ≤ 140737488351232) :
    Calls Try.prog 23 #[.int .i64 nodes, .slice a len cap] w fun e w' => e = .returned (.bool (enB nodes zs)) ∧ w' = w := by
  have C := hide (rcount_any nodes h hr)
  by_cases hn : 1 ≤ nodes ∧ nodes ≤ 5
  · have hm := hide (fun w => nodes_lit (amongB_true hn) w)
    have bd := cn_bd nodes zs
    have e0 : cntV nodes zs = cn nodes zs := if_pos hn
    have E := hide (show enB nodes zs = decide (nodes < 2 * cntV nodes zs) by
      unfold enB
      rw [show quoV nodes = nodes / 2 + 1 from if_pos hn]
      exact decide_eq_decide.2 (by omega))
    rw [E.out]
    rw [← e0] at bd
    clear h hn e0
    generalize cntV nodes zs = c at *
    go_enter Try.func23, Try.ntmps23
    go_wp2_with fail
    refine (hm.out _).mono ?_
    rintro e w ⟨rfl, rfl⟩
    go_wp2_with fail
    refine C.out.mono ?_
    rintro e w ⟨rfl, rfl⟩
    go_wp2_with fail
    go_ret
    exact ⟨rfl, rfl⟩
  · have hm := hide (fun w => nodes_lit (amongB_false hn) w)
    rw [show enB nodes zs = false from decide_eq_false fun x => hn x.1]
    clear h hn C
    go_enter Try.func23, Try.ntmps23
    go_wp2_with fail
    refine (hm.out _).mono ?_
    rintro e w ⟨rfl, rfl⟩
    go_wp2_with fail
    go_ret
    exact ⟨rfl, rfl⟩
end Go.Proofs.Ytlcccaiahmbkpaa
