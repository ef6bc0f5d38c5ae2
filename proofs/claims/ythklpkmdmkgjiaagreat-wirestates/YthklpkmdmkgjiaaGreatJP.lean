/- The law folder's Plain of two lists of holders that hold the same answers true. No condition. The law folder's Plain of two lists of marks that hold the same answers true. No condition. The law folder's Plain of two lists of waits that hold the same answers true. No condition. The law folder's Plain of two lists of deals that hold the same answers true. No condition. The law folder's Plain of two lists of ends that hold the same answers true. No condition. -/
import Derived.Test.YthklpkmdmkgjiaaGreatJA
import Derived.Test.YthklpkmdmkgjiaaGreatFWireLsMore
import Derived.BigQuiet
namespace Go.Proofs.YthklpkmdmkgjiaaGreat
open Go.ChangeShapes Go.WideShapes Go.ChangeAt Go.RowKit B8 Cm Wm
set_option linter.unusedVariables false

set_option maxRecDepth 100000 in
set_option maxHeartbeats 2000000 in
theorem plain_holder {w : World} {P P' : Nat → Prop} {a a' : Option Addr} {n cp cp' : Nat} {xss : List (List Atom)} (h : Ls w P a n cp 4 xss) (h' : Ls w P' a' n cp' 4 xss) (hk : ∀ xs ∈ xss, xs.map Atom.k = [0, 0, 0, 0]) (hn : n ≤ 140737488355328) :
    Calls Tryz.prog 79 #[.slice a n cp, .slice a' n cp'] w fun e w' => e = .returned (.bool true) ∧ ∃ m, w' = w.drewN m := by
  have H := hide h
  have H' := hide h'
  have HK := hide hk
  have HL := hide h.length
  clear h h' hk
  go_enter Tryz.func79, Tryz.ntmps79
  go_wp2_with fail
  go_loopw [5] (fun i wr => ∃ k m : Nat, k ≤ n ∧ i = .int .i64 k ∧ Hid (wr = w.drewN m)) (fun i _ => n - (intOf i).toNat)
  case atStart => exact ⟨0, 0, Nat.zero_le _, rfl, rfl⟩
  case round =>
    obtain ⟨k, m, hk, rfl, HW⟩ := hrel
    by_cases hlt : k < n
    · have i1 : (k : Int) < (n : Int) := by omega
      have i2 : (0 : Int) ≤ (k : Int) := by omega
      obtain ⟨xs, hx⟩ : ∃ xs, xss[k]? = some xs := ⟨_, List.getElem?_eq_getElem (by rw [HL.out]; exact hlt)⟩
      have hkx := HK.out xs (List.mem_of_getElem? hx)
      obtain ⟨b, off, cs, rfl, _, _, hc, hv⟩ := H.out.row hx (by omega)
      obtain ⟨b', off', cs', rfl, _, _, hc', hv'⟩ := H'.out.row hx (by omega)
      obtain ⟨z0, p0, q0⟩ := pair_int hv hv' hkx 0 rfl
      obtain ⟨z1, p1, q1⟩ := pair_int hv hv' hkx 1 rfl
      obtain ⟨z2, p2, q2⟩ := pair_int hv hv' hkx 2 rfl
      obtain ⟨z3, p3, q3⟩ := pair_int hv hv' hkx 3 rfl
      have c0 : wr.cell? ⟨b, off + k * 4, none⟩ = some (.int .i64 z0) := by rw [HW.out]; exact hc 0 _ (by simpa using p0)
      have d0 : wr.cell? ⟨b', off' + k * 4, none⟩ = some (.int .i64 z0) := by rw [HW.out]; exact hc' 0 _ (by simpa using q0)
      have c1 : wr.cell? ⟨b, off + k * 4 + 1, none⟩ = some (.int .i64 z1) := by rw [HW.out]; exact hc 1 _ (by simpa using p1)
      have d1 : wr.cell? ⟨b', off' + k * 4 + 1, none⟩ = some (.int .i64 z1) := by rw [HW.out]; exact hc' 1 _ (by simpa using q1)
      have c2 : wr.cell? ⟨b, off + k * 4 + 2, none⟩ = some (.int .i64 z2) := by rw [HW.out]; exact hc 2 _ (by simpa using p2)
      have d2 : wr.cell? ⟨b', off' + k * 4 + 2, none⟩ = some (.int .i64 z2) := by rw [HW.out]; exact hc' 2 _ (by simpa using q2)
      have c3 : wr.cell? ⟨b, off + k * 4 + 3, none⟩ = some (.int .i64 z3) := by rw [HW.out]; exact hc 3 _ (by simpa using p3)
      have d3 : wr.cell? ⟨b', off' + k * 4 + 3, none⟩ = some (.int .i64 z3) := by rw [HW.out]; exact hc' 3 _ (by simpa using q3)
      clear hc hc' hv hv' hx hkx p0 q0 p1 q1 p2 q2 p3 q3
      go_wp2_with fail
      go_quiet (fail)
      go_wp2_with fail
      go_roundw
      case rel => exact ⟨k + 1, m + nq, by omega, by go_num, by show _ = _; rw [HW.out]; simp [World.drewN, Nat.add_assoc]⟩
      case measure => simp [intOf]; omega
    · go_wp2_with fail
      go_ret
      exact ⟨rfl, m, HW.out⟩
end Go.Proofs.YthklpkmdmkgjiaaGreat

namespace Go.Proofs.YthklpkmdmkgjiaaGreat
open Go.ChangeShapes Go.WideShapes Go.ChangeAt Go.RowKit B8 Cm Wm
set_option linter.unusedVariables false

set_option maxRecDepth 100000 in
set_option maxHeartbeats 2000000 in
theorem plain_mark {w : World} {P P' : Nat → Prop} {a a' : Option Addr} {n cp cp' : Nat} {xss : List (List Atom)} (h : Ls w P a n cp 7 xss) (h' : Ls w P' a' n cp' 7 xss) (hk : ∀ xs ∈ xss, xs.map Atom.k = [0, 0, 2, 0, 0, 0, 0]) (hn : n ≤ 140737488355328) :
    Calls Tryz.prog 23 #[.slice a n cp, .slice a' n cp'] w fun e w' => e = .returned (.bool true) ∧ ∃ m, w' = w.drewN m := by
  have H := hide h
  have H' := hide h'
  have HK := hide hk
  have HL := hide h.length
  clear h h' hk
  go_enter Tryz.func23, Tryz.ntmps23
  go_wp2_with fail
  go_loopw [5] (fun i wr => ∃ k m : Nat, k ≤ n ∧ i = .int .i64 k ∧ Hid (wr = w.drewN m)) (fun i _ => n - (intOf i).toNat)
  case atStart => exact ⟨0, 0, Nat.zero_le _, rfl, rfl⟩
  case round =>
    obtain ⟨k, m, hk, rfl, HW⟩ := hrel
    by_cases hlt : k < n
    · have i1 : (k : Int) < (n : Int) := by omega
      have i2 : (0 : Int) ≤ (k : Int) := by omega
      obtain ⟨xs, hx⟩ : ∃ xs, xss[k]? = some xs := ⟨_, List.getElem?_eq_getElem (by rw [HL.out]; exact hlt)⟩
      have hkx := HK.out xs (List.mem_of_getElem? hx)
      obtain ⟨b, off, cs, rfl, _, _, hc, hv⟩ := H.out.row hx (by omega)
      obtain ⟨b', off', cs', rfl, _, _, hc', hv'⟩ := H'.out.row hx (by omega)
      obtain ⟨z0, p0, q0⟩ := pair_int hv hv' hkx 0 rfl
      obtain ⟨z1, p1, q1⟩ := pair_int hv hv' hkx 1 rfl
      obtain ⟨z2, p2, q2⟩ := pair_bool hv hv' hkx 2 rfl
      obtain ⟨z3, p3, q3⟩ := pair_int hv hv' hkx 3 rfl
      obtain ⟨z4, p4, q4⟩ := pair_int hv hv' hkx 4 rfl
      obtain ⟨z5, p5, q5⟩ := pair_int hv hv' hkx 5 rfl
      obtain ⟨z6, p6, q6⟩ := pair_int hv hv' hkx 6 rfl
      have c0 : wr.cell? ⟨b, off + k * 7, none⟩ = some (.int .i64 z0) := by rw [HW.out]; exact hc 0 _ (by simpa using p0)
      have d0 : wr.cell? ⟨b', off' + k * 7, none⟩ = some (.int .i64 z0) := by rw [HW.out]; exact hc' 0 _ (by simpa using q0)
      have c1 : wr.cell? ⟨b, off + k * 7 + 1, none⟩ = some (.int .i64 z1) := by rw [HW.out]; exact hc 1 _ (by simpa using p1)
      have d1 : wr.cell? ⟨b', off' + k * 7 + 1, none⟩ = some (.int .i64 z1) := by rw [HW.out]; exact hc' 1 _ (by simpa using q1)
      have c2 : wr.cell? ⟨b, off + k * 7 + 2, none⟩ = some (.bool z2) := by rw [HW.out]; exact hc 2 _ (by simpa using p2)
      have d2 : wr.cell? ⟨b', off' + k * 7 + 2, none⟩ = some (.bool z2) := by rw [HW.out]; exact hc' 2 _ (by simpa using q2)
      have c3 : wr.cell? ⟨b, off + k * 7 + 3, none⟩ = some (.int .i64 z3) := by rw [HW.out]; exact hc 3 _ (by simpa using p3)
      have d3 : wr.cell? ⟨b', off' + k * 7 + 3, none⟩ = some (.int .i64 z3) := by rw [HW.out]; exact hc' 3 _ (by simpa using q3)
      have c4 : wr.cell? ⟨b, off + k * 7 + 4, none⟩ = some (.int .i64 z4) := by rw [HW.out]; exact hc 4 _ (by simpa using p4)
      have d4 : wr.cell? ⟨b', off' + k * 7 + 4, none⟩ = some (.int .i64 z4) := by rw [HW.out]; exact hc' 4 _ (by simpa using q4)
      have c5 : wr.cell? ⟨b, off + k * 7 + 5, none⟩ = some (.int .i64 z5) := by rw [HW.out]; exact hc 5 _ (by simpa using p5)
      have d5 : wr.cell? ⟨b', off' + k * 7 + 5, none⟩ = some (.int .i64 z5) := by rw [HW.out]; exact hc' 5 _ (by simpa using q5)
      have c6 : wr.cell? ⟨b, off + k * 7 + 6, none⟩ = some (.int .i64 z6) := by rw [HW.out]; exact hc 6 _ (by simpa using p6)
      have d6 : wr.cell? ⟨b', off' + k * 7 + 6, none⟩ = some (.int .i64 z6) := by rw [HW.out]; exact hc' 6 _ (by simpa using q6)
      clear hc hc' hv hv' hx hkx p0 q0 p1 q1 p2 q2 p3 q3 p4 q4 p5 q5 p6 q6
      go_wp2_with fail
      go_quiet (fail)
      go_wp2_with fail
      go_roundw
      case rel => exact ⟨k + 1, m + nq, by omega, by go_num, by show _ = _; rw [HW.out]; simp [World.drewN, Nat.add_assoc]⟩
      case measure => simp [intOf]; omega
    · go_wp2_with fail
      go_ret
      exact ⟨rfl, m, HW.out⟩
end Go.Proofs.YthklpkmdmkgjiaaGreat

namespace Go.Proofs.YthklpkmdmkgjiaaGreat
open Go.ChangeShapes Go.WideShapes Go.ChangeAt Go.RowKit B8 Cm Wm
set_option linter.unusedVariables false

set_option maxRecDepth 100000 in
set_option maxHeartbeats 2000000 in
theorem plain_wait {w : World} {P P' : Nat → Prop} {a a' : Option Addr} {n cp cp' : Nat} {xss : List (List Atom)} (h : Ls w P a n cp 11 xss) (h' : Ls w P' a' n cp' 11 xss) (hk : ∀ xs ∈ xss, xs.map Atom.k = [0, 0, 0, 0, 0, 0, 3, 3, 0, 0, 0]) (hn : n ≤ 140737488355328) :
    Calls Tryz.prog 24 #[.slice a n cp, .slice a' n cp'] w fun e w' => e = .returned (.bool true) ∧ ∃ m, w' = w.drewN m := by
  have H := hide h
  have H' := hide h'
  have HK := hide hk
  have HL := hide h.length
  clear h h' hk
  go_enter Tryz.func24, Tryz.ntmps24
  go_wp2_with fail
  go_loopw [5] (fun i wr => ∃ k m : Nat, k ≤ n ∧ i = .int .i64 k ∧ Hid (wr = w.drewN m)) (fun i _ => n - (intOf i).toNat)
  case atStart => exact ⟨0, 0, Nat.zero_le _, rfl, rfl⟩
  case round =>
    obtain ⟨k, m, hk, rfl, HW⟩ := hrel
    by_cases hlt : k < n
    · have i1 : (k : Int) < (n : Int) := by omega
      have i2 : (0 : Int) ≤ (k : Int) := by omega
      obtain ⟨xs, hx⟩ : ∃ xs, xss[k]? = some xs := ⟨_, List.getElem?_eq_getElem (by rw [HL.out]; exact hlt)⟩
      have hkx := HK.out xs (List.mem_of_getElem? hx)
      obtain ⟨b, off, cs, rfl, _, _, hc, hv⟩ := H.out.row hx (by omega)
      obtain ⟨b', off', cs', rfl, _, _, hc', hv'⟩ := H'.out.row hx (by omega)
      obtain ⟨z0, p0, q0⟩ := pair_int hv hv' hkx 0 rfl
      obtain ⟨z1, p1, q1⟩ := pair_int hv hv' hkx 1 rfl
      obtain ⟨z2, p2, q2⟩ := pair_int hv hv' hkx 2 rfl
      obtain ⟨z3, p3, q3⟩ := pair_int hv hv' hkx 3 rfl
      obtain ⟨z4, p4, q4⟩ := pair_int hv hv' hkx 4 rfl
      obtain ⟨z5, p5, q5⟩ := pair_int hv hv' hkx 5 rfl
      obtain ⟨z6, p6, q6⟩ := pair_str hv hv' hkx 6 rfl
      obtain ⟨z7, p7, q7⟩ := pair_str hv hv' hkx 7 rfl
      obtain ⟨z8, p8, q8⟩ := pair_int hv hv' hkx 8 rfl
      obtain ⟨z9, p9, q9⟩ := pair_int hv hv' hkx 9 rfl
      obtain ⟨z10, p10, q10⟩ := pair_int hv hv' hkx 10 rfl
      have c0 : wr.cell? ⟨b, off + k * 11, none⟩ = some (.int .i64 z0) := by rw [HW.out]; exact hc 0 _ (by simpa using p0)
      have d0 : wr.cell? ⟨b', off' + k * 11, none⟩ = some (.int .i64 z0) := by rw [HW.out]; exact hc' 0 _ (by simpa using q0)
      have c1 : wr.cell? ⟨b, off + k * 11 + 1, none⟩ = some (.int .i64 z1) := by rw [HW.out]; exact hc 1 _ (by simpa using p1)
      have d1 : wr.cell? ⟨b', off' + k * 11 + 1, none⟩ = some (.int .i64 z1) := by rw [HW.out]; exact hc' 1 _ (by simpa using q1)
      have c2 : wr.cell? ⟨b, off + k * 11 + 2, none⟩ = some (.int .i64 z2) := by rw [HW.out]; exact hc 2 _ (by simpa using p2)
      have d2 : wr.cell? ⟨b', off' + k * 11 + 2, none⟩ = some (.int .i64 z2) := by rw [HW.out]; exact hc' 2 _ (by simpa using q2)
      have c3 : wr.cell? ⟨b, off + k * 11 + 3, none⟩ = some (.int .i64 z3) := by rw [HW.out]; exact hc 3 _ (by simpa using p3)
      have d3 : wr.cell? ⟨b', off' + k * 11 + 3, none⟩ = some (.int .i64 z3) := by rw [HW.out]; exact hc' 3 _ (by simpa using q3)
      have c4 : wr.cell? ⟨b, off + k * 11 + 4, none⟩ = some (.int .i64 z4) := by rw [HW.out]; exact hc 4 _ (by simpa using p4)
      have d4 : wr.cell? ⟨b', off' + k * 11 + 4, none⟩ = some (.int .i64 z4) := by rw [HW.out]; exact hc' 4 _ (by simpa using q4)
      have c5 : wr.cell? ⟨b, off + k * 11 + 5, none⟩ = some (.int .i64 z5) := by rw [HW.out]; exact hc 5 _ (by simpa using p5)
      have d5 : wr.cell? ⟨b', off' + k * 11 + 5, none⟩ = some (.int .i64 z5) := by rw [HW.out]; exact hc' 5 _ (by simpa using q5)
      have c6 : wr.cell? ⟨b, off + k * 11 + 6, none⟩ = some (.string z6) := by rw [HW.out]; exact hc 6 _ (by simpa using p6)
      have d6 : wr.cell? ⟨b', off' + k * 11 + 6, none⟩ = some (.string z6) := by rw [HW.out]; exact hc' 6 _ (by simpa using q6)
      have c7 : wr.cell? ⟨b, off + k * 11 + 7, none⟩ = some (.string z7) := by rw [HW.out]; exact hc 7 _ (by simpa using p7)
      have d7 : wr.cell? ⟨b', off' + k * 11 + 7, none⟩ = some (.string z7) := by rw [HW.out]; exact hc' 7 _ (by simpa using q7)
      have c8 : wr.cell? ⟨b, off + k * 11 + 8, none⟩ = some (.int .i64 z8) := by rw [HW.out]; exact hc 8 _ (by simpa using p8)
      have d8 : wr.cell? ⟨b', off' + k * 11 + 8, none⟩ = some (.int .i64 z8) := by rw [HW.out]; exact hc' 8 _ (by simpa using q8)
      have c9 : wr.cell? ⟨b, off + k * 11 + 9, none⟩ = some (.int .i64 z9) := by rw [HW.out]; exact hc 9 _ (by simpa using p9)
      have d9 : wr.cell? ⟨b', off' + k * 11 + 9, none⟩ = some (.int .i64 z9) := by rw [HW.out]; exact hc' 9 _ (by simpa using q9)
      have c10 : wr.cell? ⟨b, off + k * 11 + 10, none⟩ = some (.int .i64 z10) := by rw [HW.out]; exact hc 10 _ (by simpa using p10)
      have d10 : wr.cell? ⟨b', off' + k * 11 + 10, none⟩ = some (.int .i64 z10) := by rw [HW.out]; exact hc' 10 _ (by simpa using q10)
      clear hc hc' hv hv' hx hkx p0 q0 p1 q1 p2 q2 p3 q3 p4 q4 p5 q5 p6 q6 p7 q7 p8 q8 p9 q9 p10 q10
      go_wp2_with fail
      go_quiet (fail)
      go_wp2_with fail
      go_roundw
      case rel => exact ⟨k + 1, m + nq, by omega, by go_num, by show _ = _; rw [HW.out]; simp [World.drewN, Nat.add_assoc]⟩
      case measure => simp [intOf]; omega
    · go_wp2_with fail
      go_ret
      exact ⟨rfl, m, HW.out⟩
end Go.Proofs.YthklpkmdmkgjiaaGreat

namespace Go.Proofs.YthklpkmdmkgjiaaGreat
open Go.ChangeShapes Go.WideShapes Go.ChangeAt Go.RowKit B8 Cm Wm
set_option linter.unusedVariables false

set_option maxRecDepth 100000 in
set_option maxHeartbeats 2000000 in
theorem plain_deal {w : World} {P P' : Nat → Prop} {a a' : Option Addr} {n cp cp' : Nat} {xss : List (List Atom)} (h : Ls w P a n cp 8 xss) (h' : Ls w P' a' n cp' 8 xss) (hk : ∀ xs ∈ xss, xs.map Atom.k = [0, 0, 3, 3, 0, 0, 0, 0]) (hn : n ≤ 140737488355328) :
    Calls Tryz.prog 25 #[.slice a n cp, .slice a' n cp'] w fun e w' => e = .returned (.bool true) ∧ ∃ m, w' = w.drewN m := by
  have H := hide h
  have H' := hide h'
  have HK := hide hk
  have HL := hide h.length
  clear h h' hk
  go_enter Tryz.func25, Tryz.ntmps25
  go_wp2_with fail
  go_loopw [5] (fun i wr => ∃ k m : Nat, k ≤ n ∧ i = .int .i64 k ∧ Hid (wr = w.drewN m)) (fun i _ => n - (intOf i).toNat)
  case atStart => exact ⟨0, 0, Nat.zero_le _, rfl, rfl⟩
  case round =>
    obtain ⟨k, m, hk, rfl, HW⟩ := hrel
    by_cases hlt : k < n
    · have i1 : (k : Int) < (n : Int) := by omega
      have i2 : (0 : Int) ≤ (k : Int) := by omega
      obtain ⟨xs, hx⟩ : ∃ xs, xss[k]? = some xs := ⟨_, List.getElem?_eq_getElem (by rw [HL.out]; exact hlt)⟩
      have hkx := HK.out xs (List.mem_of_getElem? hx)
      obtain ⟨b, off, cs, rfl, _, _, hc, hv⟩ := H.out.row hx (by omega)
      obtain ⟨b', off', cs', rfl, _, _, hc', hv'⟩ := H'.out.row hx (by omega)
      obtain ⟨z0, p0, q0⟩ := pair_int hv hv' hkx 0 rfl
      obtain ⟨z1, p1, q1⟩ := pair_int hv hv' hkx 1 rfl
      obtain ⟨z2, p2, q2⟩ := pair_str hv hv' hkx 2 rfl
      obtain ⟨z3, p3, q3⟩ := pair_str hv hv' hkx 3 rfl
      obtain ⟨z4, p4, q4⟩ := pair_int hv hv' hkx 4 rfl
      obtain ⟨z5, p5, q5⟩ := pair_int hv hv' hkx 5 rfl
      obtain ⟨z6, p6, q6⟩ := pair_int hv hv' hkx 6 rfl
      obtain ⟨z7, p7, q7⟩ := pair_int hv hv' hkx 7 rfl
      have c0 : wr.cell? ⟨b, off + k * 8, none⟩ = some (.int .i64 z0) := by rw [HW.out]; exact hc 0 _ (by simpa using p0)
      have d0 : wr.cell? ⟨b', off' + k * 8, none⟩ = some (.int .i64 z0) := by rw [HW.out]; exact hc' 0 _ (by simpa using q0)
      have c1 : wr.cell? ⟨b, off + k * 8 + 1, none⟩ = some (.int .i64 z1) := by rw [HW.out]; exact hc 1 _ (by simpa using p1)
      have d1 : wr.cell? ⟨b', off' + k * 8 + 1, none⟩ = some (.int .i64 z1) := by rw [HW.out]; exact hc' 1 _ (by simpa using q1)
      have c2 : wr.cell? ⟨b, off + k * 8 + 2, none⟩ = some (.string z2) := by rw [HW.out]; exact hc 2 _ (by simpa using p2)
      have d2 : wr.cell? ⟨b', off' + k * 8 + 2, none⟩ = some (.string z2) := by rw [HW.out]; exact hc' 2 _ (by simpa using q2)
      have c3 : wr.cell? ⟨b, off + k * 8 + 3, none⟩ = some (.string z3) := by rw [HW.out]; exact hc 3 _ (by simpa using p3)
      have d3 : wr.cell? ⟨b', off' + k * 8 + 3, none⟩ = some (.string z3) := by rw [HW.out]; exact hc' 3 _ (by simpa using q3)
      have c4 : wr.cell? ⟨b, off + k * 8 + 4, none⟩ = some (.int .i64 z4) := by rw [HW.out]; exact hc 4 _ (by simpa using p4)
      have d4 : wr.cell? ⟨b', off' + k * 8 + 4, none⟩ = some (.int .i64 z4) := by rw [HW.out]; exact hc' 4 _ (by simpa using q4)
      have c5 : wr.cell? ⟨b, off + k * 8 + 5, none⟩ = some (.int .i64 z5) := by rw [HW.out]; exact hc 5 _ (by simpa using p5)
      have d5 : wr.cell? ⟨b', off' + k * 8 + 5, none⟩ = some (.int .i64 z5) := by rw [HW.out]; exact hc' 5 _ (by simpa using q5)
      have c6 : wr.cell? ⟨b, off + k * 8 + 6, none⟩ = some (.int .i64 z6) := by rw [HW.out]; exact hc 6 _ (by simpa using p6)
      have d6 : wr.cell? ⟨b', off' + k * 8 + 6, none⟩ = some (.int .i64 z6) := by rw [HW.out]; exact hc' 6 _ (by simpa using q6)
      have c7 : wr.cell? ⟨b, off + k * 8 + 7, none⟩ = some (.int .i64 z7) := by rw [HW.out]; exact hc 7 _ (by simpa using p7)
      have d7 : wr.cell? ⟨b', off' + k * 8 + 7, none⟩ = some (.int .i64 z7) := by rw [HW.out]; exact hc' 7 _ (by simpa using q7)
      clear hc hc' hv hv' hx hkx p0 q0 p1 q1 p2 q2 p3 q3 p4 q4 p5 q5 p6 q6 p7 q7
      go_wp2_with fail
      go_quiet (fail)
      go_wp2_with fail
      go_roundw
      case rel => exact ⟨k + 1, m + nq, by omega, by go_num, by show _ = _; rw [HW.out]; simp [World.drewN, Nat.add_assoc]⟩
      case measure => simp [intOf]; omega
    · go_wp2_with fail
      go_ret
      exact ⟨rfl, m, HW.out⟩
end Go.Proofs.YthklpkmdmkgjiaaGreat

namespace Go.Proofs.YthklpkmdmkgjiaaGreat
open Go.ChangeShapes Go.WideShapes Go.ChangeAt Go.RowKit B8 Cm Wm
set_option linter.unusedVariables false

set_option maxRecDepth 100000 in
set_option maxHeartbeats 2000000 in
theorem plain_end {w : World} {P P' : Nat → Prop} {a a' : Option Addr} {n cp cp' : Nat} {xss : List (List Atom)} (h : Ls w P a n cp 2 xss) (h' : Ls w P' a' n cp' 2 xss) (hk : ∀ xs ∈ xss, xs.map Atom.k = [0, 0]) (hn : n ≤ 140737488355328) :
    Calls Tryz.prog 26 #[.slice a n cp, .slice a' n cp'] w fun e w' => e = .returned (.bool true) ∧ ∃ m, w' = w.drewN m := by
  have H := hide h
  have H' := hide h'
  have HK := hide hk
  have HL := hide h.length
  clear h h' hk
  go_enter Tryz.func26, Tryz.ntmps26
  go_wp2_with fail
  go_loopw [5] (fun i wr => ∃ k m : Nat, k ≤ n ∧ i = .int .i64 k ∧ Hid (wr = w.drewN m)) (fun i _ => n - (intOf i).toNat)
  case atStart => exact ⟨0, 0, Nat.zero_le _, rfl, rfl⟩
  case round =>
    obtain ⟨k, m, hk, rfl, HW⟩ := hrel
    by_cases hlt : k < n
    · have i1 : (k : Int) < (n : Int) := by omega
      have i2 : (0 : Int) ≤ (k : Int) := by omega
      obtain ⟨xs, hx⟩ : ∃ xs, xss[k]? = some xs := ⟨_, List.getElem?_eq_getElem (by rw [HL.out]; exact hlt)⟩
      have hkx := HK.out xs (List.mem_of_getElem? hx)
      obtain ⟨b, off, cs, rfl, _, _, hc, hv⟩ := H.out.row hx (by omega)
      obtain ⟨b', off', cs', rfl, _, _, hc', hv'⟩ := H'.out.row hx (by omega)
      obtain ⟨z0, p0, q0⟩ := pair_int hv hv' hkx 0 rfl
      obtain ⟨z1, p1, q1⟩ := pair_int hv hv' hkx 1 rfl
      have c0 : wr.cell? ⟨b, off + k * 2, none⟩ = some (.int .i64 z0) := by rw [HW.out]; exact hc 0 _ (by simpa using p0)
      have d0 : wr.cell? ⟨b', off' + k * 2, none⟩ = some (.int .i64 z0) := by rw [HW.out]; exact hc' 0 _ (by simpa using q0)
      have c1 : wr.cell? ⟨b, off + k * 2 + 1, none⟩ = some (.int .i64 z1) := by rw [HW.out]; exact hc 1 _ (by simpa using p1)
      have d1 : wr.cell? ⟨b', off' + k * 2 + 1, none⟩ = some (.int .i64 z1) := by rw [HW.out]; exact hc' 1 _ (by simpa using q1)
      clear hc hc' hv hv' hx hkx p0 q0 p1 q1
      go_wp2_with fail
      go_quiet (fail)
      go_wp2_with fail
      go_roundw
      case rel => exact ⟨k + 1, m + nq, by omega, by go_num, by show _ = _; rw [HW.out]; simp [World.drewN, Nat.add_assoc]⟩
      case measure => simp [intOf]; omega
    · go_wp2_with fail
      go_ret
      exact ⟨rfl, m, HW.out⟩
end Go.Proofs.YthklpkmdmkgjiaaGreat
