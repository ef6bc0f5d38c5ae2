/- The law folder's Plain of two lists of places that hold the same answers true. No condition. -/
import Derived.Test.YtjhcedgncdcpjaaJA
import Derived.Test.YtjhcedgncdcpjaaFWireVlRow
import Derived.BigQuiet
namespace Go.Proofs.Ytjhcedgncdcpjaa
open Go.ChangeShapes Go.WideShapes Go.ChangeAt Go.RowKit B8 Cm Wm
set_option linter.unusedVariables false

set_option maxRecDepth 100000 in
set_option maxHeartbeats 2000000 in
theorem plain_place {w : World} {P P' : Nat → Prop} {a a' : Option Addr} {n cp cp' : Nat} {xss : List (List Atom)} (h : Ls w P a n cp 3 xss) (h' : Ls w P' a' n cp' 3 xss) (hk : ∀ xs ∈ xss, xs.map Atom.k = [0, 3, 0]) (hn : n ≤ 140737488355328) :
    Calls Try.prog 21 #[.slice a n cp, .slice a' n cp'] w fun e w' => e = .returned (.bool true) ∧ ∃ m, w' = w.drewN m := by
  have H := hide h
  have H' := hide h'
  have HK := hide hk
  have HL := hide h.length
  clear h h' hk
  go_enter Try.func21, Try.ntmps21
  go_wp2_with fail
  go_loopw [5] (fun i wr => ∃ k m : Nat, k ≤ n ∧ i = .int .i64 k ∧ Hid (wr = w.drewN m)) (fun i _ => n - (intOf i).toNat)
  case atStart => exact ⟨0, 0, Nat.zero_le _, rfl, rfl⟩
  case round =>
    obtain ⟨k, m, hk, rfl, HW⟩ := hrel
    by_cases hlt : k < n
    · have i1 : (k : Int) < (n : Int) := by omega
      have i2 : (0 : Int) ≤ (k : Int) := by omega
      obtain ⟨xs, hx⟩ : ∃ xs, xss[k]? = some xs := ⟨_, List.getElem?_eq_getElem (by rw [HL.out]; exact hlt)⟩
      have hkx := HK.out xs (List.mem_of_getElem? hx)
      obtain ⟨b, off, cs, rfl, _, _, hc, hv⟩ := H.out.row hx (by omega)
      obtain ⟨b', off', cs', rfl, _, _, hc', hv'⟩ := H'.out.row hx (by omega)
      obtain ⟨z0, p0, q0⟩ := pair_int hv hv' hkx 0 rfl
      obtain ⟨z1, p1, q1⟩ := pair_str hv hv' hkx 1 rfl
      obtain ⟨z2, p2, q2⟩ := pair_int hv hv' hkx 2 rfl
      have c0 : wr.cell? ⟨b, off + k * 3, none⟩ = some (.int .i64 z0) := by rw [HW.out]; exact hc 0 _ (by simpa using p0)
      have d0 : wr.cell? ⟨b', off' + k * 3, none⟩ = some (.int .i64 z0) := by rw [HW.out]; exact hc' 0 _ (by simpa using q0)
      have c1 : wr.cell? ⟨b, off + k * 3 + 1, none⟩ = some (.string z1) := by rw [HW.out]; exact hc 1 _ (by simpa using p1)
      have d1 : wr.cell? ⟨b', off' + k * 3 + 1, none⟩ = some (.string z1) := by rw [HW.out]; exact hc' 1 _ (by simpa using q1)
      have c2 : wr.cell? ⟨b, off + k * 3 + 2, none⟩ = some (.int .i64 z2) := by rw [HW.out]; exact hc 2 _ (by simpa using p2)
      have d2 : wr.cell? ⟨b', off' + k * 3 + 2, none⟩ = some (.int .i64 z2) := by rw [HW.out]; exact hc' 2 _ (by simpa using q2)
      clear hc hc' hv hv' hx hkx p0 q0 p1 q1 p2 q2
      go_wp2_with fail
      go_quiet (fail)
      go_wp2_with fail
      go_roundw
      case rel => exact ⟨k + 1, m + nq, by omega, by go_num, by show _ = _; rw [HW.out]; simp [World.drewN, Nat.add_assoc]⟩
      case measure => simp [intOf]; omega
    · go_wp2_with fail
      go_ret
      exact ⟨rfl, m, HW.out⟩
end Go.Proofs.Ytjhcedgncdcpjaa
