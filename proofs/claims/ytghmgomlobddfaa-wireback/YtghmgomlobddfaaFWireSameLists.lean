/- The law folder's Same of two lists of votes, and of entries, that hold the same answers true. No condition. -/
import Derived.Test.YtghmgomlobddfaaFWireSameVote
import Derived.Test.YtghmgomlobddfaaFWireSameEntry
import Derived.Test.YtghmgomlobddfaaFWireLsMore
import Derived.Test.YtghmgomlobddfaaJA
import Derived.Deep.RegionHeld3
namespace Go.Proofs.Ytghmgomlobddfaa
open Go.ChangeShapes Go.WideShapes Go.ChangeAt Go.RowKit B8 Cm Wm
set_option linter.unusedVariables false

theorem call_Vote (args : Array Value) (w : World) : (callFunc 21 args).run Try.prog w = .ok (.enter 21 args) w := by kernel_rfl
theorem call_Entry (args : Array Value) (w : World) : (callFunc 22 args).run Try.prog w = .ok (.enter 22 args) w := by kernel_rfl
/-- the cells of a row stay -/
theorem row_stays {w u : World} {b off d : Nat} {cs : List Value} {i : Nat} (hb : Below w.heap.size w u) (hlt : b < w.heap.size) (hc : ∀ j v, cs[j]? = some v → w.cell? ⟨b, off + i * d + j, none⟩ = some v) : ∀ j v, cs[j]? = some v → u.cell? ⟨b, off + i * d + j, none⟩ = some v := fun j v hv => (hb.cell (p := ⟨b, off + i * d + j, none⟩) hlt).trans (hc j v hv)

set_option maxRecDepth 100000 in
set_option maxHeartbeats 4000000 in
theorem same_votes {w : World} {P P' : Nat → Prop} {a a' : Option Addr} {n cp cp' : Nat} {xss : List (List Atom)} (h : Ls w P a n cp 4 xss) (h' : Ls w P' a' n cp' 4 xss) (hP : ∀ b, P b → b < w.heap.size) (hP' : ∀ b, P' b → b < w.heap.size) (hk : ∀ xs ∈ xss, xs.map Atom.k = [0, 0, 0, 4]) (hn : n ≤ 140737488355328) :
    Calls Try.prog 40 #[.slice a n cp, .slice a' n cp', .func (.func 21) #[] #[]] w fun e w' => e = .returned (.bool true) ∧ Below w.heap.size w w' := by
  have H := hide h
  have H' := hide h'
  have HP := hide hP
  have HP' := hide hP'
  have HK := hide hk
  have HL := hide h.length
  have cc := call_Vote
  clear h h' hk hP hP'
  go_enter Try.func40, Try.ntmps40
  go_wp2_with fail
  go_loopw [7] (fun i wr => ∃ k : Nat, k ≤ n ∧ i = .int .i64 k ∧ Hid (Below w.heap.size w wr)) (fun i _ => n - (intOf i).toNat)
  case atStart => exact ⟨0, Nat.zero_le _, rfl, Below.refl _ _⟩
  case round =>
    obtain ⟨k, hk, rfl, HW⟩ := hrel
    by_cases hlt : k < n
    · have i1 : (k : Int) < (n : Int) := by omega
      have i2 : (0 : Int) ≤ (k : Int) := by omega
      obtain ⟨xs, hx⟩ : ∃ xs, xss[k]? = some xs := ⟨_, List.getElem?_eq_getElem (by rw [HL.out]; exact hlt)⟩
      have hkx := HK.out xs (List.mem_of_getElem? hx)
      obtain ⟨b, off, cs, rfl, hp, hcl, hc, hv⟩ := H.out.row hx (by omega)
      obtain ⟨b', off', cs', rfl, hp', hcl', hc', hv'⟩ := H'.out.row hx (by omega)
      have lb := HP.out b hp
      have lb' := HP'.out b' hp'
      obtain ⟨v0, v1, v2, v3, rfl⟩ : ∃ v0 v1 v2 v3, cs = [v0, v1, v2, v3] := by
        match cs, hcl with
        | [v0, v1, v2, v3], _ => exact ⟨_, _, _, _, rfl⟩
      obtain ⟨u0, u1, u2, u3, rfl⟩ : ∃ v0 v1 v2 v3, cs' = [v0, v1, v2, v3] := by
        match cs', hcl' with
        | [v0, v1, v2, v3], _ => exact ⟨_, _, _, _, rfl⟩
      have S : Hid (∀ u : World, Below w.heap.size w u → Calls Try.prog 21 #[.agg #[v0, v1, v2, v3], .agg #[u0, u1, u2, u3]] u fun e u' => e = .returned (.bool true) ∧ Below u.heap.size u u') := fun u hb =>
        same_vote (P := fun b => b < w.heap.size) (P' := fun b => b < w.heap.size) (hv.same fun b h => ⟨HP.out b h, hb.block b (HP.out b h)⟩) (hv'.same fun b h => ⟨HP'.out b h, hb.block b (HP'.out b h)⟩) hkx
      have K : ∀ u : World, Below w.heap.size w u → (u.cell? ⟨b, off + k * 4, none⟩ = some v0 ∧ u.cell? ⟨b, off + k * 4 + 1, none⟩ = some v1 ∧ u.cell? ⟨b, off + k * 4 + 2, none⟩ = some v2 ∧ u.cell? ⟨b, off + k * 4 + 3, none⟩ = some v3) ∧ (u.cell? ⟨b', off' + k * 4, none⟩ = some u0 ∧ u.cell? ⟨b', off' + k * 4 + 1, none⟩ = some u1 ∧ u.cell? ⟨b', off' + k * 4 + 2, none⟩ = some u2 ∧ u.cell? ⟨b', off' + k * 4 + 3, none⟩ = some u3) := fun u hb =>
        ⟨⟨row_stays hb lb hc 0 v0 rfl, row_stays hb lb hc 1 v1 rfl, row_stays hb lb hc 2 v2 rfl, row_stays hb lb hc 3 v3 rfl⟩, ⟨row_stays hb lb' hc' 0 u0 rfl, row_stays hb lb' hc' 1 u1 rfl, row_stays hb lb' hc' 2 u2 rfl, row_stays hb lb' hc' 3 u3 rfl⟩⟩
      have KK := hide K
      obtain ⟨⟨c0, c1, c2, c3⟩, d0, d1, d2, d3⟩ := K wr HW.out
      clear hc hc' hv hv' hx hkx hp hp' K lb lb' hcl hcl'
      go_wp2_with fail
      refine wp_region_cells w [(⟨b, off + k * 4, none⟩, v0), (⟨b, off + k * 4 + 1, none⟩, v1), (⟨b, off + k * 4 + 2, none⟩, v2), (⟨b, off + k * 4 + 3, none⟩, v3), (⟨b', off' + k * 4, none⟩, u0), (⟨b', off' + k * 4 + 1, none⟩, u1), (⟨b', off' + k * 4 + 2, none⟩, u2), (⟨b', off' + k * 4 + 3, none⟩, u3)] (by kernel_rfl) (by kernel_rfl) HW.out (by simp [AllCells, c0, c1, c2, c3, d0, d1, d2, d3]) ?_
      intro hne q
      simp only [AllCells, and_true] at q
      clear c0 c1 c2 c3 d0 d1 d2 d3
      repeat (go_big_quiet_step (first | (go_at_call 21; exact Held.call _ (S.out _ (Held.below _)))))
      refine wpQuiet_nil ?_
      rintro _ ⟨y, rfl⟩
      have BQ : Hid (Below w.heap.size w y.x) := y.below
      clear q hne
      go_wp2_with fail
      go_roundw
      case rel => exact ⟨k + 1, by omega, by go_num, BQ⟩
      case measure => simp [intOf]; omega
    · go_wp2_with fail
      go_ret
      exact ⟨rfl, HW.out⟩

set_option maxRecDepth 100000 in
set_option maxHeartbeats 4000000 in
theorem same_entries {w : World} {P P' : Nat → Prop} {a a' : Option Addr} {n cp cp' : Nat} {xss : List (List Atom)} (h : Ls w P a n cp 2 xss) (h' : Ls w P' a' n cp' 2 xss) (hP : ∀ b, P b → b < w.heap.size) (hP' : ∀ b, P' b → b < w.heap.size) (hk : ∀ xs ∈ xss, xs.map Atom.k = [0, 4]) (hn : n ≤ 140737488355328) :
    Calls Try.prog 41 #[.slice a n cp, .slice a' n cp', .func (.func 22) #[] #[]] w fun e w' => e = .returned (.bool true) ∧ Below w.heap.size w w' := by
  have H := hide h
  have H' := hide h'
  have HP := hide hP
  have HP' := hide hP'
  have HK := hide hk
  have HL := hide h.length
  have cc := call_Entry
  clear h h' hk hP hP'
  go_enter Try.func41, Try.ntmps41
  go_wp2_with fail
  go_loopw [7] (fun i wr => ∃ k : Nat, k ≤ n ∧ i = .int .i64 k ∧ Hid (Below w.heap.size w wr)) (fun i _ => n - (intOf i).toNat)
  case atStart => exact ⟨0, Nat.zero_le _, rfl, Below.refl _ _⟩
  case round =>
    obtain ⟨k, hk, rfl, HW⟩ := hrel
    by_cases hlt : k < n
    · have i1 : (k : Int) < (n : Int) := by omega
      have i2 : (0 : Int) ≤ (k : Int) := by omega
      obtain ⟨xs, hx⟩ : ∃ xs, xss[k]? = some xs := ⟨_, List.getElem?_eq_getElem (by rw [HL.out]; exact hlt)⟩
      have hkx := HK.out xs (List.mem_of_getElem? hx)
      obtain ⟨b, off, cs, rfl, hp, hcl, hc, hv⟩ := H.out.row hx (by omega)
      obtain ⟨b', off', cs', rfl, hp', hcl', hc', hv'⟩ := H'.out.row hx (by omega)
      have lb := HP.out b hp
      have lb' := HP'.out b' hp'
      obtain ⟨v0, v1, rfl⟩ : ∃ v0 v1, cs = [v0, v1] := by
        match cs, hcl with
        | [v0, v1], _ => exact ⟨_, _, rfl⟩
      obtain ⟨u0, u1, rfl⟩ : ∃ v0 v1, cs' = [v0, v1] := by
        match cs', hcl' with
        | [v0, v1], _ => exact ⟨_, _, rfl⟩
      have S : Hid (∀ u : World, Below w.heap.size w u → Calls Try.prog 22 #[.agg #[v0, v1], .agg #[u0, u1]] u fun e u' => e = .returned (.bool true) ∧ Below u.heap.size u u') := fun u hb =>
        same_entry (P := fun b => b < w.heap.size) (P' := fun b => b < w.heap.size) (hv.same fun b h => ⟨HP.out b h, hb.block b (HP.out b h)⟩) (hv'.same fun b h => ⟨HP'.out b h, hb.block b (HP'.out b h)⟩) hkx
      have K : ∀ u : World, Below w.heap.size w u → (u.cell? ⟨b, off + k * 2, none⟩ = some v0 ∧ u.cell? ⟨b, off + k * 2 + 1, none⟩ = some v1) ∧ (u.cell? ⟨b', off' + k * 2, none⟩ = some u0 ∧ u.cell? ⟨b', off' + k * 2 + 1, none⟩ = some u1) := fun u hb =>
        ⟨⟨row_stays hb lb hc 0 v0 rfl, row_stays hb lb hc 1 v1 rfl⟩, ⟨row_stays hb lb' hc' 0 u0 rfl, row_stays hb lb' hc' 1 u1 rfl⟩⟩
      have KK := hide K
      obtain ⟨⟨c0, c1⟩, d0, d1⟩ := K wr HW.out
      clear hc hc' hv hv' hx hkx hp hp' K lb lb' hcl hcl'
      go_wp2_with fail
      go_region_held3 (fun u => (u.cell? ⟨b, off + k * 2, none⟩ = some v0 ∧ u.cell? ⟨b, off + k * 2 + 1, none⟩ = some v1) ∧ (u.cell? ⟨b', off' + k * 2, none⟩ = some u0 ∧ u.cell? ⟨b', off' + k * 2 + 1, none⟩ = some u1)) (first | go_keep | exact KK.out _ hbq) ((refine (S.out wr.drew ⟨HW.out.os, HW.out.tape, HW.out.output, HW.out.size, HW.out.block⟩).mono ?_; rintro e wq ⟨rfl, hq⟩; have hbq : Below w.heap.size w wq := below_step (W := wr) HW.out ⟨hq.os, hq.tape, hq.output, hq.size, hq.block⟩))
      all_goals (
        have BQ := hide hbq
        clear hbq hq
        go_wp2_with fail
        go_roundw
        case rel => exact ⟨k + 1, by omega, by go_num, BQ⟩
        case measure => simp [intOf]; omega)
    · go_wp2_with fail
      go_ret
      exact ⟨rfl, HW.out⟩
end Go.Proofs.Ytghmgomlobddfaa
