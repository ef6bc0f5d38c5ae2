/- The document's Of, Find and Epoch. Condition: the list can be read. -/
import Derived.Test.YthfjndlmihepbaaRgRight
namespace Go.Proofs.Ythfjndlmihepbaa
open Go.ChangeShapes Go.WideShapes Go.ChangeAt Go.RowKit Rg
set_option linter.unusedVariables false

set_option maxRecDepth 100000 in
set_option maxHeartbeats 1000000 in
theorem rof_any {w : World} {a : Option Addr} {n c : Nat} {l : List Pc} (h : Ps w a n l) (g : Int) :
    Calls Try.prog 20 #[.slice a n c, .int .i64 g] w fun e w' => e = .returned (.tuple #[.int .i64 (ofN l g), .bool (ofB l g)]) ∧ Below w.heap.size w w' := by
  have H := hide h
  have HL := hide h.len
  have hr := h.room
  clear h
  go_enter Try.func20, Try.ntmps20
  go_wp2_with fail
  go_loopw [6] (fun iv wr => ∃ k : Nat, k ≤ n ∧ iv = .int .i64 k ∧ Hid (Below w.heap.size w wr) ∧ Hid (∀ j, j < k → grpAt l g j = false)) (fun iv _ => n - (intOf iv).toNat)
  case atStart => exact ⟨0, Nat.zero_le _, rfl, Below.refl _ _, fun j h => by omega⟩
  case round =>
    obtain ⟨k, hk, rfl, HB, HN⟩ := hrel
    by_cases hlt : k < n
    · obtain ⟨b, off, x, rfl, hx, hb, M⟩ := ps_at (H.out.below HB.out) hlt
      obtain ⟨c0, c1, c2⟩ := M
      have HX := hide (grpAt_at (g := g) hx)
      have i1 : (k : Int) < (n : Int) := by omega
      clear hx hb c1 c2
      by_cases hg : x.g = g
      · have HG := hide hg
        rw [hg] at c0
        clear hg
        go_wp2_with fail
        go_returns
        refine ⟨?_, HB.out⟩
        unfold ofN ofB ofO
        rw [first_at (by rw [HL.out]; omega) (by rw [HX.out, decide_eq_true HG.out]) HN.out]
        rfl
      · have HG := hide hg
        go_wp2_with fail
        go_roundw
        case rel =>
          refine ⟨k + 1, by omega, by go_num, HB, fun i hi => ?_⟩
          by_cases e : i = k
          · rw [e, HX.out, decide_eq_false HG.out]
          · exact HN.out i (by omega)
        case measure => simp [intOf]; omega
    · obtain rfl : k = n := by omega
      go_wp2_with fail
      go_returns
      refine ⟨?_, HB.out⟩
      unfold ofN ofB ofO
      rw [first_none (by rw [HL.out]; exact HN.out)]
      rfl
set_option maxRecDepth 100000 in
set_option maxHeartbeats 1000000 in
theorem rfind_any {w : World} {a : Option Addr} {n c : Nat} {l : List Pc} (h : Ps w a n l) (key : ByteArray) :
    Calls Try.prog 21 #[.slice a n c, .string key] w fun e w' => e = .returned (.int .i64 (findV l key : Nat)) ∧ Below w.heap.size w w' := by
  have H := hide h
  have HL := hide h.len
  have hr := h.room
  have CE : ∀ (W : World) (k : Nat), k < n → Below w.heap.size w W → Hid (Calls Try.prog 22 #[.slice a n c, .int .i64 k] W fun e w' => e = .returned (.string (endN l k)) ∧ Below W.heap.size W w') := fun W k hk hb =>
    (rend_any (c := c) (H.out.below hb) k (by unfold I64; omega)).mono fun e w' h => ⟨by rw [h.1]; unfold endV; rw [if_neg (by omega)]; rfl, by rw [h.2]; exact Below.refl _ _⟩
  have CW : ∀ (W : World) (lo hi : ByteArray), Hid (Calls Try.prog 14 #[.string lo, .string hi, .string key] W fun e w' => e = .returned (.bool (withinB lo hi key)) ∧ Below W.heap.size W w') := fun W lo hi =>
    (rwithin_any lo hi key W).mono fun e w' h => ⟨h.1, by rw [h.2]; exact Below.refl _ _⟩
  clear h
  go_enter Try.func21, Try.ntmps21
  go_wp2_with fail
  go_loopw [5] (fun iv wr => ∃ k : Nat, k ≤ n ∧ iv = .int .i64 k ∧ Hid (Below w.heap.size w wr) ∧ Hid (∀ j, j < k → hasB l key j = false)) (fun iv _ => n - (intOf iv).toNat)
  case atStart => exact ⟨0, Nat.zero_le _, rfl, Below.refl _ _, fun j h => by omega⟩
  case round =>
    obtain ⟨k, hk, rfl, HB, HN⟩ := hrel
    by_cases hlt : k < n
    · obtain ⟨b, off, x, rfl, hx, hb, M⟩ := ps_at (H.out.below HB.out) hlt
      obtain ⟨c0, c1, c2⟩ := M
      have HX := hide (hasB_at (key := key) hx)
      have i1 : (k : Int) < (n : Int) := by omega
      have CK := fun W => CE W k hlt
      have CX := fun W => CW W x.k (endN l k)
      generalize withinB x.k (endN l k) key = z at HX CX
      clear hx hb c0 c2 CE CW
      go_wp2_with fail
      refine wp_region_cells w [(⟨b, off + k * 3 + 1, none⟩, .string x.k)] (by kernel_rfl) (by kernel_rfl) HB.out (by simp [AllCells, c1]) ?_
      intro hne qq
      simp only [AllCells, and_true] at qq
      clear c1
      repeat (go_big_quiet_step (first | (go_at_call 22; exact Held.call _ (CK _ (Held.below _)).out) | (go_at_call 14; exact Held.call _ (CX _).out)))
      refine wpQuiet_nil ?_
      rintro _ ⟨y9, rfl⟩
      have BQ : Hid (Below w.heap.size w y9.x) := y9.below
      clear qq hne CK CX
      cases z
      · go_wp2_with fail
        go_roundw
        case rel =>
          refine ⟨k + 1, by omega, by go_num, BQ, fun i hi => ?_⟩
          by_cases e : i = k
          · rw [e, HX.out]
          · exact HN.out i (by omega)
        case measure => simp [intOf]; omega
      · go_wp2_with fail
        go_returns
        refine ⟨?_, BQ.out⟩
        unfold findV
        rw [first_at (by rw [HL.out]; omega) HX.out HN.out]
        rfl
    · obtain rfl : k = n := by omega
      go_wp2_with fail
      go_returns
      refine ⟨?_, HB.out⟩
      unfold findV
      rw [first_none (by rw [HL.out]; exact HN.out)]
      rfl
set_option maxRecDepth 100000 in
set_option maxHeartbeats 1000000 in
theorem repoch_any {w : World} {a : Option Addr} {n c : Nat} {l : List Pc} (h : Ps w a n l) :
    Calls Try.prog 24 #[.slice a n c] w fun e w' => e = .returned (.int .i64 (epochV l)) ∧ Below w.heap.size w w' := by
  have H := hide h
  have HL := hide h.len
  have hr := h.room
  clear h
  go_enter Try.func24, Try.ntmps24
  go_wp2_with fail
  go_loopw [3, 4] (fun mv iv wr => ∃ (k : Nat) (m : Int), k ≤ n ∧ iv = .int .i64 k ∧ mv = .int .i64 m ∧ Hid (Below w.heap.size w wr) ∧ Hid (m = epochV (l.take k))) (fun _ iv _ => n - (intOf iv).toNat)
  case atStart => exact ⟨0, 0, Nat.zero_le _, rfl, rfl, Below.refl _ _, rfl⟩
  case round =>
    obtain ⟨k, m, hk, rfl, rfl, HB, HM⟩ := hrel
    by_cases hlt : k < n
    · obtain ⟨b, off, x, rfl, hx, hb, M⟩ := ps_at (H.out.below HB.out) hlt
      obtain ⟨c0, c1, c2⟩ := M
      have HX := hide (epoch_take hx)
      have i1 : (k : Int) < (n : Int) := by omega
      clear hx hb c0 c1
      go_wp2_with fail
      go_roundw
      case rel => exact ⟨k + 1, max m x.ep, by omega, by go_num, rfl, HB, by show _ = _; rw [HX.out, ← HM.out]; unfold maxI; split <;> omega⟩
      case measure => simp [intOf]; omega
    · obtain rfl : k = n := by omega
      go_wp2_with fail
      go_returns
      refine ⟨?_, HB.out⟩
      rw [show epochV l = m by rw [HM.out, List.take_of_length_le (by rw [HL.out]; omega)]]
      rfl
end Go.Proofs.Ythfjndlmihepbaa
