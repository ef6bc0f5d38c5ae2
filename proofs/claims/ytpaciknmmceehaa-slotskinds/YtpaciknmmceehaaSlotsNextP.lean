/- A log whose blocks lie from a number on; what a call leaves of it. No condition. -/
import Derived.Test.YtpaciknmmceehaaSlotsCutP
namespace Go.Proofs.Ytpaciknmmceehaa.Lp
open Go.ChangeShapes Go.WideShapes Go.ChangeAt Go.RowKit Sx
set_option linter.unusedVariables false

def LgN (w : World) (N0 P : Nat) (s : Ss Al) : Prop := ∃ L, Lg w P L s ∧ ∀ k, L.M P k → N0 ≤ k
section
variable {w w' : World} {N0 P : Nat} {L : Lay} {s : Ss Al}
theorem LgN.below (h : LgN w N0 P s) (hb : Below w.heap.size w w') : LgN w' N0 P s := by
  obtain ⟨L, h, h2⟩ := h
  exact ⟨L, h.below hb, h2⟩
theorem LgN.drewN (h : LgN w N0 P s) (q : Nat) : LgN (w.drewN q) N0 P s := by
  obtain ⟨L, h, h2⟩ := h
  exact ⟨L, h.drewN q, h2⟩
theorem lmv_next (hl : ∀ k, L.M P k → N0 ≤ k) (hN : N0 ≤ w.heap.size) (h : LMv w P L s w') : LgN w' N0 P s ∧ Below N0 w w' := by
  obtain ⟨hc, L', h1, h3⟩ := h
  exact ⟨⟨L', h1, fun k hk => by rcases h3 k hk with h | h; exact hl k h; omega⟩, hc.below hN (fun k hk => hl k hk)⟩
theorem new_next (w : World) (f m : Int) : Calls Try.prog 4 #[.int .i64 f, .int .i64 m] w fun e w' => e = .returned (.pointer (some ⟨w.heap.size, 0, none⟩)) ∧ Below w.heap.size w w' ∧ LgN w' w.heap.size w.heap.size (newS Al f m) :=
  (new_any w f m).mono fun e w' ⟨h1, h2, h3⟩ => ⟨h1, h2, _, h3, fun k hk => by
    rcases hk with rfl | hk
    · exact Nat.le_refl _
    · simp [Lay.v, Value.ownBlock] at hk⟩
theorem put_next (h : LgN w N0 P s) (hN : N0 ≤ w.heap.size) (i : Int) (hi : i ≤ 9223372036854775807) (x : Al) : Calls Try.prog 9 #[.pointer (some ⟨P, 0, none⟩), .int .i64 i, va x] w fun e w' => e = .returned (.int .i64 (putE s i)) ∧ LgN w' N0 P (putS s i x) ∧ Below N0 w w' := by
  obtain ⟨L, h, h2⟩ := h
  exact (put_any h i hi x).mono fun e w' ⟨h1, h3⟩ => ⟨h1, lmv_next h2 hN h3⟩
theorem cut_next (h : LgN w N0 P s) (hN : N0 ≤ w.heap.size) (i : Int) : Calls Try.prog 7 #[.pointer (some ⟨P, 0, none⟩), .int .i64 i] w fun e w' => e = .returned (.int .i64 (cutN s i)) ∧ LgN w' N0 P (cutS s i) ∧ Below N0 w w' := by
  obtain ⟨L, h, h2⟩ := h
  exact (cut_any h i).mono fun e w' ⟨h1, h3⟩ => ⟨h1, lmv_next h2 hN h3⟩
theorem first_next (h : LgN w N0 P s) : Calls Try.prog 13 #[.pointer (some ⟨P, 0, none⟩)] w fun e w' => e = .returned (.int .i64 s.first) ∧ w' = w := by
  obtain ⟨L, h, h2⟩ := h
  exact first_any h
theorem top_next (h : LgN w N0 P s) : Calls Try.prog 17 #[.pointer (some ⟨P, 0, none⟩)] w fun e w' => e = .returned (.int .i64 (topV s)) ∧ ∃ k, w' = w.drewN k := by
  obtain ⟨L, h, h2⟩ := h
  exact top_any h
theorem next_next (h : LgN w N0 P s) : Calls Try.prog 15 #[.pointer (some ⟨P, 0, none⟩)] w fun e w' => e = .returned (.int .i64 (nextV s)) ∧ ∃ k, w' = w.drewN k := by
  obtain ⟨L, h, h2⟩ := h
  exact next_any h
theorem len_next (h : LgN w N0 P s) : Calls Try.prog 19 #[.pointer (some ⟨P, 0, none⟩)] w fun e w' => e = .returned (.int .i64 (cnt s.ps)) ∧ w' = w := by
  obtain ⟨L, h, h2⟩ := h
  exact len_any h
theorem LgN.ok (h : LgN w N0 P s) : Ok s := by
  obtain ⟨L, h, _⟩ := h
  exact h.ok
end
theorem blw_drewN (w : World) (B n : Nat) : Below B w (w.drewN n) := ⟨rfl, rfl, rfl, Nat.le_refl _, fun _ _ => rfl⟩
end Go.Proofs.Ytpaciknmmceehaa.Lp
