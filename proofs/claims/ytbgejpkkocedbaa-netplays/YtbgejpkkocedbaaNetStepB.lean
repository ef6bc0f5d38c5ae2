/- The law folder's step: where it doubles and cuts. No condition but that there is memory. -/
import Derived.Test.YtbgejpkkocedbaaNetTwo
namespace Go.Proofs.Ytbgejpkkocedbaa
open Go.ChangeShapes Go.WideShapes Go.ChangeAt Go.RowKit B8 Nm
set_option linter.unusedVariables false

set_option maxRecDepth 100000 in
set_option maxHeartbeats 1000000 in
theorem step_double {w : World} {N D E kk : Nat} {s : Ns} (h : TwoN w N D E kk s s) (hN : N ≤ w.heap.size) (x y : Int) (ka : Option Addr) (kl kc : Nat) :
    Calls Try.prog 12 #[.pointer (some ⟨D, 0, none⟩), .pointer (some ⟨E, 0, none⟩), .agg #[.int .i64 3, .int .i64 x, .int .i64 y, .slice ka kl kc]] w fun e w' => e = .returned (.bool true) ∧ Below N w w' ∧ TwoN w' N D E kk (dblS s x) (dblS s x) := by
  obtain ⟨w2, e2⟩ : ∃ w2, w2 = w.alloc (.cells #[.int .i64 3, .int .i64 x, .int .i64 y, .slice ka kl kc] 33) := ⟨_, rfl⟩
  have Y := hide (box_op e2)
  have B2 : Hid (Below w.heap.size w w2) := by rw [e2]; exact below_alloc (Below.refl _ _) _
  have LT2 : Hid (w.heap.size < w2.heap.size) := by rw [e2]; show _ < _; simp
  obtain ⟨L, R, ht, rfl, rfl⟩ := h
  have T2 := hide (ht.below B2.out)
  have OL : Hid (∀ k, L.M k ∨ L.R k → k < w.heap.size) := ht.lt
  have OR : Hid (∀ k, R.M k ∨ R.R k → k < w.heap.size) := ht.lt2
  have M2 : Hid (N ≤ w2.heap.size) := Nat.le_trans hN B2.out.size
  have BN : Hid (Below N w w2) := B2.out.mono hN
  obtain ⟨y0, y1, y2, y3⟩ := Y.out
  clear ht Y
  go_enter Try.func12, Try.ntmps12
  go_wp2_with fail
  rw [← e2]
  clear e2
  have TD := hide (T2.out.below (Below.refl _ _).drew)
  have z1 : w2.drew.cell? ⟨w.heap.size, 1, none⟩ = some (.int .i64 x) := y1
  have z2 : w2.drew.cell? ⟨w.heap.size, 2, none⟩ = some (.int .i64 y) := y2
  go_wp2_with fail
  go_cut [6] (fun v w' => v = .bool true ∧ Hid (Below N w w' ∧ TwoN w' N L.N R.N kk (dblS s x) (dblS s x)))
  case first =>
    go_region_with (first
      | (go_at_call 18; refine (double_any TD.out.n x).mono ?_; rintro e w3 ⟨rfl, hmv⟩; obtain ⟨L3, t3, hl3, b3, f3, o3⟩ := TD.out.net (N := N) M2.out hmv; have T3 := hide t3; have HL3 := hide hl3; have B3 : Hid (Below N w w3) := BN.out.trans ((Below.refl N w2).drew.trans b3); have OB3 : w3.heap[w.heap.size]? = w2.heap[w.heap.size]? := f3 _ LT2.out (fun hm => by have := OL.out _ (.inl hm); omega); have v1 : w3.cell? ⟨w.heap.size, 1, none⟩ = some (.int .i64 x) := (World.cell?_of_block (a := ⟨w.heap.size, 1, none⟩) OB3).trans y1; have v2 : w3.cell? ⟨w.heap.size, 2, none⟩ = some (.int .i64 y) := (World.cell?_of_block (a := ⟨w.heap.size, 2, none⟩) OB3).trans y2; clear t3 hl3 b3 f3 o3 hmv OB3)
      | (go_at_call 28; refine (rdouble T3.out.r x).mono ?_; rintro e w4 ⟨rfl, hmv⟩; obtain ⟨R4, t4, hl4, b4, f4, o4⟩ := T3.out.ref (Nat.le_trans hN B3.out.size) hmv; have T4 := hide t4; have HR4 := hide hl4; have B4 : Hid (Below N w w4) := B3.out.trans b4; clear t4 hl4 b4 f4 o4 hmv))
    all_goals (go_wp2_with fail; go_meet; case rel => exact ⟨by simp, B4.out, L3, R4, T4.out, HL3.out, HR4.out⟩)
  case rest =>
    obtain ⟨rfl, HX⟩ := hcut
    go_wp2_with fail
    go_ret
    exact ⟨rfl, HX.out.1, HX.out.2⟩
end Go.Proofs.Ytbgejpkkocedbaa
