/- The law folder's step: where it takes out. No condition but that there is memory. -/
import Derived.Test.YtbgejpkkocedbaaNetTwo
namespace Go.Proofs.Ytbgejpkkocedbaa
open Go.ChangeShapes Go.WideShapes Go.ChangeAt Go.RowKit B8 Nm
set_option linter.unusedVariables false

theorem take_len {s : Ns} (h : Ok s) (i : Int) : (takeP s i).b.length ≤ 16384 := by
  unfold takeP
  split
  · rename_i h0
    exact h.body _ (mem_getD _ _ _ (reach_lt h0).2)
  · simp [zPk]
set_option maxRecDepth 100000 in
set_option maxHeartbeats 1000000 in
theorem step_deliver {w : World} {N D E kk : Nat} {s : Ns} (h : TwoN w N D E kk s s) (hN : N ≤ w.heap.size) (x y : Int) (ka : Option Addr) (kl kc : Nat) :
    Calls Try.prog 12 #[.pointer (some ⟨D, 0, none⟩), .pointer (some ⟨E, 0, none⟩), .agg #[.int .i64 1, .int .i64 x, .int .i64 y, .slice ka kl kc]] w fun e w' => e = .returned (.bool true) ∧ Below N w w' ∧ TwoN w' N D E kk (takeS s x) (takeS s x) := by
  obtain ⟨w2, e2⟩ : ∃ w2, w2 = w.alloc (.cells #[.int .i64 1, .int .i64 x, .int .i64 y, .slice ka kl kc] 33) := ⟨_, rfl⟩
  have Y := hide (box_op e2)
  have B2 : Hid (Below w.heap.size w w2) := by rw [e2]; exact below_alloc (Below.refl _ _) _
  have LT2 : Hid (w.heap.size < w2.heap.size) := by rw [e2]; show _ < _; simp
  obtain ⟨L, R, ht, rfl, rfl⟩ := h
  have T2 := hide (ht.below B2.out)
  have OL : Hid (∀ k, L.M k ∨ L.R k → k < w.heap.size) := ht.lt
  have OR : Hid (∀ k, R.M k ∨ R.R k → k < w.heap.size) := ht.lt2
  have M2 : Hid (N ≤ w2.heap.size) := Nat.le_trans hN B2.out.size
  have BN : Hid (Below N w w2) := B2.out.mono hN
  obtain ⟨y0, y1, y2, y3⟩ := Y.out
  clear ht Y
  go_enter Try.func12, Try.ntmps12
  go_wp2_with fail
  rw [← e2]
  clear e2
  go_wp2_with fail
  refine (deliver_any T2.out.n x).mono ?_
  rintro e w3 ⟨p, rfl, hout, hmv⟩
  obtain ⟨L3, t3, hl3, b3, f3, o3⟩ := T2.out.net M2.out hmv.mv
  obtain ⟨w4, e4⟩ : ∃ w4, w4 = w3.alloc (.cells #[.int .i64 p.f, .int .i64 p.t, .slice p.a p.n p.cp] 39) := ⟨_, rfl⟩
  have B4 : Hid (Below w3.heap.size w3 w4) := by rw [e4]; exact below_alloc (Below.refl _ _) _
  have S4 : Hid (w4.heap.size = w3.heap.size + 1) := by rw [e4]; show _ = _; simp
  have T4 := hide (t3.below B4.out)
  have M3 : Hid (N ≤ w3.heap.size) := Nat.le_trans M2.out b3.size
  have M4 : Hid (N ≤ w4.heap.size) := Nat.le_trans M3.out B4.out.size
  have LT3 : Hid (w2.heap.size ≤ w3.heap.size) := b3.size
  have OB4 : Hid (w4.heap[w.heap.size]? = w2.heap[w.heap.size]?) := (B4.out.block _ (Nat.lt_of_lt_of_le LT2.out LT3.out)).trans (f3 _ LT2.out (fun hm => by have := OL.out _ (.inl hm); omega))
  have o4 : w4.cell? ⟨w.heap.size, 1, none⟩ = some (.int .i64 x) := (World.cell?_of_block (a := ⟨w.heap.size, 1, none⟩) OB4.out).trans y1
  have P4 : Hid (p.In w4) := hout.ins.same B4.out.size (fun ad e => B4.out.block _ (hout.ins.2 ad e))
  have PN : Hid (∀ ad, p.a = some ad → w2.heap.size ≤ ad.block) := hout.new
  have PK1 : Hid (p.pk = takeP s x) := hout.pk
  have PL : Hid (p.n ≤ 140737488355328) := by
    have h1 := take_len T2.out.n.ok x
    rw [← PK1.out] at h1
    have h2 := P4.out.1.length
    have h3 : p.b.length ≤ 16384 := h1
    show _ ≤ _
    omega
  have BN4 : Hid (Below N w w4) := BN.out.trans (b3.trans (B4.out.mono M3.out))
  have HL3 := hide hl3
  have R4 : Hid (w4.heap[w3.heap.size]? = some (.cells #[.int .i64 p.f, .int .i64 p.t, .slice p.a p.n p.cp] 39)) := by rw [e4]; exact heap_alloc_new w3 _
  rw [e4] at o4
  clear t3 hl3 b3 f3 o3 hout hmv y0 y1 y2 y3
  go_wp2_with fail
  rw [← e4]
  clear e4 o4
  refine (rtake T4.out.r x).mono ?_
  rintro e w5 ⟨q, rfl, hq, hqi, hmv2⟩
  obtain ⟨R5, t5, hr5, b5, f5, o5⟩ := T4.out.ref M4.out hmv2
  obtain ⟨w6, e6⟩ : ∃ w6, w6 = w5.alloc (.cells #[.int .i64 q.f, .int .i64 q.t, .slice q.a q.n q.cp] 39) := ⟨_, rfl⟩
  have B6 : Hid (Below w5.heap.size w5 w6) := by rw [e6]; exact below_alloc (Below.refl _ _) _
  have T6 := hide (t5.below B6.out)
  have HR5 := hide hr5
  have PK2 := hide hq
  have Q6 : Hid (q.In w6) := hqi.same B6.out.size (fun ad e => B6.out.block _ (hqi.2 ad e))
  have P6 : Hid (p.In w6) := P4.out.same (Nat.le_trans b5.size B6.out.size) (fun ad e => (B6.out.block _ (Nat.lt_of_lt_of_le (P4.out.2 ad e) b5.size)).trans (f5 _ (P4.out.2 ad e) (fun hm => by have := OR.out _ (.inl hm); have := PN.out ad e; have := LT2.out; omega)))
  have R6 : Hid (w6.heap[w3.heap.size]? = some (.cells #[.int .i64 p.f, .int .i64 p.t, .slice p.a p.n p.cp] 39)) := ((B6.out.block _ (by have := S4.out; have := b5.size; omega)).trans (f5 _ (by have := S4.out; omega) (fun hm => by have := OR.out _ (.inl hm); have := LT3.out; have := LT2.out; omega))).trans R4.out
  have k0 : w6.cell? ⟨w3.heap.size, 0, none⟩ = some (.int .i64 p.f) := by rw [cell_of_row _ _ 0 _ _ _ R6.out]; rfl
  have k1 : w6.cell? ⟨w3.heap.size, 1, none⟩ = some (.int .i64 p.t) := by rw [cell_of_row _ _ 1 _ _ _ R6.out]; rfl
  have k2 : w6.cell? ⟨w3.heap.size, 2, none⟩ = some (.slice p.a p.n p.cp) := by rw [cell_of_row _ _ 2 _ _ _ R6.out]; rfl
  have BN6 : Hid (Below N w w6) := BN4.out.trans (b5.trans (B6.out.mono (Nat.le_trans M4.out b5.size)))
  have PD := hide (packet_dec (p := p) (q := q) P6.out.1 Q6.out.1 PL.out)
  rw [decide_eq_true (PK1.out.trans PK2.out.symm)] at PD
  rw [e6] at k0 k1 k2 PD
  clear t5 hr5 b5 f5 o5 hq hqi hmv2
  go_wp2_with fail
  refine PD.out.mono ?_
  rintro e w7 ⟨rfl, hb7⟩
  rw [← e6] at hb7
  have T7 := hide (T6.out.below hb7)
  have BN7 : Hid (Below N w w7) := BN6.out.trans (hb7.mono (Nat.le_trans hN BN6.out.size))
  clear hb7 e6 k0 k1 k2 PD
  go_wp2_with fail
  go_ret
  exact ⟨rfl, BN7.out, L3, R5, T7.out, HL3.out, HR5.out⟩
set_option maxRecDepth 100000 in
set_option maxHeartbeats 1000000 in
theorem step_drop {w : World} {N D E kk : Nat} {s : Ns} (h : TwoN w N D E kk s s) (hN : N ≤ w.heap.size) (x y : Int) (ka : Option Addr) (kl kc : Nat) :
    Calls Try.prog 12 #[.pointer (some ⟨D, 0, none⟩), .pointer (some ⟨E, 0, none⟩), .agg #[.int .i64 2, .int .i64 x, .int .i64 y, .slice ka kl kc]] w fun e w' => e = .returned (.bool true) ∧ Below N w w' ∧ TwoN w' N D E kk (takeS s x) (takeS s x) := by
  obtain ⟨w2, e2⟩ : ∃ w2, w2 = w.alloc (.cells #[.int .i64 2, .int .i64 x, .int .i64 y, .slice ka kl kc] 33) := ⟨_, rfl⟩
  have Y := hide (box_op e2)
  have B2 : Hid (Below w.heap.size w w2) := by rw [e2]; exact below_alloc (Below.refl _ _) _
  have LT2 : Hid (w.heap.size < w2.heap.size) := by rw [e2]; show _ < _; simp
  obtain ⟨L, R, ht, rfl, rfl⟩ := h
  have T2 := hide (ht.below B2.out)
  have OL : Hid (∀ k, L.M k ∨ L.R k → k < w.heap.size) := ht.lt
  have OR : Hid (∀ k, R.M k ∨ R.R k → k < w.heap.size) := ht.lt2
  have M2 : Hid (N ≤ w2.heap.size) := Nat.le_trans hN B2.out.size
  have BN : Hid (Below N w w2) := B2.out.mono hN
  obtain ⟨y0, y1, y2, y3⟩ := Y.out
  clear ht Y
  go_enter Try.func12, Try.ntmps12
  go_wp2_with fail
  rw [← e2]
  clear e2
  go_wp2_with fail
  refine (rtake T2.out.r x).mono ?_
  rintro e w3 ⟨q, rfl, hq, hqi, hmv⟩
  obtain ⟨R3, t3, hl3, b3, f3, o3⟩ := T2.out.ref M2.out hmv
  obtain ⟨w4, e4⟩ : ∃ w4, w4 = w3.alloc (.cells #[.int .i64 q.f, .int .i64 q.t, .slice q.a q.n q.cp] 39) := ⟨_, rfl⟩
  have B4 : Hid (Below w3.heap.size w3 w4) := by rw [e4]; exact below_alloc (Below.refl _ _) _
  have T4 := hide (t3.below B4.out)
  have M3 : Hid (N ≤ w3.heap.size) := Nat.le_trans M2.out b3.size
  have M4 : Hid (N ≤ w4.heap.size) := Nat.le_trans M3.out B4.out.size
  have LT3 : Hid (w2.heap.size ≤ w3.heap.size) := b3.size
  have OB4 : Hid (w4.heap[w.heap.size]? = w2.heap[w.heap.size]?) := (B4.out.block _ (Nat.lt_of_lt_of_le LT2.out LT3.out)).trans (f3 _ LT2.out (fun hm => by have := OR.out _ (.inl hm); omega))
  have o4 : w4.cell? ⟨w.heap.size, 1, none⟩ = some (.int .i64 x) := (World.cell?_of_block (a := ⟨w.heap.size, 1, none⟩) OB4.out).trans y1
  have BN4 : Hid (Below N w w4) := BN.out.trans (b3.trans (B4.out.mono M3.out))
  have HL3 := hide hl3
  have DR := hide (drop_any T4.out.n x)
  rw [e4] at o4 DR
  clear t3 hl3 b3 f3 o3 hq hqi hmv y0 y1 y2 y3
  go_wp2_with fail
  refine DR.out.mono ?_
  rintro e w5 ⟨rfl, hmv2⟩
  rw [← e4] at hmv2
  obtain ⟨L5, t5, hl5, b5, f5, o5⟩ := T4.out.net M4.out hmv2.mv
  have T5 := hide t5
  have HL5 := hide hl5
  have BN5 : Hid (Below N w w5) := BN4.out.trans b5
  clear t5 hl5 b5 f5 o5 hmv2 o4 e4 DR
  go_wp2_with fail
  go_ret
  exact ⟨by simp, BN5.out, L5, R3, T5.out, HL5.out, HL3.out⟩
set_option maxRecDepth 100000 in
set_option maxHeartbeats 1000000 in
theorem step_heal {w : World} {N D E kk : Nat} {s : Ns} (h : TwoN w N D E kk s s) (hN : N ≤ w.heap.size) (x y : Int) (ka : Option Addr) (kl kc : Nat) :
    Calls Try.prog 12 #[.pointer (some ⟨D, 0, none⟩), .pointer (some ⟨E, 0, none⟩), .agg #[.int .i64 5, .int .i64 x, .int .i64 y, .slice ka kl kc]] w fun e w' => e = .returned (.bool true) ∧ Below N w w' ∧ TwoN w' N D E kk (healS s) (healS s) := by
  obtain ⟨w2, e2⟩ : ∃ w2, w2 = w.alloc (.cells #[.int .i64 5, .int .i64 x, .int .i64 y, .slice ka kl kc] 33) := ⟨_, rfl⟩
  have Y := hide (box_op e2)
  have B2 : Hid (Below w.heap.size w w2) := by rw [e2]; exact below_alloc (Below.refl _ _) _
  have LT2 : Hid (w.heap.size < w2.heap.size) := by rw [e2]; show _ < _; simp
  obtain ⟨L, R, ht, rfl, rfl⟩ := h
  have T2 := hide (ht.below B2.out)
  have OL : Hid (∀ k, L.M k ∨ L.R k → k < w.heap.size) := ht.lt
  have OR : Hid (∀ k, R.M k ∨ R.R k → k < w.heap.size) := ht.lt2
  have M2 : Hid (N ≤ w2.heap.size) := Nat.le_trans hN B2.out.size
  have BN : Hid (Below N w w2) := B2.out.mono hN
  obtain ⟨y0, y1, y2, y3⟩ := Y.out
  clear ht Y
  have c2 := T2.out.r.c2
  have ff : w2.frozen? ⟨R.N, 2, none⟩ = false := T2.out.r.f 2
  obtain ⟨R3, t3, hl3, b3, f3, o3⟩ := T2.out.ref M2.out T2.out.r.heal
  have HL := hide (heal_any t3.n)
  have T3 := hide t3
  have HR3 := hide hl3
  have BN3 : Hid (Below N w (w2.setCell ⟨R.N, 2, none⟩ (.slice none 0 0))) := BN.out.trans b3
  clear t3 hl3 b3 f3 o3
  rw [e2] at c2 ff HL
  go_enter Try.func12, Try.ntmps12
  go_wp2_with fail
  refine HL.out.mono ?_
  rw [← e2]
  rintro e w4 ⟨rfl, hmv⟩
  obtain ⟨L4, t4, hl4, b4, f4, o4⟩ := T3.out.net (Nat.le_trans hN BN3.out.size) hmv
  have T4 := hide t4
  have HL4 := hide hl4
  have BN4 : Hid (Below N w w4) := BN3.out.trans b4
  clear t4 hl4 b4 f4 o4 hmv HL
  go_wp2_with fail
  go_ret
  exact ⟨rfl, BN4.out, L4, R3, T4.out, HL4.out, HR3.out⟩
end Go.Proofs.Ytbgejpkkocedbaa
