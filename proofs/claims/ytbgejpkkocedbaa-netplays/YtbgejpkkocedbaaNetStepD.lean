/- The law folder's step: where it sends. No condition but that there is memory. -/
import Derived.Test.YtbgejpkkocedbaaNetTwo
namespace Go.Proofs.Ytbgejpkkocedbaa
open Go.ChangeShapes Go.WideShapes Go.ChangeAt Go.RowKit B8 Nm
set_option linter.unusedVariables false

theorem setCell_same_row {w : World} {g k : Nat} {cur : Array Value} {t : TypeId} {u : Value} (h : w.heap[g]? = some (.cells cur t (0, 0))) : (w.setCell ⟨g, k, none⟩ u).heap[g]? = some (.cells (cur.setIfInBounds k u) t (0, 0)) := by
  simp [World.setCell, Array.getElem?_modify, h]
set_option maxRecDepth 100000 in
set_option maxHeartbeats 2000000 in
theorem step_send {w : World} {N D E kk : Nat} {s : Ns} (h : TwoN w N D E kk s s) (hN : N ≤ w.heap.size) (hc : s.cuts.length ≤ 8000000000000) (kind x y : Int) (ka : Option Addr) (kl kc : Nat) (ks : List Int) (qf : ∀ u : World, Below N w u → Sq u ka kl kc ks) (hkl : kl ≤ 140737488351232) (z1 : (kind == 1) = false) (z2 : (kind == 2) = false) (z3 : (kind == 3) = false) (z4 : (kind == 4) = false) (z5 : (kind == 5) = false) :
    Calls Try.prog 12 #[.pointer (some ⟨D, 0, none⟩), .pointer (some ⟨E, 0, none⟩), .agg #[.int .i64 kind, .int .i64 x, .int .i64 y, .slice ka kl kc]] w fun e w' => e = .returned (.bool true) ∧ Below N w w' ∧ TwoN w' N D E kk (sendS s x y ks) (sendS s x y ks) := by
  obtain ⟨w2, e2⟩ : ∃ w2, w2 = w.alloc (.cells #[.int .i64 kind, .int .i64 x, .int .i64 y, .slice ka kl kc] 33) := ⟨_, rfl⟩
  have Y := hide (box_op e2)
  have B2 : Hid (Below w.heap.size w w2) := by rw [e2]; exact below_alloc (Below.refl _ _) _
  have LT2 : Hid (w.heap.size < w2.heap.size) := by rw [e2]; show _ < _; simp
  obtain ⟨L, R, ht, rfl, rfl⟩ := h
  have T2 := hide (ht.below B2.out)
  have OL : Hid (∀ k, L.M k ∨ L.R k → k < w.heap.size) := ht.lt
  have OR : Hid (∀ k, R.M k ∨ R.R k → k < w.heap.size) := ht.lt2
  have M2 : Hid (N ≤ w2.heap.size) := Nat.le_trans hN B2.out.size
  have BN : Hid (Below N w w2) := B2.out.mono hN
  have QF := hide qf
  have Q2 := hide (qf w2 BN.out)
  clear ht qf
  go_enter Try.func12, Try.ntmps12
  go_wp2_with fail
  rw [← e2]
  clear e2
  refine (own_sq 71 Q2.out (by omega)).mono ?_
  rintro e w3 ⟨rfl, hb3, ho3⟩
  have OB : Hid (∃ cur, w3.heap[w2.heap.size]? = some (.cells cur 5 (0, 0)) ∧ cur.size = kl + 2) := by
    rcases ho3.2 with ⟨e1, _⟩ | ⟨g, cap, cur, e1, _, e3, _, _, e6, _⟩
    · cases e1
    · simp at e1
      obtain ⟨rfl, rfl⟩ := e1
      exact ⟨cur, e3, by omega⟩
  have LTo : Hid (w2.heap.size < w3.heap.size) := (ho3.lt w2.heap.size rfl).2
  have O3 := hide ho3
  have SO := hide (sq_own Q2.out.length Q2.out.wf ho3)
  have T3 := hide (T2.out.below hb3)
  have M3 : Hid (N ≤ w3.heap.size) := Nat.le_trans M2.out hb3.size
  have BN3 : Hid (Below N w w3) := BN.out.trans (hb3.mono M2.out)
  have E3 : Hid (w3.heap[w.heap.size]? = w2.heap[w.heap.size]?) := hb3.block _ LT2.out
  have YC : Hid (∀ u : World, u.heap[w.heap.size]? = w2.heap[w.heap.size]? → u.cell? ⟨w.heap.size, 1, none⟩ = some (.int .i64 x) ∧ u.cell? ⟨w.heap.size, 2, none⟩ = some (.int .i64 y) ∧ u.cell? ⟨w.heap.size, 3, none⟩ = some (.slice ka kl kc)) := fun u hu =>
    ⟨(World.cell?_of_block (a := ⟨w.heap.size, 1, none⟩) hu).trans Y.out.2.1, (World.cell?_of_block (a := ⟨w.heap.size, 2, none⟩) hu).trans Y.out.2.2.1, (World.cell?_of_block (a := ⟨w.heap.size, 3, none⟩) hu).trans Y.out.2.2.2⟩
  obtain ⟨o1, o2, o3⟩ := YC.out w3 E3.out
  clear hb3 ho3
  go_wp2_with fail
  refine (send_any T3.out.n x y SO.out.1).mono ?_
  rintro e w4 ⟨rfl, hmv⟩
  obtain ⟨L4, t4, hl4, b4, f4, ol4⟩ := T3.out.net M3.out hmv
  have e4 : Hid (∀ k, w.heap.size ≤ k → k < w3.heap.size → w4.heap[k]? = w3.heap[k]?) := fun k h1 h2 => f4 k h2 (fun hm => by have := OL.out _ (.inl hm); omega)
  have NL4 : Hid (¬ (L4.M w2.heap.size ∨ L4.R w2.heap.size)) := fun hm => by
    rcases ol4 _ hm with h5 | h5
    · have := OL.out _ h5; have := LT2.out; omega
    · have := LTo.out; omega
  have T4 := hide t4
  have HL4 := hide hl4
  have M4 : Hid (N ≤ w4.heap.size) := Nat.le_trans M3.out b4.size
  have S4 : Hid (w3.heap.size ≤ w4.heap.size) := b4.size
  have BN4 : Hid (Below N w w4) := BN3.out.trans b4
  have Q4 := hide (QF.out w4 BN4.out)
  have E4 : Hid (w4.heap[w.heap.size]? = w2.heap[w.heap.size]?) := (e4.out _ (Nat.le_refl _) (Nat.lt_trans LT2.out LTo.out)).trans E3.out
  obtain ⟨p1, p2, p3⟩ := YC.out w4 E4.out
  clear t4 hl4 b4 f4 ol4 hmv o1 o2 o3
  go_wp2_with fail
  refine (rsend T4.out.r hc x y Q4.out).mono ?_
  rintro e w5 ⟨rfl, hmv2⟩
  obtain ⟨R5, t5, hr5, b5, f5, ol5⟩ := T4.out.ref M4.out hmv2
  have e5 : Hid (∀ k, w.heap.size ≤ k → k < w3.heap.size → w5.heap[k]? = w3.heap[k]?) := fun k h1 h2 => (f5 k (Nat.lt_of_lt_of_le h2 S4.out) (fun hm => by have := OR.out _ (.inl hm); omega)).trans (e4.out k h1 h2)
  have NR5 : Hid (¬ (R5.M w2.heap.size ∨ R5.R w2.heap.size)) := fun hm => by
    rcases ol5 _ hm with h5 | h5
    · have := OR.out _ h5; have := LT2.out; omega
    · have := LTo.out; have := S4.out; omega
  have T5 := hide t5
  have HR5 := hide hr5
  have BN5 : Hid (Below N w w5) := BN4.out.trans b5
  have Q5 := hide (QF.out w5 BN5.out)
  have E5 : Hid (w5.heap[w.heap.size]? = w2.heap[w.heap.size]?) := (e5.out _ (Nat.le_refl _) (Nat.lt_trans LT2.out LTo.out)).trans E3.out
  obtain ⟨r1, r2, r3⟩ := YC.out w5 E5.out
  have g5 : Hid (w5.heap[w2.heap.size]? = w3.heap[w2.heap.size]?) := e5.out _ (Nat.le_of_lt LT2.out) LTo.out
  have O5 : Hid (w5.ownsRow w2.heap.size 5 1 (.slice (some ⟨w2.heap.size, 0, none⟩) (kl + 2) (kl + 2)) (kl + 2) (vals (ks ++ [71, 71]))) := row_same O3.out (fun k hk => by
    have hk2 : some w2.heap.size = some k := hk
    rw [← Option.some.inj hk2]
    exact g5.out)
  have SO5 := hide (sq_own Q2.out.length Q2.out.wf O5.out)
  clear t5 hr5 b5 f5 ol5 hmv2 p1 p2 p3
  go_wp2_with fail
  refine (kept_sq 71 SO5.out.1 Q5.out (by omega) SO5.out.2.1 SO5.out.2.2).mono ?_
  rintro e w6 ⟨rfl, m6, rfl⟩
  obtain ⟨cur0, hc0, hs0⟩ := OB.out
  have G6 : Hid ((w5.drewN m6).heap[w2.heap.size]? = some (.cells cur0 5 (0, 0))) := g5.out.trans hc0
  have HS0 := hide hs0
  obtain ⟨w6, e6⟩ : ∃ w6, w6 = w5.drewN m6 := ⟨_, rfl⟩
  have C56 : Hid (Chg (· = w2.heap.size) w5 w6) := by rw [e6]; exact Chg.drewN _ _ _
  rw [← e6] at G6 ⊢
  clear e6 hc0 hs0 SO SO5 Q5 Q4 Q2 r1 r2 r3 OB
  go_wp2_with fail
  go_loopw [16] (fun i wr => ∃ (k : Nat) (cur : Array Value), k ≤ kl ∧ i = .int .i64 k ∧ Hid (Chg (· = w2.heap.size) w5 wr) ∧ Hid (wr.heap[w2.heap.size]? = some (.cells cur 5 (0, 0)) ∧ cur.size = kl + 2)) (fun i _ => kl - (intOf i).toNat)
  case atStart => exact ⟨0, cur0, by omega, rfl, C56, ⟨G6.out, HS0.out⟩⟩
  case round =>
    obtain ⟨k, cur, hk, rfl, HC, HG⟩ := hrel
    by_cases hlt : k < kl
    · have cc : wr.cell? ⟨w2.heap.size, k, none⟩ = some (cur[k]'(by have := HG.out.2; omega)) := by rw [cell_of_row wr _ k _ _ _ HG.out.1]; exact Array.getElem?_eq_getElem _
      have ff : wr.frozen? ⟨w2.heap.size, k, none⟩ = false := by unfold World.frozen?; rw [HG.out.1]; simp
      have i1 : (k : Int) < (kl : Int) := by omega
      have i2 : (0 : Int) ≤ (k : Int) := by omega
      go_wp2_with fail
      go_roundw
      case rel => exact ⟨k + 1, _, by omega, by go_num, HC.out.setCell (p := ⟨w2.heap.size, k, none⟩) (.inl rfl) _, ⟨setCell_same_row HG.out.1, by simpa using HG.out.2⟩⟩
      case measure => simp [intOf]; omega
    · obtain rfl : k = kl := by omega
      go_wp2_with fail
      go_ret
      exact ⟨rfl, BN5.out.trans (HC.out.below (Nat.le_trans hN BN5.out.size) (fun j hj => by rw [hj]; exact M2.out)), L4, R5, T5.out.far HC.out (fun j hj => by rw [hj]; exact ⟨NL4.out, NR5.out⟩), HL4.out, HR5.out⟩
end Go.Proofs.Ytbgejpkkocedbaa
