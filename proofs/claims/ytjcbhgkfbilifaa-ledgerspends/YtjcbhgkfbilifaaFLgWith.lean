/- A ledger with one right set in: the landed code. Condition: the list is a ledger. -/
import Derived.Test.YtjcbhgkfbilifaaFAcoOwn
import Derived.Test.YtjcbhgkfbilifaaFLgPlace
import Derived.Test.YtjcbhgkfbilifaaFFlatInsR
namespace Go.Proofs.Ytjcbhgkfbilifaa
open Go.ChangeShapes Go.WideShapes Go.ChangeAt Go.RowKit Ao Lg
set_option linter.unusedVariables false

theorem rset4 (w : World) (g o : Nat) (m : Rt) : w.setCells g o (renc m) = (((w.setCell ⟨g, o, none⟩ (.int .i64 m.g)).setCell ⟨g, o + 1, none⟩ (.string m.k)).setCell ⟨g, o + 2, none⟩ (.int .i64 m.ls)).setCell ⟨g, o + 3, none⟩ (.int .i64 m.nt) := rfl
set_option maxRecDepth 100000 in
set_option maxHeartbeats 1000000 in
theorem lwith_any {w : World} {a : Option Addr} {n cp : Nat} {l : List Rt} {m : Rt} (h : Rs w a n l) (hr : Led l) (hq1 : (n + 1) * 40 ≤ 140737488355328) :
    Calls Try.prog 63 #[.slice a n cp, rval m] w fun e w' => ∃ a' n' c', e = .returned (.slice a' n' c') ∧ Rs w' a' n' (insR l m) ∧ Below w.heap.size w w' ∧ Fr w.heap.size a' ∧ Cp a' n' c' := by
  have H := hide h
  have hn : n * 40 ≤ 140737488355328 := h.room
  have hn1 := hq1
  have HL : Hid (l.length = n) := h.len
  have HR := hide hr
  clear h hr
  unfold rval
  go_enter Try.func63, Try.ntmps63
  go_wp2_with fail
  have HB0 : Hid (Below w.heap.size w (w.alloc (.cells #[.int .i64 m.g, .string m.k, .int .i64 m.ls, .int .i64 m.nt] 43))) := (Below.refl _ _).alloc (Nat.le_refl _) _
  obtain ⟨w1, ew⟩ : ∃ w1, w1 = w.alloc (.cells #[.int .i64 m.g, .string m.k, .int .i64 m.ls, .int .i64 m.nt] 43) := ⟨_, rfl⟩
  have HBX : Hid (w1.heap[w.heap.size]? = some (.cells #[.int .i64 m.g, .string m.k, .int .i64 m.ls, .int .i64 m.nt] 43 (0, 0))) := by show _ = _; rw [ew]; exact heap_alloc_new w _
  rw [← ew] at HB0 ⊢
  have hs1 : w.heap.size < w1.heap.size := (Array.getElem?_eq_some_iff.1 HBX.out).1
  clear ew
  refine (FnR.clone_any (H.out.below HB0.out)).mono ?_
  rintro e w2 ⟨a1, c1, rfl, hb2, ho2⟩
  have HB2 := hide hb2
  have HO2 := hide ho2
  have HX2 : Hid (w2.heap[w.heap.size]? = _) := (hb2.block _ hs1).trans HBX.out
  obtain ⟨x0, x1, x2, x3⟩ := rt_row m HX2.out
  have HM2 : Hid (Rs w2 a1 n l) := Rl.of_row rflat ho2 (by omega)
  clear hb2 ho2
  go_wp2_with fail
  refine (lplace_any HM2.out HR.out).mono ?_
  rintro e w3 ⟨rfl, hb3⟩
  have HX3 : Hid (w3.heap[w.heap.size]? = _) := (hb3.block _ (Nat.lt_of_lt_of_le hs1 HB2.out.size)).trans HX2.out
  have HO3 := hide (row_keeps HO2.out hb3)
  have HB3 := hide hb3
  clear hb3 x0 x1 x2 x3
  obtain ⟨x0, x1, x2, x3⟩ := rt_row m HX3.out
  have HB13 : Hid (Below w.heap.size w w3) := HB0.out.trans ((HB2.out.trans (HB3.out.mono HB2.out.size)).mono HB0.out.size)
  have hs3 : w1.heap.size ≤ w3.heap.size := Nat.le_trans HB2.out.size HB3.out.size
  obtain ⟨p, ep⟩ : ∃ p, p = posR m l := ⟨_, rfl⟩
  have hpn : p ≤ n := by rw [ep, ← HL.out]; exact posR_le _ _
  have EP := hide ep
  rw [← ep]
  clear ep
  cases hq : lkR l m with
  | none =>
    have HW : Hid (insR l m = l.take p ++ [m] ++ l.drop p) := by show _ = _; rw [EP.out]; unfold insR; rw [hq]; rfl
    clear hq
    go_wp2_with fail
    refine (FnR.insert_any (x := m) (HO3.out.alloc _) (Nat.le_trans hs3 (by simp)) (heap_alloc_new w3 _) (fun hk => by have := (HO3.out.lt _ hk).2; omega) hpn (by omega)).mono ?_
    rintro e w4 ⟨a4, c4, rfl, ho4, hc4⟩
    have HO4 := hide ho4
    have HC4 := hide hc4
    clear ho4 hc4
    go_wp2_with fail
    go_returns
    refine ⟨_, _, _, rfl, ?_, ?_, fr_row HO4.out (Nat.le_refl _) HB0.out.size, row_cp HO4.out⟩
    · rw [HW.out]
      exact Rl.of_row rflat HO4.out (by omega)
    · exact (HB13.out.alloc HB13.out.size _).trans (HC4.out.below (Nat.le_trans HB13.out.size (by simp)) (fun k hk => by have := (HO3.out.lt k hk).1; omega))
  | some y =>
    have HW : Hid (insR l m = l.set p m ∧ p < l.length) := by
      refine ⟨by unfold insR; rw [hq, EP.out]; rfl, ?_⟩
      unfold lkR at hq
      rw [← EP.out] at hq
      cases hz : l[p]? with
      | none => rw [hz] at hq; cases hq
      | some z => exact (List.getElem?_eq_some_iff.1 hz).1
    clear hq
    have hlt : p < n := by rw [← HL.out]; exact HW.out.2
    have ho' := HO3.out
    obtain ⟨_, ⟨e1, e2⟩ | ⟨g, cpp, cur, e1, hBg, hg, _⟩⟩ := id ho'
    · omega
    obtain ⟨rfl, rfl⟩ : a1 = some ⟨g, 0, none⟩ ∧ c1 = cpp := by simpa using e1
    have hfz : ∀ o, w3.frozen? ⟨g, o, none⟩ = false := fun o => frozen_of_row _ _ _ _ _ hg
    obtain ⟨b, off, z, eb, hz, _, M⟩ := rs_at (Rl.of_row (by_ := 40) rflat ho' (by omega)) hlt
    obtain ⟨rfl, rfl⟩ : g = b ∧ 0 = off := by simpa using eb
    rw [Nat.zero_add] at M
    obtain ⟨y0, y1, y2, y3⟩ := M
    have HG := hide hBg
    have HS := hide (row_set rflat ho' hlt m)
    rw [rset4] at HS
    have hi1 : (p : Int) < (n : Int) := by omega
    have hgw : ¬ g = w.heap.size := by omega
    clear hz ho' hg eb e1 hBg
    go_wp2_with fail
    go_returns
    refine ⟨_, _, _, rfl, ?_, ?_, fr_row HS.out.1 (Nat.le_refl _) HB0.out.size, row_cp HS.out.1⟩
    · rw [HW.out.1]
      exact Rl.of_row rflat HS.out.1 (by omega)
    · exact HB13.out.grown HS.out.2 HB13.out.size (fun k hk => by cases hk; have := HG.out; have := HB0.out.size; omega)
end Go.Proofs.Ytjcbhgkfbilifaa
