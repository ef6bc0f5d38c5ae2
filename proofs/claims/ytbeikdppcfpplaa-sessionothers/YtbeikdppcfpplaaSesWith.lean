/- A table with a mark set in, and what Find answers: the landed code. Condition: the list can be read. -/
import Derived.Test.YtbeikdppcfpplaaSesPlace
import Derived.Test.YtbeikdppcfpplaaFlatInsM
namespace Go.Proofs.Ytbeikdppcfpplaa
open Go.ChangeShapes Go.WideShapes Go.ChangeAt Go.RowKit Sn
set_option linter.unusedVariables false

theorem with_new {l : List Mk} (hr : Right l) {m : Mk} (hm : mayB m = true) (h : lkM l m.c = none) : withL l m = l.take (posL m.c l) ++ [m] ++ l.drop (posL m.c l) := by rw [← ins_with hr hm]; exact ins_new hr h
theorem with_old {l : List Mk} (hr : Right l) {m y : Mk} (hm : mayB m = true) (h : lkM l m.c = some y) : withL l m = l.set (posL m.c l) m ∧ posL m.c l < l.length := by rw [← ins_with hr hm]; exact ins_old hr h
theorem set7 (w : World) (g o : Nat) (m : Mk) : w.setCells g o (menc m) = ((((((w.setCell ⟨g, o, none⟩ (.int .i64 m.c)).setCell ⟨g, o + 1, none⟩ (.int .i64 m.s)).setCell ⟨g, o + 2, none⟩ (.bool m.o)).setCell ⟨g, o + 3, none⟩ (.int .i64 m.a.e)).setCell ⟨g, o + 4, none⟩ (.int .i64 m.a.v)).setCell ⟨g, o + 5, none⟩ (.int .i64 m.a.lo)).setCell ⟨g, o + 6, none⟩ (.int .i64 m.a.hi) := rfl
set_option maxRecDepth 100000 in
set_option maxHeartbeats 1000000 in
theorem with_any {w : World} {a : Option Addr} {n cp : Nat} {l : List Mk} {m : Mk} (h : Ms w a n l) (hr : Right l) (hm : mayB m = true) :
    Calls Try.prog 29 #[.slice a n cp, mval m] w fun e w' => ∃ a' n' c', e = .returned (.slice a' n' c') ∧ Ms w' a' n' (withL l m) ∧ Below w.heap.size w w' := by
  have H := hide h
  have hn : n ≤ 8 := by rw [← h.len]; exact right_length hr
  have HL : Hid (l.length = n) := h.len
  have HR := hide hr
  have HM := hide hm
  clear h hr hm
  unfold mval
  go_enter Try.func29, Try.ntmps29
  go_wp2_with fail
  have HB0 : Hid (Below w.heap.size w (w.alloc (.cells #[.int .i64 m.c, .int .i64 m.s, .bool m.o, .int .i64 m.a.e, .int .i64 m.a.v, .int .i64 m.a.lo, .int .i64 m.a.hi] 29))) := (Below.refl _ _).alloc (Nat.le_refl _) _
  obtain ⟨w1, ew⟩ : ∃ w1, w1 = w.alloc (.cells #[.int .i64 m.c, .int .i64 m.s, .bool m.o, .int .i64 m.a.e, .int .i64 m.a.v, .int .i64 m.a.lo, .int .i64 m.a.hi] 29) := ⟨_, rfl⟩
  have HBX : Hid (w1.heap[w.heap.size]? = some (.cells #[.int .i64 m.c, .int .i64 m.s, .bool m.o, .int .i64 m.a.e, .int .i64 m.a.v, .int .i64 m.a.lo, .int .i64 m.a.hi] 29 (0, 0))) := by show _ = _; rw [ew]; exact heap_alloc_new w _
  rw [← ew] at HB0 ⊢
  have hs1 : w.heap.size < w1.heap.size := (Array.getElem?_eq_some_iff.1 HBX.out).1
  clear ew
  refine (FnM.clone_any (H.out.below HB0.out)).mono ?_
  rintro e w2 ⟨a1, c1, rfl, hb2, ho2⟩
  have HB2 := hide hb2
  have HO2 := hide ho2
  have HX2 : Hid (w2.heap[w.heap.size]? = _) := (hb2.block _ hs1).trans HBX.out
  obtain ⟨x0, x1, x2, x3, x4, x5, x6⟩ := mk_row m HX2.out
  have HM2 : Hid (Ms w2 a1 n l) := Rl.of_row mflat ho2 (by omega)
  clear hb2 ho2
  go_wp2_with fail
  refine (place_any HM2.out HR.out).mono ?_
  rintro e w3 ⟨rfl, hb3⟩
  have HX3 : Hid (w3.heap[w.heap.size]? = _) := (hb3.block _ (Nat.lt_of_lt_of_le hs1 HB2.out.size)).trans HX2.out
  have HO3 := hide (row_keeps HO2.out hb3)
  have HB3 := hide hb3
  clear hb3 x0 x1 x2 x3 x4 x5 x6
  obtain ⟨x0, x1, x2, x3, x4, x5, x6⟩ := mk_row m HX3.out
  have HB13 : Hid (Below w.heap.size w w3) := HB0.out.trans ((HB2.out.trans (HB3.out.mono HB2.out.size)).mono HB0.out.size)
  have hs3 : w1.heap.size ≤ w3.heap.size := Nat.le_trans HB2.out.size HB3.out.size
  obtain ⟨p, ep⟩ : ∃ p, p = posL m.c l := ⟨_, rfl⟩
  have hpn : p ≤ n := by rw [ep, ← HL.out]; exact posL_le _ _
  have EP := hide ep
  rw [← ep]
  clear ep
  cases hq : lkM l m.c with
  | none =>
    have HW : Hid (withL l m = l.take p ++ [m] ++ l.drop p) := by show _ = _; rw [EP.out]; exact with_new HR.out HM.out hq
    clear hq
    go_wp2_with fail
    refine (FnM.insert_any (x := m) (HO3.out.alloc _) (Nat.le_trans hs3 (by simp)) (heap_alloc_new w3 _) (fun hk => by have := (HO3.out.lt _ hk).2; omega) hpn (by omega)).mono ?_
    rintro e w4 ⟨a4, c4, rfl, ho4, hc4⟩
    have HO4 := hide ho4
    have HC4 := hide hc4
    clear ho4 hc4
    go_wp2_with fail
    go_returns
    refine ⟨_, _, _, rfl, ?_, ?_⟩
    · rw [HW.out]
      exact Rl.of_row mflat HO4.out (by omega)
    · exact (HB13.out.alloc HB13.out.size _).trans (HC4.out.below (Nat.le_trans HB13.out.size (by simp)) (fun k hk => by have := (HO3.out.lt k hk).1; omega))
  | some y =>
    have HW := hide (with_old HR.out HM.out hq)
    rw [← EP.out] at HW
    clear hq
    have hlt : p < n := by rw [← HL.out]; exact HW.out.2
    have ho' := HO3.out
    obtain ⟨_, ⟨e1, e2⟩ | ⟨g, cpp, cur, e1, hBg, hg, _⟩⟩ := id ho'
    · omega
    obtain ⟨rfl, rfl⟩ : a1 = some ⟨g, 0, none⟩ ∧ c1 = cpp := by simpa using e1
    have hfz : ∀ o, w3.frozen? ⟨g, o, none⟩ = false := fun o => frozen_of_row _ _ _ _ _ hg
    obtain ⟨b, off, z, eb, hz, _, M⟩ := ms_at (Rl.of_row (by_ := 56) mflat ho' (by omega)) hlt
    obtain ⟨rfl, rfl⟩ : g = b ∧ 0 = off := by simpa using eb
    rw [Nat.zero_add] at M
    obtain ⟨y0, y1, y2, y3, y4, y5, y6⟩ := M
    have HG := hide hBg
    have HS := hide (row_set mflat ho' hlt m)
    rw [set7] at HS
    have hi1 : (p : Int) < (n : Int) := by omega
    have hgw : ¬ g = w.heap.size := by omega
    clear hz ho' hg eb e1 hBg
    go_wp2_with fail
    go_returns
    refine ⟨_, _, _, rfl, ?_, ?_⟩
    · rw [HW.out.1]
      exact Rl.of_row mflat HS.out.1 (by omega)
    · exact HB13.out.grown HS.out.2 HB13.out.size (fun k hk => by cases hk; have := HG.out; have := HB0.out.size; omega)
set_option maxRecDepth 100000 in
set_option maxHeartbeats 1000000 in
theorem find_any {w : World} {a : Option Addr} {n cp : Nat} {l : List Mk} {c : Int} (h : Ms w a n l) :
    Calls Try.prog 11 #[.slice a n cp, .int .i64 c] w fun e w' => e = .returned (.tuple #[mval ((findM l c).getD mk0), .bool (findM l c).isSome]) ∧ Below w.heap.size w w' := by
  have H := hide h
  have hroom := h.room
  have HL : Hid (l.length = n) := h.len
  clear h
  obtain ⟨f, ef⟩ : ∃ f, f = findM l c := ⟨_, rfl⟩
  rw [← ef]
  have EF := hide ef
  clear ef
  have CK := fun W => hide (fun hW : Below w.heap.size w W => check_any (c := cp) (H.out.below hW))
  cases hq : rightB 0 l with
  | false =>
    obtain rfl : f = none := by rw [EF.out]; unfold findM; rw [hq]; rfl
    have e1 : checkE l = 21 := by unfold checkE; rw [hq]; rfl
    rw [e1] at CK
    clear hq e1 EF
    rw [show (none : Option Mk).getD mk0 = mk0 from rfl]
    unfold mval mk0 an0
    go_enter Try.func11, Try.ntmps11
    go_wp2_with fail
    refine ((CK _).out (by go_grown)).mono ?_
    rintro e w1 ⟨rfl, hb1⟩
    have HZ : Hid (w1.heap[w.heap.size]? = some (.cells #[.int .i64 0, .int .i64 0, .bool false, .int .i64 0, .int .i64 0, .int .i64 0, .int .i64 0] 29 (0, 0))) := (hb1.block _ (by simp)).trans (heap_alloc_new w _)
    have HB1 := hide hb1
    clear hb1
    go_wp2_with (refine wpList_store_row rfl 29 (.tmp 4) (.tmp 11) rfl w.heap.size #[.int .i64 0, .int .i64 0, .bool false, .int .i64 0, .int .i64 0, .int .i64 0, .int .i64 0] rfl rfl 29 #[.int .i64 0, .int .i64 0, .bool false, .int .i64 0, .int .i64 0, .int .i64 0, .int .i64 0] HZ.out FnM.size_info rfl (by simp [Value.oneCell']) ?_)
    refine bodyPost_ret (v := .tuple #[.agg #[.int .i64 0, .int .i64 0, .bool false, .int .i64 0, .int .i64 0, .int .i64 0, .int .i64 0], .bool false]) ?r ?d ?_
    case r => exact results_cell_tmp' rfl _ _ w.heap.size 29 #[.int .i64 0, .int .i64 0, .bool false, .int .i64 0, .int .i64 0, .int .i64 0, .int .i64 0] (0, 0) _ (.bool false) rfl rfl (setRow_heap _ _ _ _ _ _ HZ.out) Try.underlying29 rfl FnM.size_info
    case d => rfl
    exact ⟨rfl, below_setRow ((Below.alloc (Below.refl _ _) (Nat.le_refl _) _).trans (HB1.out.mono (by simp))) (Nat.le_refl _) _⟩
  | true =>
    have e1 : checkE l = 0 := by unfold checkE; rw [hq]; rfl
    have EF2 : Hid (f = lkM l c) := by show _ = _; rw [EF.out]; unfold findM; rw [hq]; rfl
    have HR : Hid (Right l) := hq
    rw [e1] at CK
    clear hq e1 EF
    have PL := fun W => hide (fun hW : Below w.heap.size w W => place_any (cp := cp) (c := c) (H.out.below hW) HR.out)
    rw [← EF2.out] at PL
    obtain ⟨p, ep⟩ : ∃ p, p = posL c l := ⟨_, rfl⟩
    rw [← ep] at PL
    have HA : Hid (f = match l[p]? with | some x => if x.c = c then some x else none | none => none) := by show _ = _; rw [EF2.out, ep]; exact posL_at HR.out
    clear ep
    have K : ∀ (x : Mk), True := fun _ => trivial
    cases f with
    | none =>
      clear HA EF2 HR
      rw [show (none : Option Mk).getD mk0 = mk0 from rfl]
      unfold mval mk0 an0
      go_enter Try.func11, Try.ntmps11
      go_wp2_with fail
      refine ((CK _).out (by go_grown)).mono ?_
      rintro e w1 ⟨rfl, hb1⟩
      have HB1 := hide hb1
      clear hb1
      go_wp2_with fail
      have hbw : Below w.heap.size w w1 := (Below.alloc (Below.refl _ _) (Nat.le_refl _) _).trans (HB1.out.mono (by simp))
      refine ((PL _).out hbw).mono ?_
      rintro e w2 ⟨rfl, hb2⟩
      have h12 := HB1.out.trans (hb2.mono HB1.out.size)
      have HZ : Hid (w2.heap[w.heap.size]? = some (.cells #[.int .i64 0, .int .i64 0, .bool false, .int .i64 0, .int .i64 0, .int .i64 0, .int .i64 0] 29 (0, 0))) := (h12.block _ (by simp)).trans (heap_alloc_new w _)
      have HB2 : Hid (Below w.heap.size w w2) := hbw.trans (hb2.mono hbw.size)
      clear hb2 hbw h12 CK PL
      go_wp2_with (refine wpList_store_row rfl 29 (.tmp 4) (.tmp 20) rfl w.heap.size #[.int .i64 0, .int .i64 0, .bool false, .int .i64 0, .int .i64 0, .int .i64 0, .int .i64 0] rfl rfl 29 #[.int .i64 0, .int .i64 0, .bool false, .int .i64 0, .int .i64 0, .int .i64 0, .int .i64 0] HZ.out FnM.size_info rfl (by simp [Value.oneCell']) ?_)
      refine bodyPost_ret (v := .tuple #[.agg #[.int .i64 0, .int .i64 0, .bool false, .int .i64 0, .int .i64 0, .int .i64 0, .int .i64 0], .bool false]) ?r ?d ?_
      case r => exact results_cell_tmp' rfl _ _ w.heap.size 29 #[.int .i64 0, .int .i64 0, .bool false, .int .i64 0, .int .i64 0, .int .i64 0, .int .i64 0] (0, 0) _ (.bool false) rfl rfl (setRow_heap _ _ _ _ _ _ HZ.out) Try.underlying29 rfl FnM.size_info
      case d => rfl
      exact ⟨rfl, below_setRow HB2.out (Nat.le_refl _) _⟩
    | some m =>
      have HP : Hid (l[p]? = some m ∧ m.c = c) := by
        have := HA.out
        cases e : l[p]? with
        | none => rw [e] at this; cases this
        | some x =>
          rw [e] at this
          simp only at this
          by_cases e2 : x.c = c
          · rw [if_pos e2] at this
            cases this
            exact ⟨rfl, e2⟩
          · rw [if_neg e2] at this
            cases this
      have hpn : p < n := by rw [← HL.out]; exact (List.getElem?_eq_some_iff.1 HP.out.1).1
      clear HA EF2 HR
      rw [show (some m).getD mk0 = m from rfl]
      unfold mval
      go_enter Try.func11, Try.ntmps11
      go_wp2_with fail
      refine ((CK _).out (by go_grown)).mono ?_
      rintro e w1 ⟨rfl, hb1⟩
      have HB1 := hide hb1
      clear hb1
      go_wp2_with fail
      have hbw : Below w.heap.size w w1 := (Below.alloc (Below.refl _ _) (Nat.le_refl _) _).trans (HB1.out.mono (by simp))
      refine ((PL _).out hbw).mono ?_
      rintro e w2 ⟨rfl, hb2⟩
      have h12 := HB1.out.trans (hb2.mono HB1.out.size)
      have HZ : Hid (w2.heap[w.heap.size]? = some (.cells #[.int .i64 0, .int .i64 0, .bool false, .int .i64 0, .int .i64 0, .int .i64 0, .int .i64 0] 29 (0, 0))) := (h12.block _ (by simp)).trans (heap_alloc_new w _)
      have HB2 : Hid (Below w.heap.size w w2) := hbw.trans (hb2.mono hbw.size)
      obtain ⟨b, off, x, rfl, hx, hbl, M⟩ := ms_at (H.out.below HB2.out) hpn
      obtain rfl : m = x := by rw [HP.out.1] at hx; exact Option.some.inj hx
      obtain ⟨c0, c1, c2, c3, c4, c5, c6⟩ := M
      have hi1 : (p : Int) < (n : Int) := by omega
      clear hb2 hbw h12 CK PL hx hbl
      go_wp2_with (refine wpList_store_row rfl 29 (.tmp 4) (.tmp 24) rfl w.heap.size #[.int .i64 m.c, .int .i64 m.s, .bool m.o, .int .i64 m.a.e, .int .i64 m.a.v, .int .i64 m.a.lo, .int .i64 m.a.hi] rfl rfl 29 #[.int .i64 0, .int .i64 0, .bool false, .int .i64 0, .int .i64 0, .int .i64 0, .int .i64 0] HZ.out FnM.size_info rfl (by simp [Value.oneCell']) ?_)
      refine bodyPost_ret (v := .tuple #[.agg #[.int .i64 m.c, .int .i64 m.s, .bool m.o, .int .i64 m.a.e, .int .i64 m.a.v, .int .i64 m.a.lo, .int .i64 m.a.hi], .bool true]) ?r ?d ?_
      case r => exact results_cell_tmp' rfl _ _ w.heap.size 29 #[.int .i64 m.c, .int .i64 m.s, .bool m.o, .int .i64 m.a.e, .int .i64 m.a.v, .int .i64 m.a.lo, .int .i64 m.a.hi] (0, 0) _ (.bool true) rfl rfl (setRow_heap _ _ _ _ _ _ HZ.out) Try.underlying29 rfl FnM.size_info
      case d => rfl
      exact ⟨rfl, below_setRow HB2.out (Nat.le_refl _) _⟩
end Go.Proofs.Ytbeikdppcfpplaa
