/- The document's answers: Find, With. Condition: the list can be read. -/
import Derived.Test.YtbeikdppcfpplaaSesCalls
import Derived.Test.YtbeikdppcfpplaaFlatAddM
namespace Go.Proofs.Ytbeikdppcfpplaa
open Go.ChangeShapes Go.WideShapes Go.ChangeAt Go.RowKit Sn
set_option linter.unusedVariables false

theorem lk_first {l : List Mk} {c : Int} {k : Nat} {x : Mk} (hk : l[k]? = some x) (hc : x.c = c) (h : ∀ (j : Nat) (y : Mk), l[j]? = some y → j < k → ¬ y.c = c) : lkM l c = some x := by
  induction l generalizing k with
  | nil => simp at hk
  | cons z r ih =>
    rw [look_cons]
    cases k with
    | zero =>
      simp at hk
      subst hk
      rw [if_pos hc]
    | succ k =>
      rw [if_neg (h 0 z rfl (by omega))]
      exact ih (by simpa using hk) (fun j y hy hj => h (j + 1) y (by simpa using hy) (by omega))
theorem lk_none {l : List Mk} {c : Int} (h : ∀ (j : Nat) (y : Mk), l[j]? = some y → ¬ y.c = c) : lkM l c = none := by
  unfold lkM
  rw [List.find?_eq_none]
  intro x hx
  obtain ⟨j, hj, e⟩ := List.getElem_of_mem hx
  have := h j x (by rw [List.getElem?_eq_getElem hj, e])
  simpa using this
def ZR : Array Value := #[.int .i64 0, .int .i64 0, .bool false, .int .i64 0, .int .i64 0, .int .i64 0, .int .i64 0]
set_option maxRecDepth 100000 in
set_option maxHeartbeats 1000000 in
theorem rfind_any {w : World} {a : Option Addr} {n cp : Nat} {l : List Mk} {c : Int} (h : Ms w a n l) :
    Calls Try.prog 12 #[.slice a n cp, .int .i64 c] w fun e w' => e = .returned (.tuple #[mval ((findM l c).getD mk0), .bool (findM l c).isSome]) ∧ Below w.heap.size w w' := by
  have H := hide h
  have hroom := h.room
  have HL : Hid (l.length = n) := h.len
  clear h
  obtain ⟨f, ef⟩ : ∃ f, f = findM l c := ⟨_, rfl⟩
  rw [← ef]
  have EF := hide ef
  clear ef
  have RI := fun W => hide (fun hW : Below w.heap.size w W => rright_any (c := cp) (H.out.below hW))
  obtain ⟨q, eq⟩ : ∃ q, q = rightB 0 l := ⟨_, rfl⟩
  rw [← eq] at RI
  have EQ := hide eq
  clear eq
  go_enter Try.func12, Try.ntmps12
  go_wp2_with fail
  go_loopw [6] (fun iv wr => ∃ (k : Nat), k ≤ n ∧ iv = .int .i64 k ∧ Hid (Below w.heap.size w wr) ∧ Hid (wr.heap[w.heap.size]? = some (.cells #[.int .i64 0, .int .i64 0, .bool false, .int .i64 0, .int .i64 0, .int .i64 0, .int .i64 0] 29 (0, 0))) ∧ Hid (∀ j y, l[j]? = some y → j < k → ¬ y.c = c)) (fun iv _ => n - (intOf iv).toNat)
  case atStart => exact ⟨0, Nat.zero_le _, rfl, (Below.refl _ _).alloc (Nat.le_refl _) _, heap_alloc_new w _, fun j y _ h => absurd h (by omega)⟩
  case round =>
    obtain ⟨k, hk, rfl, HB, HZ0, HN⟩ := hrel
    have hlz : w.heap.size < wr.heap.size := (Array.getElem?_eq_some_iff.1 HZ0.out).1
    go_wp2_with fail
    refine ((RI _).out HB.out).mono ?_
    rintro e w1 ⟨rfl, hb1⟩
    have HZ : Hid (w1.heap[w.heap.size]? = some (.cells #[.int .i64 0, .int .i64 0, .bool false, .int .i64 0, .int .i64 0, .int .i64 0, .int .i64 0] 29 (0, 0))) := (hb1.block _ hlz).trans HZ0.out
    have HB1 : Hid (Below w.heap.size w w1) := HB.out.trans (hb1.mono HB.out.size)
    clear hb1 RI HZ0 hlz HB
    cases q with
    | false =>
      obtain rfl : f = none := by rw [EF.out]; unfold findM; rw [← EQ.out]; rfl
      clear EF EQ HN
      go_wp2_with (refine wpList_store_row rfl 29 (.tmp 4) (.tmp 28) rfl w.heap.size #[.int .i64 0, .int .i64 0, .bool false, .int .i64 0, .int .i64 0, .int .i64 0, .int .i64 0] rfl rfl 29 #[.int .i64 0, .int .i64 0, .bool false, .int .i64 0, .int .i64 0, .int .i64 0, .int .i64 0] HZ.out FnM.size_info rfl (by simp [Value.oneCell']) ?_)
      refine bodyPost_ret (v := .tuple #[.agg #[.int .i64 0, .int .i64 0, .bool false, .int .i64 0, .int .i64 0, .int .i64 0, .int .i64 0], .bool false]) ?r ?d ?_
      case r => exact results_cell_tmp' rfl _ _ w.heap.size 29 #[.int .i64 0, .int .i64 0, .bool false, .int .i64 0, .int .i64 0, .int .i64 0, .int .i64 0] (0, 0) _ (.bool false) rfl rfl (setRow_heap _ _ _ _ _ _ HZ.out) Try.underlying29 rfl FnM.size_info
      case d => rfl
      exact ⟨rfl, below_setRow HB1.out (Nat.le_refl _) _⟩
    | true =>
      have EF2 : Hid (f = lkM l c) := by show _ = _; rw [EF.out]; unfold findM; rw [← EQ.out]; rfl
      clear EF EQ
      by_cases hlt : k < n
      · obtain ⟨b, off, x, rfl, hx, hbl, M⟩ := ms_at (H.out.below HB1.out) hlt
        obtain ⟨c0, c1, c2, c3, c4, c5, c6⟩ := M
        have i1 : (k : Int) < (n : Int) := by omega
        have i2 : (0 : Int) ≤ (k : Int) := by omega
        by_cases hxc : x.c = c
        · have EF3 : Hid (f = some x) := by show _ = _; rw [EF2.out]; exact lk_first hx hxc HN.out
          obtain rfl := EF3.out
          rw [hxc] at c0
          have HXC := hide hxc
          clear EF2 EF3 hxc HN hx hbl
          go_wp2_with (refine wpList_store_row rfl 29 (.tmp 4) (.tmp 27) rfl w.heap.size #[.int .i64 c, .int .i64 x.s, .bool x.o, .int .i64 x.a.e, .int .i64 x.a.v, .int .i64 x.a.lo, .int .i64 x.a.hi] rfl rfl 29 #[.int .i64 0, .int .i64 0, .bool false, .int .i64 0, .int .i64 0, .int .i64 0, .int .i64 0] HZ.out FnM.size_info rfl (by simp [Value.oneCell']) ?_)
          refine bodyPost_ret (v := .tuple #[.agg #[.int .i64 c, .int .i64 x.s, .bool x.o, .int .i64 x.a.e, .int .i64 x.a.v, .int .i64 x.a.lo, .int .i64 x.a.hi], .bool true]) ?r ?d ?_
          case r => exact results_cell_tmp' rfl _ _ w.heap.size 29 #[.int .i64 c, .int .i64 x.s, .bool x.o, .int .i64 x.a.e, .int .i64 x.a.v, .int .i64 x.a.lo, .int .i64 x.a.hi] (0, 0) _ (.bool true) rfl rfl (setRow_heap _ _ _ _ _ _ HZ.out) Try.underlying29 rfl FnM.size_info
          case d => rfl
          refine ⟨?_, below_setRow HB1.out (Nat.le_refl _) _⟩
          rw [← HXC.out]
          rfl
        · have HN2 : Hid (∀ j y, l[j]? = some y → j < k + 1 → ¬ y.c = c) := fun j y hy hj => by
            by_cases e : j = k
            · rw [e, hx] at hy
              cases hy
              exact hxc
            · exact HN.out j y hy (by omega)
          clear hx hbl
          go_wp2_with fail
          go_roundw
          case rel => exact ⟨k + 1, by omega, by go_num, HB1, HZ, HN2⟩
          case measure => simp [intOf]; omega
      · obtain rfl : k = n := by omega
        obtain rfl : f = none := by
          rw [EF2.out]
          exact lk_none fun j y hy => HN.out j y hy (by have := (List.getElem?_eq_some_iff.1 hy).1; have := HL.out; omega)
        clear EF2 HN
        go_wp2_with (refine wpList_store_row rfl 29 (.tmp 4) (.tmp 28) rfl w.heap.size #[.int .i64 0, .int .i64 0, .bool false, .int .i64 0, .int .i64 0, .int .i64 0, .int .i64 0] rfl rfl 29 #[.int .i64 0, .int .i64 0, .bool false, .int .i64 0, .int .i64 0, .int .i64 0, .int .i64 0] HZ.out FnM.size_info rfl (by simp [Value.oneCell']) ?_)
        refine bodyPost_ret (v := .tuple #[.agg #[.int .i64 0, .int .i64 0, .bool false, .int .i64 0, .int .i64 0, .int .i64 0, .int .i64 0], .bool false]) ?r ?d ?_
        case r => exact results_cell_tmp' rfl _ _ w.heap.size 29 #[.int .i64 0, .int .i64 0, .bool false, .int .i64 0, .int .i64 0, .int .i64 0, .int .i64 0] (0, 0) _ (.bool false) rfl rfl (setRow_heap _ _ _ _ _ _ HZ.out) Try.underlying29 rfl FnM.size_info
        case d => rfl
        exact ⟨rfl, below_setRow HB1.out (Nat.le_refl _) _⟩
set_option maxRecDepth 100000 in
set_option maxHeartbeats 1000000 in
theorem rwith_any {w : World} {a : Option Addr} {n cp : Nat} {l : List Mk} {m : Mk} (h : Ms w a n l) (hr : Right l) :
    Calls Try.prog 32 #[.slice a n cp, mval m] w fun e w' => ∃ a' n' c', e = .returned (.slice a' n' c') ∧ Ms w' a' n' (withL l m) ∧ Below w.heap.size w w' := by
  have FD := fun (c : Int) W => hide (fun hW : Below w.heap.size w W => rfind_any (cp := cp) (c := c) (h.below hW))
  have HE : Hid (∀ c, findM l c = lkM l c) := fun c => find_ok hr
  clear h hr
  unfold mval
  go_enter Try.func32, Try.ntmps32
  go_wp2_with fail
  go_loopw [5, 6, 7, 8, 13, 19] (fun s5 s6 _ _ _ _ wr => ∃ (k : Nat) (a1 : Option Addr) (n1 c1 : Nat), k ≤ 8 ∧ s5 = .slice a1 n1 c1 ∧ s6 = .int .i64 (k + 1) ∧ Hid (Below w.heap.size w wr) ∧ Hid (wr.heap[w.heap.size]? = some (.cells #[.int .i64 m.c, .int .i64 m.s, .bool m.o, .int .i64 m.a.e, .int .i64 m.a.v, .int .i64 m.a.lo, .int .i64 m.a.hi] 29 (0, 0))) ∧ Hid (n1 ≤ k) ∧ Hid (wr.ownsRow (w.heap.size + 1) 29 7 (.slice a1 n1 c1) n1 (fcells menc (tabN (upd (lkM l) m) 0 k)))) (fun _ iv _ _ _ _ _ => 9 - (intOf iv).toNat)
  case atStart => exact ⟨0, none, 0, 0, by omega, rfl, rfl, (Below.refl _ _).alloc (Nat.le_refl _) _, heap_alloc_new w _, Nat.le_refl _, World.ownsRow_nil _ _ _ _⟩
  case round =>
    obtain ⟨k, a1, n1, c1, hk, rfl, rfl, HB, HX, HNK, HO⟩ := hrel
    by_cases hlt : k < 8
    · have i1 : (k : Int) + 1 ≤ 8 := by omega
      have hws : w.heap.size < wr.heap.size := (Array.getElem?_eq_some_iff.1 HX.out).1
      obtain ⟨f, ef⟩ : ∃ f, f = lkM l ((k : Int) + 1) := ⟨_, rfl⟩
      have FK := FD ((k : Int) + 1)
      rw [HE.out, ← ef] at FK
      obtain ⟨y, ey⟩ : ∃ y, y = f.getD mk0 := ⟨_, rfl⟩
      rw [← ey] at FK
      unfold mval at FK
      have HT : Hid (tabN (upd (lkM l) m) 0 (k + 1) = tabN (upd (lkM l) m) 0 k ++ (if (k : Int) + 1 = m.c then some m else f).toList) := by
        show _ = _
        rw [tabN_snoc, ef]
        simp only [upd, Int.zero_add]
      clear ef
      go_wp2_with fail
      refine ((FK _).out HB.out).mono ?_
      rintro e w4 ⟨rfl, hb4⟩
      have HX4 : Hid (w4.heap[w.heap.size]? = some (.cells #[.int .i64 m.c, .int .i64 m.s, .bool m.o, .int .i64 m.a.e, .int .i64 m.a.v, .int .i64 m.a.lo, .int .i64 m.a.hi] 29 (0, 0))) := (hb4.block _ hws).trans HX.out
      have HB4 : Hid (Below w.heap.size w w4) := HB.out.trans (hb4.mono HB.out.size)
      have HO4 := hide (row_keeps HO.out hb4)
      have hs4 : w.heap.size + 1 ≤ w4.heap.size := (Array.getElem?_eq_some_iff.1 HX4.out).1
      clear hb4 FK FD HO HX
      have HB5 : Hid (Below w.heap.size w (w4.alloc (.cells #[.int .i64 y.c, .int .i64 y.s, .bool y.o, .int .i64 y.a.e, .int .i64 y.a.v, .int .i64 y.a.lo, .int .i64 y.a.hi] 29))) := HB4.out.alloc HB4.out.size _
      have HX5 : Hid ((w4.alloc (.cells #[.int .i64 y.c, .int .i64 y.s, .bool y.o, .int .i64 y.a.e, .int .i64 y.a.v, .int .i64 y.a.lo, .int .i64 y.a.hi] 29)).heap[w.heap.size]? = some (.cells #[.int .i64 m.c, .int .i64 m.s, .bool m.o, .int .i64 m.a.e, .int .i64 m.a.v, .int .i64 m.a.lo, .int .i64 m.a.hi] 29 (0, 0))) := (Below.heap_alloc _ _ _ (by omega)).trans HX4.out
      have HO5 := hide (HO4.out.alloc (.cells #[.int .i64 y.c, .int .i64 y.s, .bool y.o, .int .i64 y.a.e, .int .i64 y.a.v, .int .i64 y.a.lo, .int .i64 y.a.hi] 29))
      obtain ⟨x0, x1, x2, x3, x4, x5, x6⟩ := mk_row m HX5.out
      have hn1 : n1 ≤ 8 := by have := HNK.out; omega
      have es : (w4.alloc (.cells #[.int .i64 y.c, .int .i64 y.s, .bool y.o, .int .i64 y.a.e, .int .i64 y.a.v, .int .i64 y.a.lo, .int .i64 y.a.hi] 29)).heap.size = w4.heap.size + 1 := by simp
      by_cases hkc : (k : Int) + 1 = m.c
      · obtain ⟨g, c7, w7, hr, ho, hch, hb⟩ := FnM.add_any HO5.out (by omega) (Nat.le_trans hs4 (by simp)) m 22
        rw [es] at hr
        have hm1 : 1 ≤ m.c := by omega
        have hm2 : m.c ≤ 8 := by omega
        have HKC := hide hkc
        have HT2 : Hid (tabN (upd (lkM l) m) 0 (k + 1) = tabN (upd (lkM l) m) 0 k ++ [m]) := by show _ = _; rw [HT.out, if_pos hkc]; rfl
        have HO7 : Hid (w7.ownsRow (w.heap.size + 1) 29 7 (.slice (some ⟨g, 0, none⟩) (n1 + 1) c7) (n1 + 1) (fcells menc (tabN (upd (lkM l) m) 0 (k + 1)))) := by show World.ownsRow _ _ _ _ _ _ _; rw [HT2.out]; exact ho
        have HB7 : Hid (Below w.heap.size w w7) := HB5.out.trans (⟨hb.os, hb.tape, hb.output, hb.size, fun q hq => hb.block q (by omega)⟩)
        have HX7 : Hid (w7.heap[w.heap.size]? = some (.cells #[.int .i64 m.c, .int .i64 m.s, .bool m.o, .int .i64 m.a.e, .int .i64 m.a.v, .int .i64 m.a.lo, .int .i64 m.a.hi] 29 (0, 0))) := (hb.block _ (by omega)).trans HX5.out
        have HN7 : Hid (n1 + 1 ≤ k + 1) := by show _ ≤ _; have := HNK.out; omega
        clear ho hch hb HT HE ey es
        go_wp2_with (at_builtin; refine wp_append_run _ rfl _ _ 22 rfl _ _ hr ?_)
        go_roundw
        case rel => exact ⟨k + 1, _, _, _, by omega, rfl, by rw [← HKC.out]; go_num, HB7, HX7, HN7, HO7⟩
        case measure => simp [intOf]; omega
      · cases f with
        | none =>
          have HO7 : Hid ((w4.alloc (.cells #[.int .i64 y.c, .int .i64 y.s, .bool y.o, .int .i64 y.a.e, .int .i64 y.a.v, .int .i64 y.a.lo, .int .i64 y.a.hi] 29)).ownsRow (w.heap.size + 1) 29 7 (.slice a1 n1 c1) n1 (fcells menc (tabN (upd (lkM l) m) 0 (k + 1)))) := by
            show World.ownsRow _ _ _ _ _ _ _
            rw [HT.out, if_neg hkc]
            simp only [Option.toList, List.append_nil]
            exact HO5.out
          have HN7 : Hid (n1 ≤ k + 1) := by show _ ≤ _; have := HNK.out; omega
          clear HT HE ey es
          go_wp2_with fail
          go_roundw
          case rel => exact ⟨k + 1, _, _, _, by omega, rfl, by go_num, HB5, HX5, HN7, HO7⟩
          case measure => simp [intOf]; omega
        | some z =>
          obtain rfl : y = z := ey
          obtain ⟨g, c7, w7, hr, ho, hch, hb⟩ := FnM.add_any HO5.out (by omega) (Nat.le_trans hs4 (by simp)) y 22
          rw [es] at hr
          have HT2 : Hid (tabN (upd (lkM l) m) 0 (k + 1) = tabN (upd (lkM l) m) 0 k ++ [y]) := by show _ = _; rw [HT.out, if_neg hkc]; rfl
          have HO7 : Hid (w7.ownsRow (w.heap.size + 1) 29 7 (.slice (some ⟨g, 0, none⟩) (n1 + 1) c7) (n1 + 1) (fcells menc (tabN (upd (lkM l) m) 0 (k + 1)))) := by show World.ownsRow _ _ _ _ _ _ _; rw [HT2.out]; exact ho
          have HB7 : Hid (Below w.heap.size w w7) := HB5.out.trans (⟨hb.os, hb.tape, hb.output, hb.size, fun q hq => hb.block q (by omega)⟩)
          have HX7 : Hid (w7.heap[w.heap.size]? = some (.cells #[.int .i64 m.c, .int .i64 m.s, .bool m.o, .int .i64 m.a.e, .int .i64 m.a.v, .int .i64 m.a.lo, .int .i64 m.a.hi] 29 (0, 0))) := (hb.block _ (by omega)).trans HX5.out
          have HN7 : Hid (n1 + 1 ≤ k + 1) := by show _ ≤ _; have := HNK.out; omega
          clear ho hch hb HT HE es
          go_wp2_with (at_builtin; refine wp_append_run _ rfl _ _ 22 rfl _ _ hr ?_)
          go_roundw
          case rel => exact ⟨k + 1, _, _, _, by omega, rfl, by go_num, HB7, HX7, HN7, HO7⟩
          case measure => simp [intOf]; omega
    · obtain rfl : k = 8 := by omega
      go_wp2_with fail
      go_returns
      refine ⟨_, _, _, rfl, ms_row HO.out (by have := HNK.out; omega), HB.out⟩
end Go.Proofs.Ytbeikdppcfpplaa
