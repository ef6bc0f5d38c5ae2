/- The document's Find. Condition: the account can be read. -/
import Derived.Test.YtjcbhgkfbilifaaFAcoRef
import Derived.Test.YtjcbhgkfbilifaaFAcoFind
namespace Go.Proofs.Ytjcbhgkfbilifaa
open Go.ChangeShapes Go.WideShapes Go.ChangeAt Go.RowKit Ao
set_option linter.unusedVariables false

set_option maxRecDepth 100000 in
set_option maxHeartbeats 2000000 in
theorem rfind_any {w : World} {a : Option Addr} {n c : Nat} {A : Ac} {node : Int} (h : Hs w a n A.hs) (hw : AcW A) : Calls Try.prog 75 #[.agg #[.string A.key, .int .i64 A.lo, .int .i64 A.hi, .int .i64 A.base, .int .i64 A.rd, .slice a n c, .int .i64 A.lk.c, .int .i64 A.lk.s, .int .i64 A.lk.h, .int .i64 A.lk.n], .int .i64 node] w fun e w' => e = .returned (.tuple #[hval ((findF A node).getD hd0), .bool (findF A node).isSome]) ∧ Below w.heap.size w w' := by
  have RR := fun W => hide (fun hW : Below w.heap.size w W => rright_any (c := c) (h.below hW) hw)
  have H := hide h
  have hlen := h.len
  have hrm := h.room
  clear h hw
  unfold hval
  go_enter Try.func75, Try.ntmps75
  go_wp2_with fail
  obtain ⟨w1, ew, hb1, ha1, hz1⟩ := hz_new w A a n c
  rw [← ew]
  have HB1 := hide hb1
  have HA1 := hide ha1
  have HZ1 : Hid (w1.heap[w.heap.size + 1]? = _) := hz1
  clear hb1 ha1 hz1 ew
  go_loopw [6] (fun iv wr => ∃ (k : Nat), k ≤ n ∧ iv = .int .i64 k ∧ Hid (Below w.heap.size w wr) ∧ Hid (Ab wr w.heap.size A a n c) ∧ Hid (wr.heap[w.heap.size + 1]? = some (.cells #[.int .i64 0, .int .i64 0, .int .i64 0, .int .i64 0] 33 (0, 0))) ∧ Hid (findH A.hs node = findH (A.hs.drop k) node)) (fun iv _ => n - (intOf iv).toNat)
  case atStart => exact ⟨0, Nat.zero_le _, rfl, HB1.out, HA1.out, HZ1.out, rfl⟩
  case round =>
    clear HZ1 HA1 HB1
    obtain ⟨k, hk, rfl, HB1, HA1, HZ1, HF⟩ := hrel
    obtain ⟨z0, z1, z2, z3, z4, z5, z6, z7, z8, z9⟩ := HA1.out.at_
    have hs1 : w.heap.size < wr.heap.size := HA1.out.lt
    have hq1 : w.heap.size + 1 < wr.heap.size := (Array.getElem?_eq_some_iff.1 HZ1.out).1
    go_wp2_with fail
    refine ((RR _).out HB1.out).mono ?_
    rintro e w2 ⟨rfl, hb⟩
    have HB2 : Hid (Below w.heap.size w w2) := HB1.out.trans (hb.mono HB1.out.size)
    have HA2 := hide (HA1.out.below hb)
    have HZ2 : Hid (w2.heap[w.heap.size + 1]? = _) := (hb.block _ hq1).trans HZ1.out
    have hq2 : w.heap.size + 1 < w2.heap.size := Nat.lt_of_lt_of_le hq1 hb.size
    clear hb z0 z1 z2 z3 z4 z5 z6 z7 z8 z9
    obtain ⟨z0, z1, z2, z3, z4, z5, z6, z7, z8, z9⟩ := HA2.out.at_
    have hs2 : w.heap.size < w2.heap.size := HA2.out.lt
    have i1 : (n : Int) ≤ 9223372036854775807 := by omega
    have i2 : (0 : Int) ≤ (k : Int) := by omega
    by_cases hr : rightB A = true
    · rw [hr]
      by_cases hlt : k < n
      · have i3 : (k : Int) < (n : Int) := by omega
        have ex : ∃ x, A.hs[k]? = some x := ⟨_, List.getElem?_eq_getElem (by omega)⟩
        obtain ⟨b, off, x, rfl, hx, hbl, M⟩ := hs_at (H.out.below HB2.out) hlt
        obtain ⟨c0, c1, c2, c3⟩ := M
        have hd : findH (A.hs.drop k) node = if x.nd = node then some x else findH (A.hs.drop (k + 1)) node := by
          rw [show A.hs.drop k = x :: A.hs.drop (k + 1) from by
            have hkl := (List.getElem?_eq_some_iff.1 hx)
            obtain ⟨p, q⟩ := hkl
            rw [← q]; exact List.drop_eq_getElem_cons p]
          exact find_cons _ _ _
        by_cases hn : x.nd = node
        · have HE : Hid (findF A node = some x) := by
            show _ = _
            unfold findF
            rw [if_pos hr, HF.out, hd, if_pos hn]
          rw [if_pos hn] at hd
          clear hd hx hbl RR HF
          subst hn
          go_wp2_with (refine wpList_store_row rfl 33 (.tmp 4) (.tmp 30) rfl (w.heap.size + 1) #[.int .i64 x.nd, .int .i64 x.ls, .int .i64 x.up, .int .i64 x.dn] rfl rfl 33 #[.int .i64 0, .int .i64 0, .int .i64 0, .int .i64 0] HZ2.out hd_info rfl (by simp [Value.oneCell']) ?_)
          refine bodyPost_ret (v := .tuple #[.agg #[.int .i64 x.nd, .int .i64 x.ls, .int .i64 x.up, .int .i64 x.dn], .bool true]) ?r ?d ?_
          case r => exact results_cell_tmp' rfl _ _ (w.heap.size + 1) 33 #[.int .i64 x.nd, .int .i64 x.ls, .int .i64 x.up, .int .i64 x.dn] (0, 0) _ (.bool true) rfl rfl (setRow_heap _ _ _ _ _ _ HZ2.out) Try.underlying33 rfl hd_info
          case d => rfl
          exact ⟨by rw [HE.out]; rfl, below_setRow HB2.out (by omega) _⟩
        · have HF2 : Hid (findH A.hs node = findH (A.hs.drop (k + 1)) node) := by show _ = _; rw [HF.out, hd, if_neg hn]
          clear hd hx hbl RR HF
          go_wp2_with fail
          go_roundw
          case rel => exact ⟨k + 1, by omega, by go_num, HB2.out, HA2.out, HZ2.out, HF2.out⟩
          case measure => simp [intOf]; omega
      · obtain rfl : k = n := by omega
        have HE : Hid (findF A node = none) := by
          show _ = _
          unfold findF
          rw [if_pos hr, HF.out, List.drop_of_length_le (by omega)]; rfl
        clear hr RR HF
        go_wp2_with (refine wpList_store_row rfl 33 (.tmp 4) (.tmp 31) rfl (w.heap.size + 1) #[.int .i64 0, .int .i64 0, .int .i64 0, .int .i64 0] rfl rfl 33 #[.int .i64 0, .int .i64 0, .int .i64 0, .int .i64 0] HZ2.out hd_info rfl (by simp [Value.oneCell']) ?_)
        refine bodyPost_ret (v := .tuple #[.agg #[.int .i64 0, .int .i64 0, .int .i64 0, .int .i64 0], .bool false]) ?r ?d ?_
        case r => exact results_cell_tmp' rfl _ _ (w.heap.size + 1) 33 #[.int .i64 0, .int .i64 0, .int .i64 0, .int .i64 0] (0, 0) _ (.bool false) rfl rfl (setRow_heap _ _ _ _ _ _ HZ2.out) Try.underlying33 rfl hd_info
        case d => rfl
        exact ⟨by rw [HE.out]; rfl, below_setRow HB2.out (by omega) _⟩
    · have HE : Hid (findF A node = none) := by
        show _ = _
        unfold findF
        rw [if_neg hr]
      have hr2 : rightB A = false := by simpa using hr
      rw [hr2]
      clear hr hr2 RR HF
      go_wp2_with (refine wpList_store_row rfl 33 (.tmp 4) (.tmp 31) rfl (w.heap.size + 1) #[.int .i64 0, .int .i64 0, .int .i64 0, .int .i64 0] rfl rfl 33 #[.int .i64 0, .int .i64 0, .int .i64 0, .int .i64 0] HZ2.out hd_info rfl (by simp [Value.oneCell']) ?_)
      refine bodyPost_ret (v := .tuple #[.agg #[.int .i64 0, .int .i64 0, .int .i64 0, .int .i64 0], .bool false]) ?r ?d ?_
      case r => exact results_cell_tmp' rfl _ _ (w.heap.size + 1) 33 #[.int .i64 0, .int .i64 0, .int .i64 0, .int .i64 0] (0, 0) _ (.bool false) rfl rfl (setRow_heap _ _ _ _ _ _ HZ2.out) Try.underlying33 rfl hd_info
      case d => rfl
      exact ⟨by rw [HE.out]; rfl, below_setRow HB2.out (by omega) _⟩
end Go.Proofs.Ytjcbhgkfbilifaa
