/- own and more: the landed code. Condition: the account can be read. -/
import Derived.Test.YtjcbhgkfbilifaaFAcoLook
import Derived.Test.YtjcbhgkfbilifaaFFlatFnH
import Derived.WalkSmall
namespace Go.Proofs.Ytjcbhgkfbilifaa
open Go.ChangeShapes Go.WideShapes Go.ChangeAt Go.RowKit Ao
set_option linter.unusedVariables false

theorem row_cp {w : World} {B T sz n c : Nat} {a : Option Addr} {xs : List Value} (h : w.ownsRow B T sz (.slice a n c) n xs) : Cp a n c := by
  obtain ⟨_, ⟨e, e2⟩ | ⟨g, cp, cur, e, _, _, h5, _⟩⟩ := h
  · simp at e
    exact ⟨fun _ => e.2.2, by omega⟩
  · simp at e
    exact ⟨fun h => by rw [h] at e; simp at e, by omega⟩
theorem row_far {w : World} {B T sz n s : Nat} {v u : Value} {xs : List Value} {cs : Array Value} (h : w.ownsRow B T sz v n xs) (hB : s + 2 ≤ B) : ((w.setCell ⟨s, 5, none⟩ u).setRow (s + 1) cs).ownsRow B T sz v n xs :=
  row_same h fun k hk => (setRow_other _ _ _ _ (by have := (h.lt k hk).1; omega)).trans (put_far (by have := (h.lt k hk).1; omega))
theorem below_five {w w2 : World} {u : Value} {cs : Array Value} (h : Below w.heap.size w w2) : Below w.heap.size w ((w2.setCell ⟨w.heap.size, 5, none⟩ u).setRow (w.heap.size + 1) cs) :=
  below_setRow (h.setCell (p := ⟨w.heap.size, 5, none⟩) (Nat.le_refl _) _) (by omega) _
set_option maxRecDepth 100000 in
set_option maxHeartbeats 2000000 in
theorem own_acc {w : World} {a : Option Addr} {n c : Nat} {A : Ac} (h : Hs w a n A.hs) : Calls Try.prog 99 #[acval A a n c] w fun e w' => ∃ a' c', e = .returned (acval A a' n c') ∧ Hs w' a' n A.hs ∧ Below w.heap.size w w' ∧ Fr w.heap.size a' ∧ Cp a' n c' := by
  have H := hide h
  have hrm := h.room
  clear h
  unfold acval
  go_enter Try.func99, Try.ntmps99
  go_wp2_with fail
  obtain ⟨w1, ew, hb1, ha1, hz1⟩ := two_new w A a n c
  rw [← ew]
  have HB1 := hide hb1
  have HA1 := hide ha1
  have HZ1 := hide hz1
  clear hb1 ha1 hz1 ew
  obtain ⟨z0, z1, z2, z3, z4, z5, z6, z7, z8, z9⟩ := HA1.out.at_
  have hs1 : w.heap.size < w1.heap.size := HA1.out.lt
  have hq1 : w.heap.size + 1 < w1.heap.size := HZ1.out.lt
  refine (FnH.clone_any (H.out.below HB1.out)).mono ?_
  rintro e w2 ⟨a1, c1, rfl, hb, ho⟩
  have HB2 : Hid (Below w.heap.size w w2) := HB1.out.trans (hb.mono HB1.out.size)
  have HA2 := hide (HA1.out.below hb)
  have HZ2 : Hid (w2.heap[w.heap.size + 1]? = _) := (hb.block _ hq1).trans (zrow HZ1.out)
  have HO := hide (row_far (s := w.heap.size) (u := .slice a1 n c1) (cs := #[.string A.key, .int .i64 (A.lo), .int .i64 (A.hi), .int .i64 (A.base), .int .i64 (A.rd), .slice a1 n c1, .int .i64 (A.lk.c), .int .i64 (A.lk.s), .int .i64 (A.lk.h), .int .i64 (A.lk.n)]) ho (by omega))
  have HN := hide (row_cp ho)
  have HF := hide (fr_row ho (Nat.le_refl _) HB1.out.size)
  clear hb ho z0 z1 z2 z3 z4 z5 z6 z7 z8 z9
  obtain ⟨z0, z1, z2, z3, z4, z5, z6, z7, z8, z9⟩ := HA2.out.at_
  have hs2 : w.heap.size < w2.heap.size := HA2.out.lt
  have zf := HA2.out.fz
  go_wp2_with (refine wpList_store_row rfl 28 (.tmp 2) (.tmp 7) rfl (w.heap.size + 1) #[.string A.key, .int .i64 (A.lo), .int .i64 (A.hi), .int .i64 (A.base), .int .i64 (A.rd), .slice a1 n c1, .int .i64 (A.lk.c), .int .i64 (A.lk.s), .int .i64 (A.lk.h), .int .i64 (A.lk.n)] rfl rfl 28 #[.string ⟨#[]⟩, .int .i64 0, .int .i64 0, .int .i64 0, .int .i64 0, .slice none 0 0, .int .i64 0, .int .i64 0, .int .i64 0, .int .i64 0] ((put_far (by omega)).trans HZ2.out) ac_info rfl (by simp [Value.oneCell']) ?_)
  refine bodyPost_ret (v := .agg #[.string A.key, .int .i64 (A.lo), .int .i64 (A.hi), .int .i64 (A.base), .int .i64 (A.rd), .slice a1 n c1, .int .i64 (A.lk.c), .int .i64 (A.lk.s), .int .i64 (A.lk.h), .int .i64 (A.lk.n)]) ?r ?d ?_
  case r => exact results_cell_row rfl _ _ (w.heap.size + 1) 28 #[.string A.key, .int .i64 (A.lo), .int .i64 (A.hi), .int .i64 (A.base), .int .i64 (A.rd), .slice a1 n c1, .int .i64 (A.lk.c), .int .i64 (A.lk.s), .int .i64 (A.lk.h), .int .i64 (A.lk.n)] (0, 0) _ rfl (setRow_heap _ _ _ _ _ _ ((put_far (by omega)).trans HZ2.out)) Try.underlying28 rfl ac_info
  case d => rfl
  exact ⟨a1, c1, rfl, Rl.of_row hflat HO.out hrm, below_five HB2.out, HF.out, HN.out⟩
set_option maxRecDepth 100000 in
theorem more_any {l r nodes : Int} (w : World) (hl : 0 ≤ l) (hl2 : l ≤ 9223372036854775807) (hr : 0 ≤ r) (hr2 : r ≤ 18446744073709551615) (hn : 1 ≤ nodes) (hn2 : nodes ≤ 5) :
    Calls Try.prog 97 #[.int .i64 l, .int .u64 r, .int .i64 nodes] w fun e w' => e = .returned (.int .i64 (moreI l (shareI r nodes))) ∧ Below w.heap.size w w' := by
  have b1 : 0 ≤ r / (nodes + 1) := Int.ediv_nonneg hr (by omega)
  have b2 : r / (nodes + 1) ≤ r / 2 := by
    rw [Int.le_ediv_iff_mul_le (by omega)]
    have := Int.ediv_mul_le r (show nodes + 1 ≠ 0 by omega)
    have : r / (nodes + 1) * 2 ≤ r / (nodes + 1) * (nodes + 1) := Int.mul_le_mul_of_nonneg_left (by omega) b1
    omega
  have b3 : r / (nodes + 1) ≤ 9223372036854775807 := by omega
  have es : sharev r (nodes + 1) nodes = r / (nodes + 1) := by
    refine sharev_less _ _ _ (by omega) (by omega) (by omega) ?_
    have := Int.emod_lt_of_pos r (show 0 < nodes + 1 by omega)
    omega
  have S := hide (share_any r (nodes + 1) nodes w hr hr2 (by omega))
  rw [es] at S
  obtain ⟨q, eq⟩ : ∃ q, q = r / (nodes + 1) := ⟨_, rfl⟩
  have em : moreI l (shareI r nodes) = fitv (l + q) := by
    unfold moreI shareI fitv
    rw [← eq]
    split <;> omega
  rw [em]
  rw [← eq] at S b1 b2 b3
  have F1 := fun W => hide (fit_any q W b1 (by omega))
  rw [fitv_in q b3] at F1
  have F2 := fun W => hide (fit_any (l + q) W (by omega) (by omega))
  generalize fitv (l + q) = z at F2
  clear em es eq
  have k1 : IntKind.u64.wrap l = l := by rw [wrapU]; omega
  have k2 : IntKind.u64.wrap q = q := by rw [wrapU]; omega
  have k3 : IntKind.u64.wrap (l + q) = l + q := by rw [wrapU]; omega
  have k4 : IntKind.i64.wrap (nodes + 1) = nodes + 1 := by rw [IntKind.wrap_i64]; omega
  go_enter Try.func97, Try.ntmps97
  go_wp2_with fail
  refine S.out.mono ?_
  rintro e w1 ⟨rfl, kk, hk⟩
  have HB : Hid (Below w.heap.size w w1) := by show Below _ _ _; rw [hk]; exact below_drewN (Below.refl _ _) kk
  clear hk
  go_wp2_with fail
  refine (F1 _).out.mono ?_
  rintro e w2 ⟨rfl, hw⟩
  rw [hw]
  clear hw
  go_wp2_with fail
  refine (F2 _).out.mono ?_
  rintro e w2 ⟨rfl, hw⟩
  rw [hw]
  clear hw
  go_wp2_with fail
  go_returns
  exact ⟨rfl, HB.out⟩
end Go.Proofs.Ytjcbhgkfbilifaa
