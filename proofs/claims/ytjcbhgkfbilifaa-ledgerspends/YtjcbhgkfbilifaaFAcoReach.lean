/- How far an account may go, by what is lent: the landed reach, staysWithin, mayLock, mayMove, lockStands, isLocked, isKnown. Condition: the account can be read. -/
import Derived.Test.YtjcbhgkfbilifaaFAcoCheck
import Derived.Laws.CopyOwn
namespace Go.Proofs.Ytjcbhgkfbilifaa
open Go.ChangeShapes Go.WideShapes Go.ChangeAt Go.RowKit Ao
set_option linter.unusedVariables false

theorem span_info : (Try.prog.info? 23).map (·.size) = some 2 := by kernel_rfl
theorem put_row' {w : World} {b o : Nat} {u : Value} {cs : Array Value} {t : TypeId} (h : w.heap[b]? = some (.cells cs t (0, 0))) : (w.setCell ⟨b, o, none⟩ u).heap[b]? = some (.cells (cs.setIfInBounds o u) t (0, 0)) := by
  simp [World.setCell, Array.getElem?_modify, h]
theorem put_far {w : World} {b b' o : Nat} {u : Value} (h : b' ≠ b) : (w.setCell ⟨b, o, none⟩ u).heap[b']? = w.heap[b']? := by
  simp [World.setCell, Array.getElem?_modify, show ¬ b = b' from fun e => h e.symm]
/-- a span lies in the block b -/
structure Sb (w : World) (b : Nat) (lo hi : Int) : Prop where
  row : w.heap[b]? = some (.cells #[.int .i64 lo, .int .i64 hi] 23 (0, 0))
theorem Sb.lt {w : World} {b : Nat} {lo hi : Int} (h : Sb w b lo hi) : b < w.heap.size := (Array.getElem?_eq_some_iff.1 h.row).1
theorem Sb.c0 {w : World} {b : Nat} {lo hi : Int} (h : Sb w b lo hi) : w.cell? ⟨b, 0, none⟩ = some (.int .i64 lo) := by rw [cell_of_row _ _ _ _ _ _ h.row]; rfl
theorem Sb.c1 {w : World} {b : Nat} {lo hi : Int} (h : Sb w b lo hi) : w.cell? ⟨b, 1, none⟩ = some (.int .i64 hi) := by rw [cell_of_row _ _ _ _ _ _ h.row]; rfl
theorem Sb.fz {w : World} {b : Nat} {lo hi : Int} (h : Sb w b lo hi) : ∀ o, w.frozen? ⟨b, o, none⟩ = false := fun o => frozen_of_row _ _ _ _ _ h.row
theorem Sb.below {w w' : World} {b : Nat} {lo hi : Int} (h : Sb w b lo hi) (hb : Below w.heap.size w w') : Sb w' b lo hi := ⟨(hb.block _ h.lt).trans h.row⟩
theorem Sb.put {w : World} {b : Nat} {lo hi : Int} (h : Sb w b lo hi) (lo' hi' : Int) : Sb ((w.setCell ⟨b, 0, none⟩ (.int .i64 lo')).setCell ⟨b, 1, none⟩ (.int .i64 hi')) b lo' hi' := ⟨put_row' (put_row' h.row)⟩
theorem Sb.far {w : World} {b b' : Nat} {lo hi : Int} {u v : Value} (h : Sb w b lo hi) (hn : b ≠ b') : Sb ((w.setCell ⟨b', 0, none⟩ u).setCell ⟨b', 1, none⟩ v) b lo hi := ⟨((put_far hn).trans (put_far hn)).trans h.row⟩
theorem Ab.far2 {w : World} {b b' : Nat} {A : Ac} {a : Option Addr} {n c : Nat} {u v : Value} (h : Ab w b A a n c) (hn : b ≠ b') : Ab ((w.setCell ⟨b', 0, none⟩ u).setCell ⟨b', 1, none⟩ v) b A a n c := ⟨((put_far hn).trans (put_far hn)).trans h.row⟩
theorem sb3 (w : World) (X Y : Obj) (lo hi : Int) : Sb (((w.alloc X).alloc Y).alloc (.cells #[.int .i64 lo, .int .i64 hi] 23)) (w.heap.size + 2) lo hi := ⟨by have := heap_alloc_new ((w.alloc X).alloc Y) (.cells #[.int .i64 lo, .int .i64 hi] 23); simpa using this⟩
theorem sb2 (w : World) (X : Obj) (lo hi : Int) : Sb ((w.alloc X).alloc (.cells #[.int .i64 lo, .int .i64 hi] 23)) (w.heap.size + 1) lo hi := ⟨by have := heap_alloc_new (w.alloc X) (.cells #[.int .i64 lo, .int .i64 hi] 23); simpa using this⟩
instance (x : Int) : Decidable (I64 x) := by unfold I64; exact inferInstance
/-- how low and how high the total may be -/
def reachB (A : Ac) : Bool := decide (I64 (A.base - downs A.hs) ∧ I64 (A.base + ups A.hs))
def reachL (A : Ac) : Int := if reachB A = true then A.base - downs A.hs else 0
def reachH (A : Ac) : Int := if reachB A = true then A.base + ups A.hs else 0
theorem sums_take {l : List Hd} {k : Nat} {x : Hd} (hx : l[k]? = some x) : ups (l.take (k + 1)) = ups (l.take k) + x.up ∧ downs (l.take (k + 1)) = downs (l.take k) + x.dn := by
  induction l generalizing k with
  | nil => simp at hx
  | cons y r ih =>
    cases k with
    | zero =>
      simp at hx
      subst hx
      simp [ups, downs]
    | succ k =>
      have := ih (k := k) (by simpa using hx)
      simp only [List.take_succ_cons]
      show y.up + ups _ = y.up + ups _ + _ ∧ y.dn + downs _ = y.dn + downs _ + _
      omega
theorem sums_le {b : Int} : ∀ {l : List Hd} (k : Nat), hsB b l = true → 0 ≤ ups (l.take k) ∧ ups (l.take k) ≤ ups l ∧ 0 ≤ downs (l.take k) ∧ downs (l.take k) ≤ downs l
  | [], k, _ => by simp [ups, downs]
  | y :: r, 0, h => by
    have := ups_nonneg h
    simp only [List.take_zero]
    show 0 ≤ (0 : Int) ∧ 0 ≤ _ ∧ 0 ≤ (0 : Int) ∧ 0 ≤ _
    omega
  | y :: r, k + 1, h => by
    obtain ⟨h1, h2, h3⟩ := hs_cons h
    have := sums_le k h3
    have := hd_facts h2
    simp only [List.take_succ_cons]
    show 0 ≤ y.up + ups _ ∧ y.up + ups _ ≤ y.up + ups _ ∧ 0 ≤ y.dn + downs _ ∧ y.dn + downs _ ≤ y.dn + downs _
    omega
set_option maxRecDepth 100000 in
set_option maxHeartbeats 2000000 in
theorem reach_any {w : World} {a : Option Addr} {n c : Nat} {A : Ac} (h : Hs w a n A.hs) (hw : AcW A) (hr : hsB 0 A.hs = true) :
    Calls Try.prog 128 #[acval A a n c] w fun e w' => e = .returned (.tuple #[.agg #[.int .i64 (reachL A), .int .i64 (reachH A)], .bool (reachB A)]) ∧ Below w.heap.size w w' := by
  have H := hide h
  have hrm := h.room
  have hl := h.len
  have HW := hide hw
  have HR := hide hr
  obtain ⟨rb, erb⟩ : ∃ b, b = reachB A := ⟨_, rfl⟩
  obtain ⟨rl, erl⟩ : ∃ b, b = reachL A := ⟨_, rfl⟩
  obtain ⟨rh, erh⟩ : ∃ b, b = reachH A := ⟨_, rfl⟩
  rw [← erb, ← erl, ← erh]
  have EB := hide erb
  have EL := hide erl
  have EH := hide erh
  have hlen : n ≤ 5 := by have := hs_length hr; omega
  clear h hw hr erb erl erh
  unfold acval
  go_enter Try.func128, Try.ntmps128
  go_wp2_with fail
  go_loopw [6, 7, 8, 9, 10, 19] (fun _ _ _ _ _ iv wr => ∃ (k : Nat), k ≤ n ∧ iv = .int .i64 k ∧ Hid (Below w.heap.size w wr) ∧ Hid (Ab wr w.heap.size A a n c) ∧ Hid (Sb wr (w.heap.size + 1) 0 0) ∧ Hid (Sb wr (w.heap.size + 2) (A.base - downs (A.hs.take k)) (A.base + ups (A.hs.take k))) ∧ Hid (I64 (A.base - downs (A.hs.take k)) ∧ I64 (A.base + ups (A.hs.take k)))) (fun _ _ _ _ _ iv _ => n - (intOf iv).toNat)
  case atStart =>
    have hA0 := ab_new w A a n c
    refine ⟨0, Nat.zero_le _, rfl, ?_, ?_, ?_, ?_, ?_⟩
    · show Below _ _ _; go_grown
    · show Ab _ _ _ _ _ _; exact hA0.below (by go_grown)
    · show Sb _ _ _ _; exact (sb2 w _ 0 0).below (by go_grown)
    · show Sb _ _ _ _
      rw [show A.base - downs (A.hs.take 0) = A.base by simp [downs], show A.base + ups (A.hs.take 0) = A.base by simp [ups]]
      exact sb3 w _ _ _ _
    · exact ⟨by have := HW.out.base; simpa [downs] using this, by have := HW.out.base; simpa [ups] using this⟩
  case round =>
    obtain ⟨k, hk, rfl, HB, HA, HZ, HS, HI⟩ := hrel
    by_cases hlt : k < n
    · obtain ⟨bb, off, x, rfl, hx, hb, M⟩ := hs_at (H.out.below HB.out) hlt
      have HX := hide (sums_take hx)
      have HXW : Hid (HdW x) := HW.out.hs x (List.mem_of_getElem? hx)
      have HXP := hide (hd_facts (hs_mem HR.out x (List.mem_of_getElem? hx)).2)
      have HLE := hide (sums_le (k + 1) HR.out)
      obtain ⟨c0, c1, c2, c3⟩ := M
      have i1 : (k : Int) < (n : Int) := by omega
      have i2 : (0 : Int) ≤ (k : Int) := by omega
      have s0 := HS.out.c0
      have s1 := HS.out.c1
      have sf := HS.out.fz
      have z0 := HZ.out.c0
      have z1 := HZ.out.c1
      have zf := HZ.out.fz
      have hsz : w.heap.size + 2 < wr.heap.size := HS.out.lt
      obtain ⟨p, ep⟩ : ∃ p, p = A.base - downs (A.hs.take k) := ⟨_, rfl⟩
      obtain ⟨q, eq⟩ : ∃ q, q = A.base + ups (A.hs.take k) := ⟨_, rfl⟩
      rw [← ep] at s0
      rw [← eq] at s1
      rw [← ep, ← eq] at HI
      have EP := hide ep
      have EQ := hide eq
      clear hx hl ep eq
      by_cases g : I64 (p - x.dn) ∧ I64 (q + x.up)
      · have C1 := fun W => hide (sub_yes p x.dn W HI.out.1.1 HI.out.1.2 HXW.out.dn.1 HXW.out.dn.2 g.1.1 g.1.2)
        have C2 := fun W => hide (add_yes q x.up W HI.out.2.1 HI.out.2.2 HXW.out.up.1 HXW.out.up.2 g.2.1 g.2.2)
        have G := hide g
        clear g
        go_wp2_with (first | (go_at_call 144; refine (C1 _).out.mono ?_; rintro e w' ⟨rfl, hw⟩; rw [hw]; clear hw) | (go_at_call 68; refine (C2 _).out.mono ?_; rintro e w' ⟨rfl, hw⟩; rw [hw]; clear hw))
        go_roundw
        case rel =>
          have e1 : A.base - downs (A.hs.take (k + 1)) = p - x.dn := by have := HX.out.2; have := EP.out; omega
          have e2 : A.base + ups (A.hs.take (k + 1)) = q + x.up := by have := HX.out.1; have := EQ.out; omega
          refine ⟨k + 1, by omega, by go_num, ?_, ?_, ?_, ?_, ?_⟩
          · exact ((HB.out.setCell (p := ⟨w.heap.size + 2, 0, none⟩) (show w.heap.size ≤ w.heap.size + 2 by omega) _).setCell (p := ⟨w.heap.size + 2, 1, none⟩) (show w.heap.size ≤ w.heap.size + 2 by omega) _).alloc (by simp; omega) _
          · exact (Ab.far2 (b' := w.heap.size + 2) HA.out (by omega)).below (by go_grown)
          · exact (Sb.far (b' := w.heap.size + 2) HZ.out (by omega)).below (by go_grown)
          · rw [e1, e2]
            exact (Sb.put HS.out _ _).below (by go_grown)
          · rw [e1, e2]; exact G.out
        case measure => simp [intOf]; omega
      · have HE : Hid (rb = false) := by
          show _ = _
          rw [EB.out]
          unfold reachB
          rw [decide_eq_false]
          intro hh
          refine g ?_
          have := HX.out; have := HLE.out; have := HXP.out; have := EP.out; have := EQ.out; have := HI.out
          unfold I64 at *
          omega
        have HL0 : Hid (rl = 0) := by show _ = _; rw [EL.out]; unfold reachL; rw [← EB.out, HE.out]; rfl
        have HH0 : Hid (rh = 0) := by show _ = _; rw [EH.out]; unfold reachH; rw [← EB.out, HE.out]; rfl
        have FIN : ∀ (W : World), Below wr.heap.size wr W → Hid (Below w.heap.size w W) := fun W hW => HB.out.trans (hW.mono HB.out.size)
        by_cases g1 : I64 (p - x.dn)
        · have g2 : q + x.up < -9223372036854775808 ∨ 9223372036854775807 < q + x.up := by
            by_cases g3 : I64 (q + x.up)
            · exact absurd ⟨g1, g3⟩ g
            · unfold I64 at g3; omega
          have C1 := fun W => hide (sub_yes p x.dn W HI.out.1.1 HI.out.1.2 HXW.out.dn.1 HXW.out.dn.2 g1.1 g1.2)
          have C2 := fun W => hide (add_no q x.up W HI.out.2.1 HI.out.2.2 HXW.out.up.1 HXW.out.up.2 g2.symm)
          clear g g1 g2
          go_wp2_with (first | (go_at_call 144; refine (C1 _).out.mono ?_; rintro e w' ⟨rfl, hw⟩; rw [hw]; clear hw) | (go_at_call 68; refine (C2 _).out.mono ?_; rintro e w' ⟨rfl, hw⟩; rw [hw]; clear hw) | (refine wpList_store_row rfl 23 (.tmp 2) (.tmp 45) rfl (w.heap.size + 1) #[.int .i64 0, .int .i64 0] rfl rfl 23 #[.int .i64 0, .int .i64 0] (HZ.out.below (Below.alloc (Below.refl _ _) (Nat.le_refl _) _)).row span_info rfl (by simp [Value.oneCell']) ?_))
          refine bodyPost_ret (v := .tuple #[.agg #[.int .i64 0, .int .i64 0], .bool false]) (results_cell_tmp' rfl _ _ (w.heap.size + 1) 23 #[.int .i64 0, .int .i64 0] (0, 0) _ (.bool false) rfl rfl (setRow_heap _ _ _ _ _ _ (HZ.out.below (Below.alloc (Below.refl _ _) (Nat.le_refl _) _)).row) Try.underlying23 rfl span_info) rfl ?_
          exact ⟨by rw [HE.out, HL0.out, HH0.out], below_setRow (HB.out.alloc HB.out.size _) (Nat.le_succ _) _⟩
        · have g2 : p - x.dn < -9223372036854775808 ∨ 9223372036854775807 < p - x.dn := by unfold I64 at g1; omega
          have C1 := fun W => hide (sub_no p x.dn W HI.out.1.1 HI.out.1.2 HXW.out.dn.1 HXW.out.dn.2 g2.symm)
          clear g1 g2
          by_cases g3 : I64 (q + x.up)
          · have C2 := fun W => hide (add_yes q x.up W HI.out.2.1 HI.out.2.2 HXW.out.up.1 HXW.out.up.2 g3.1 g3.2)
            clear g g3
            go_wp2_with (first | (go_at_call 144; refine (C1 _).out.mono ?_; rintro e w' ⟨rfl, hw⟩; rw [hw]; clear hw) | (go_at_call 68; refine (C2 _).out.mono ?_; rintro e w' ⟨rfl, hw⟩; rw [hw]; clear hw) | (refine wpList_store_row rfl 23 (.tmp 2) (.tmp 45) rfl (w.heap.size + 1) #[.int .i64 0, .int .i64 0] rfl rfl 23 #[.int .i64 0, .int .i64 0] (HZ.out.below (Below.alloc (Below.refl _ _) (Nat.le_refl _) _)).row span_info rfl (by simp [Value.oneCell']) ?_))
            refine bodyPost_ret (v := .tuple #[.agg #[.int .i64 0, .int .i64 0], .bool false]) (results_cell_tmp' rfl _ _ (w.heap.size + 1) 23 #[.int .i64 0, .int .i64 0] (0, 0) _ (.bool false) rfl rfl (setRow_heap _ _ _ _ _ _ (HZ.out.below (Below.alloc (Below.refl _ _) (Nat.le_refl _) _)).row) Try.underlying23 rfl span_info) rfl ?_
            exact ⟨by rw [HE.out, HL0.out, HH0.out], below_setRow (HB.out.alloc HB.out.size _) (Nat.le_succ _) _⟩
          · have g4 : q + x.up < -9223372036854775808 ∨ 9223372036854775807 < q + x.up := by unfold I64 at g3; omega
            have C2 := fun W => hide (add_no q x.up W HI.out.2.1 HI.out.2.2 HXW.out.up.1 HXW.out.up.2 g4.symm)
            clear g g3 g4
            go_wp2_with (first | (go_at_call 144; refine (C1 _).out.mono ?_; rintro e w' ⟨rfl, hw⟩; rw [hw]; clear hw) | (go_at_call 68; refine (C2 _).out.mono ?_; rintro e w' ⟨rfl, hw⟩; rw [hw]; clear hw) | (refine wpList_store_row rfl 23 (.tmp 2) (.tmp 45) rfl (w.heap.size + 1) #[.int .i64 0, .int .i64 0] rfl rfl 23 #[.int .i64 0, .int .i64 0] (HZ.out.below (Below.alloc (Below.refl _ _) (Nat.le_refl _) _)).row span_info rfl (by simp [Value.oneCell']) ?_))
            refine bodyPost_ret (v := .tuple #[.agg #[.int .i64 0, .int .i64 0], .bool false]) (results_cell_tmp' rfl _ _ (w.heap.size + 1) 23 #[.int .i64 0, .int .i64 0] (0, 0) _ (.bool false) rfl rfl (setRow_heap _ _ _ _ _ _ (HZ.out.below (Below.alloc (Below.refl _ _) (Nat.le_refl _) _)).row) Try.underlying23 rfl span_info) rfl ?_
            exact ⟨by rw [HE.out, HL0.out, HH0.out], below_setRow (HB.out.alloc HB.out.size _) (Nat.le_succ _) _⟩
    · obtain rfl : k = n := by omega
      have HT : A.hs.take k = A.hs := List.take_of_length_le (by omega)
      rw [HT] at HS HI
      have HE : Hid (rb = true) := by show _ = _; rw [EB.out]; unfold reachB; exact decide_eq_true HI.out
      have HL0 : Hid (rl = A.base - downs A.hs) := by show _ = _; rw [EL.out]; unfold reachL; rw [← EB.out, HE.out, if_pos rfl]
      have HH0 : Hid (rh = A.base + ups A.hs) := by show _ = _; rw [EH.out]; unfold reachH; rw [← EB.out, HE.out, if_pos rfl]
      have s0 := HS.out.c0
      have s1 := HS.out.c1
      have sf := HS.out.fz
      have z0 := HZ.out.c0
      have z1 := HZ.out.c1
      have zf := HZ.out.fz
      clear HT
      go_wp2_with fail
      refine bodyPost_ret (v := .tuple #[.agg #[.int .i64 (A.base - downs A.hs), .int .i64 (A.base + ups A.hs)], .bool true]) (results_cell_tmp' rfl _ _ (w.heap.size + 1) 23 #[.int .i64 (A.base - downs A.hs), .int .i64 (A.base + ups A.hs)] (0, 0) _ (.bool true) rfl rfl (HZ.out.put _ _).row Try.underlying23 rfl span_info) rfl ?_
      exact ⟨by rw [HE.out, HL0.out, HH0.out], (HB.out.setCell (p := ⟨w.heap.size + 1, 0, none⟩) (show w.heap.size ≤ w.heap.size + 1 by omega) _).setCell (p := ⟨w.heap.size + 1, 1, none⟩) (show w.heap.size ≤ w.heap.size + 1 by omega) _⟩
end Go.Proofs.Ytjcbhgkfbilifaa
