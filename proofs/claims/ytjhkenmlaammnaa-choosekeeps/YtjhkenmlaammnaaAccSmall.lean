/- The small functions: ballots, what may be a vote, a vote of one's own, a new acceptor. No condition but a size. -/
import Derived.Test.YtjhkenmlaammnaaAccMem
import Derived.Test.YtjhkenmlaammnaaHeld
import Derived.Laws.AppendOwn
import Derived.Lib.SliceRun
import Derived.Handy
namespace Go.Proofs.Ytjhkenmlaammnaa
open Go.ChangeShapes Go.WideShapes Go.ChangeAt Go.RowKit B8 Am
set_option linter.unusedVariables false

theorem voteinfo : (Try.prog.info? 45).map (fun i => (i.zero, i.size, i.bytes)) = some (some zvote, 4, 48) := by kernel_rfl
theorem votesize : Try.prog.cellsOf 45 = 4 := by kernel_rfl
theorem below_row {w w1 : World} {T : TypeId} (hg : (w.alloc (.cells #[] T)).grownBy w1 (some w.heap.size)) : Below w.heap.size w w1 :=
  ⟨hg.os, hg.tape, hg.output, Nat.le_trans (by simp) hg.size, fun k hk => (hg.block k (by simp; omega) (by simp; omega)).trans (Below.heap_alloc _ _ _ hk)⟩

theorem set_row {w : World} {b c o : Nat} {u : Value} {cs : Array Value} {t : TypeId} (h : w.heap[b]? = some (.cells cs t (0, 0))) (e : c ≠ b) : (w.setCell ⟨c, o, none⟩ u).heap[b]? = some (.cells cs t (0, 0)) := by
  simp [World.setCell, Array.getElem?_modify, h, e]
theorem put_row {w : World} {b o : Nat} {u : Value} {cs : Array Value} {t : TypeId} (h : w.heap[b]? = some (.cells cs t (0, 0))) : (w.setCell ⟨b, o, none⟩ u).heap[b]? = some (.cells (cs.setIfInBounds o u) t (0, 0)) := by
  simp [World.setCell, Array.getElem?_modify, h]
theorem row_base {w : World} {B B' T n sz : Nat} {v : Value} {xs : List Value} (h : w.ownsRow B T sz v n xs) (hb : B' ≤ B) : w.ownsRow B' T sz v n xs := by
  obtain ⟨hl, h | ⟨g, cp, cur, h1, h2, h3⟩⟩ := h
  · exact ⟨hl, .inl h⟩
  · exact ⟨hl, .inr ⟨g, cp, cur, h1, Nat.le_trans hb h2, h3⟩⟩
theorem may_any (r n : Int) (w : World) :
    Calls Try.prog 49 #[.agg #[.int .i64 r, .int .i64 n]] w fun e w' => e = .returned (.bool (mayB r n)) ∧ w' = w.alloc (.cells #[.int .i64 r, .int .i64 n] 43) := by
  by_cases h1 : 1 ≤ r
  · by_cases h2 : 1 ≤ n
    · rw [show mayB r n = true from decide_eq_true ⟨h1, h2⟩]
      go_enter Try.func49, Try.ntmps49
      go_wp2
      go_ret
      exact ⟨rfl, rfl⟩
    · rw [show mayB r n = false from decide_eq_false (fun x => h2 x.2)]
      go_enter Try.func49, Try.ntmps49
      go_wp2
      go_ret
      exact ⟨rfl, rfl⟩
  · rw [show mayB r n = false from decide_eq_false (fun x => h1 x.1)]
    go_enter Try.func49, Try.ntmps49
    go_wp2
    go_ret
    exact ⟨rfl, rfl⟩
theorem less_any (a b c d : Int) (w : World) :
    Calls Try.prog 19 #[.agg #[.int .i64 a, .int .i64 b], .agg #[.int .i64 c, .int .i64 d]] w fun e w' => e = .returned (.bool (lessB a b c d)) ∧ w' = (w.alloc (.cells #[.int .i64 a, .int .i64 b] 43)).alloc (.cells #[.int .i64 c, .int .i64 d] 43) := by
  by_cases h : a = c
  · subst h
    have e : lessB a b a d = decide (b < d) := by unfold lessB; simp
    rw [e]
    go_enter Try.func19, Try.ntmps19
    go_wp2
    go_ret
    exact ⟨rfl, rfl⟩
  · have e : lessB a b c d = decide (a < c) := by unfold lessB; simp [h]
    rw [e]
    go_enter Try.func19, Try.ntmps19
    go_wp2
    go_ret
    exact ⟨rfl, rfl⟩
theorem less_lit {a b c d : Int} {x : Bool} (h : lessB a b c d = x) (w : World) :
    Calls Try.prog 19 #[.agg #[.int .i64 a, .int .i64 b], .agg #[.int .i64 c, .int .i64 d]] w fun e w' => e = .returned (.bool x) ∧ Below w.heap.size w w' :=
  h ▸ (less_any a b c d w).mono fun e w' ⟨he, hw⟩ => ⟨he, by rw [hw]; exact below_alloc (below_alloc (Below.refl _ _) _) _⟩
theorem rless_any (a b c d : Int) (w : World) :
    Calls Try.prog 34 #[.agg #[.int .i64 a, .int .i64 b], .agg #[.int .i64 c, .int .i64 d]] w fun e w' => e = .returned (.bool (lessB a b c d)) ∧ w' = (w.alloc (.cells #[.int .i64 a, .int .i64 b] 43)).alloc (.cells #[.int .i64 c, .int .i64 d] 43) := by
  by_cases h : a = c
  · subst h
    have e : lessB a b a d = decide (b < d) := by unfold lessB; simp
    rw [e]
    go_enter Try.func34, Try.ntmps34
    go_wp2
    go_ret
    exact ⟨rfl, rfl⟩
  · have e : lessB a b c d = decide (a < c) := by unfold lessB; simp [h]
    rw [e]
    go_enter Try.func34, Try.ntmps34
    go_wp2
    go_ret
    exact ⟨rfl, rfl⟩
theorem fits_any (p : Vv) (hb : p.b.length = p.m) (w : World) :
    Calls Try.prog 51 #[p.val] w fun e w' => e = .returned (.bool (fitsB p.vt)) ∧ Below w.heap.size w w' := by
  unfold Vv.val
  have C := hide (fun w => may_any p.r p.n w)
  cases hm : mayB p.r p.n
  · have e : fitsB p.vt = false := by simp [fitsB, Vv.vt, hm]
    rw [e]
    rw [hm] at C
    clear e hm
    go_enter Try.func51, Try.ntmps51
    go_wp2_with fail
    refine (C.out _).mono ?_
    rintro e w' ⟨rfl, rfl⟩
    go_wp2_with fail
    go_ret
    exact ⟨rfl, below_alloc (below_alloc (Below.refl _ _) _) _⟩
  · have e : fitsB p.vt = decide (p.m ≤ 2048) := by simp [fitsB, Vv.vt, hm, hb]
    rw [e]
    rw [hm] at C
    clear e hm
    by_cases h : p.m ≤ 2048
    · have h1 : (p.m : Int) ≤ 2048 := by omega
      rw [decide_eq_true h]
      go_enter Try.func51, Try.ntmps51
      go_wp2_with fail
      refine (C.out _).mono ?_
      rintro e w' ⟨rfl, rfl⟩
      go_wp2_with fail
      go_ret
      exact ⟨by simp, below_alloc (below_alloc (Below.refl _ _) _) _⟩
    · have h1 : ¬ (p.m : Int) ≤ 2048 := by omega
      rw [decide_eq_false h]
      go_enter Try.func51, Try.ntmps51
      go_wp2_with fail
      refine (C.out _).mono ?_
      rintro e w' ⟨rfl, rfl⟩
      go_wp2_with fail
      go_ret
      exact ⟨by simp; omega, below_alloc (below_alloc (Below.refl _ _) _) _⟩
theorem end_any {w : World} {A : Nat} {f : Int} (c2 : w.cell? ⟨A, 2, none⟩ = some (.int .i64 f)) (h1 : 1 ≤ f) (h2 : f ≤ 1099511627776) :
    Calls Try.prog 52 #[.pointer (some ⟨A, 0, none⟩)] w fun e w' => e = .returned (.int .i64 (f + 16)) ∧ w' = w := by
  go_enter Try.func52, Try.ntmps52
  go_wp2_with fail
  go_ret
  exact ⟨by go_num, rfl⟩
set_option maxRecDepth 100000 in
theorem bclone_any {w : World} {a : Option Addr} {m cp : Nat} {b : List Int} (q : Sq w a m cp b) (hm : m ≤ 2048) :
    Calls Try.prog 60 #[.slice a m cp] w fun e w' => ∃ a' c', e = .returned (.slice a' m c') ∧ Below w.heap.size w w' ∧ w'.ownsRow w.heap.size 5 1 (.slice a' m c') m (B8.vals b) := by
  obtain ⟨i0, hi, hz0, hz1, hz2⟩ := info_parts B8.info
  cases a with
  | none =>
    obtain rfl : cp = 0 := q.nil rfl
    obtain rfl : m = 0 := by have := q.lecap; omega
    obtain rfl : b = [] := List.eq_nil_of_length_eq_zero q.length
    clear q
    have qT : ∀ (w : World) (a : Option Addr) (n c n' c' : Nat), (binOp .eql 37 (.slice a n c) (.slice none n' c')).run Try.prog w = .ok (.bool a.isNone) w := fun w a n c n' c' => Lib.run_eql_slice_nil w _ _ a n c n' c' Try.underlying37
    go_enter Try.func60, Try.ntmps60
    go_wp2_with fail
    go_ret
    exact ⟨none, 0, rfl, Below.refl _ _, World.ownsRow_nil _ _ _ _⟩
  | some ad =>
    have HC : Hid (∀ j u, (B8.vals b)[j]? = some u → (w.alloc (.cells #[] 5)).cell? (ad.add j) = some u) := fun j u hu => by
      have hj : j < m := by have := (List.getElem?_eq_some_iff.1 hu).1; simp [B8.vals] at this; rw [q.length] at this; exact this
      obtain ⟨bb, off, e, hc⟩ := q.cells (by omega)
      cases e
      have h1 := hc j hj
      rw [Addr.add_lit, World.cell?_alloc_lt w _ _ (World.block_lt_of_cell? w _ h1), h1, ← hu]
      have : j < b.length := by rw [q.length]; exact hj
      simp [B8.vals, this]
    have HL : Hid ((B8.vals b).length = m * 1) := by show _ = _; simp [B8.vals, q.length]
    have H1 : Hid (∀ u ∈ B8.vals b, u.oneCell' = true) := fun u hu => by
      obtain ⟨x, _, rfl⟩ := List.mem_map.1 hu
      rfl
    clear q
    have qT : ∀ (w : World) (a : Option Addr) (n c n' c' : Nat), (binOp .eql 37 (.slice a n c) (.slice none n' c')).run Try.prog w = .ok (.bool a.isNone) w := fun w a n c n' c' => Lib.run_eql_slice_nil w _ _ a n c n' c' Try.underlying37
    go_enter Try.func60, Try.ntmps60
    go_wp2_with (at_builtin; refine wpList_append_own _ rfl (.tmp 5) (.tmp 6) 37 rfl w.heap.size 5 i0 (.int .u8 0) 1 1 Try.underlying37 hi hz0 hz1 hz2 (by rfl) (by omega) (.slice (some ⟨w.heap.size, 0, none⟩) 0 0) 0 [] rfl (World.ownsRow_made w #[] 0 (Nat.le_refl _) (by unfold maxLen; omega) (by simp)) ad m cp (B8.vals b) rfl HL.out HC.out H1.out (by unfold maxLen; omega) (by omega) (by simp) ?_; intro v' w1 ho hg _; have HO := hide ho; have HG := hide hg; clear ho hg)
    go_ret
    have ho := HO.out
    simp only [Nat.zero_add, List.nil_append] at ho
    have ho' := ho
    obtain ⟨_, ⟨rfl, e⟩ | ⟨G, C, cur, rfl, _⟩⟩ := ho
    · subst e
      exact ⟨none, 0, rfl, below_row HG.out, ho'⟩
    · exact ⟨_, _, rfl, below_row HG.out, ho'⟩
set_option maxRecDepth 100000 in
theorem own_any {w : World} {p : Vv} (q : Sq w p.a p.m p.cp p.b) (hm : p.m ≤ 2048) :
    Calls Try.prog 53 #[p.val] w fun e w' => ∃ a' c', e = .returned (Vv.val { p with a := a', cp := c' }) ∧ Below w.heap.size w w' ∧ w'.ownsRow w.heap.size 5 1 (.slice a' p.m c') p.m (B8.vals p.b) := by
  obtain ⟨u, eu⟩ : ∃ u, u = (w.alloc (.cells #[.int .i64 p.s, .int .i64 p.r, .int .i64 p.n, .slice p.a p.m p.cp] 45)).alloc (.cells #[.int .i64 0, .int .i64 0, .int .i64 0, .slice none 0 0] 45) := ⟨_, rfl⟩
  have BU : Hid (Below w.heap.size w u) := by rw [eu]; exact below_alloc (below_alloc (Below.refl _ _) _) _
  have C := hide (bclone_any (q.below BU.out) hm)
  have R0 : Hid (u.heap[w.heap.size]? = some (.cells #[.int .i64 p.s, .int .i64 p.r, .int .i64 p.n, .slice p.a p.m p.cp] 45 (0, 0))) := by
    show _ = _
    rw [eu, Below.heap_alloc _ _ _ (by simp), heap_alloc_new]
  have R1 : Hid (u.heap[w.heap.size + 1]? = some (.cells #[.int .i64 0, .int .i64 0, .int .i64 0, .slice none 0 0] 45 (0, 0))) := by
    show _ = _
    have := heap_alloc_new (w.alloc (.cells #[.int .i64 p.s, .int .i64 p.r, .int .i64 p.n, .slice p.a p.m p.cp] 45)) (.cells #[.int .i64 0, .int .i64 0, .int .i64 0, .slice none 0 0] 45)
    rw [eu]
    simpa using this
  have SU : Hid (u.heap.size = w.heap.size + 2) := by show _ = _; rw [eu]; simp
  unfold Vv.val
  clear q
  have EU := hide eu
  rw [eu] at C
  clear eu
  go_enter Try.func53, Try.ntmps53
  go_wp2_with fail
  refine C.out.mono ?_
  rintro e w1 ⟨a', c', rfl, hb1, hr1⟩
  rw [← EU.out] at hb1 hr1
  have B1 := hide hb1
  have ROW := hide hr1
  have k0 : Hid (w1.heap[w.heap.size]? = some (.cells #[.int .i64 p.s, .int .i64 p.r, .int .i64 p.n, .slice p.a p.m p.cp] 45 (0, 0))) := (hb1.block _ (by rw [SU.out]; omega)).trans R0.out
  have k1 : Hid (w1.heap[w.heap.size + 1]? = some (.cells #[.int .i64 0, .int .i64 0, .int .i64 0, .slice none 0 0] 45 (0, 0))) := (hb1.block _ (by rw [SU.out]; omega)).trans R1.out
  have a0 : w1.cell? ⟨w.heap.size, 0, none⟩ = some (.int .i64 p.s) := by rw [cell_of_row _ _ _ _ _ _ k0.out]; rfl
  have a1 : w1.cell? ⟨w.heap.size, 1, none⟩ = some (.int .i64 p.r) := by rw [cell_of_row _ _ _ _ _ _ k0.out]; rfl
  have a2 : w1.cell? ⟨w.heap.size, 2, none⟩ = some (.int .i64 p.n) := by rw [cell_of_row _ _ _ _ _ _ k0.out]; rfl
  have a3 : w1.cell? ⟨w.heap.size, 3, none⟩ = some (.slice p.a p.m p.cp) := by rw [cell_of_row _ _ _ _ _ _ k0.out]; rfl
  have b0 : w1.cell? ⟨w.heap.size + 1, 0, none⟩ = some (.int .i64 0) := by rw [cell_of_row _ _ _ _ _ _ k1.out]; rfl
  have b1 : w1.cell? ⟨w.heap.size + 1, 1, none⟩ = some (.int .i64 0) := by rw [cell_of_row _ _ _ _ _ _ k1.out]; rfl
  have b2 : w1.cell? ⟨w.heap.size + 1, 2, none⟩ = some (.int .i64 0) := by rw [cell_of_row _ _ _ _ _ _ k1.out]; rfl
  have b3 : w1.cell? ⟨w.heap.size + 1, 3, none⟩ = some (.slice none 0 0) := by rw [cell_of_row _ _ _ _ _ _ k1.out]; rfl
  have f0 : ∀ o, w1.frozen? ⟨w.heap.size, o, none⟩ = false := fun o => by simp [World.frozen?, k0.out]
  have f1 : ∀ o, w1.frozen? ⟨w.heap.size + 1, o, none⟩ = false := fun o => by simp [World.frozen?, k1.out]
  clear hb1 hr1
  go_wp2_with fail
  have ne : w.heap.size ≠ w.heap.size + 1 := by omega
  have K : Hid ((((((w1.setCell ⟨w.heap.size, 3, none⟩ (.slice a' p.m c')).setCell ⟨w.heap.size + 1, 0, none⟩ (.int .i64 p.s)).setCell ⟨w.heap.size + 1, 1, none⟩ (.int .i64 p.r)).setCell ⟨w.heap.size + 1, 2, none⟩ (.int .i64 p.n)).setCell ⟨w.heap.size + 1, 3, none⟩ (.slice a' p.m c')).heap[w.heap.size + 1]? = some (.cells #[.int .i64 p.s, .int .i64 p.r, .int .i64 p.n, .slice a' p.m c'] 45 (0, 0))) := put_row (put_row (put_row (put_row (set_row k1.out ne))))
  refine bodyPost_ret (v := .agg #[.int .i64 p.s, .int .i64 p.r, .int .i64 p.n, .slice a' p.m c']) ?r ?d ?_
  case r => exact results_cell_row rfl _ _ (w.heap.size + 1) 45 #[.int .i64 p.s, .int .i64 p.r, .int .i64 p.n, .slice a' p.m c'] (0, 0) _ rfl K.out Try.underlying45 rfl (by kernel_rfl)
  case d => rfl
  have BW : Below w.heap.size w w1 := below_step BU.out B1.out
  have BF : Below w.heap.size w (((((w1.setCell ⟨w.heap.size, 3, none⟩ (.slice a' p.m c')).setCell ⟨w.heap.size + 1, 0, none⟩ (.int .i64 p.s)).setCell ⟨w.heap.size + 1, 1, none⟩ (.int .i64 p.r)).setCell ⟨w.heap.size + 1, 2, none⟩ (.int .i64 p.n)).setCell ⟨w.heap.size + 1, 3, none⟩ (.slice a' p.m c')) :=
    ((((BW.setCell (p := ⟨w.heap.size, 3, none⟩) (Nat.le_refl _) _).setCell (p := ⟨w.heap.size + 1, 0, none⟩) (Nat.le_succ _) _).setCell (p := ⟨w.heap.size + 1, 1, none⟩) (Nat.le_succ _) _).setCell (p := ⟨w.heap.size + 1, 2, none⟩) (Nat.le_succ _) _).setCell (p := ⟨w.heap.size + 1, 3, none⟩) (Nat.le_succ _) _
  refine ⟨a', c', rfl, BF, ?_⟩
  have hr := ROW.out
  rw [SU.out] at hr
  refine row_base (row_same hr (fun k hk => ?_)) (by omega)
  have hk2 := (hr.lt k hk).1
  rw [Below.heap_setCell _ _ _ _ (by simp; omega), Below.heap_setCell _ _ _ _ (by simp; omega), Below.heap_setCell _ _ _ _ (by simp; omega), Below.heap_setCell _ _ _ _ (by simp; omega), Below.heap_setCell _ _ _ _ (by simp; omega)]
theorem new_any (w : World) :
    Calls Try.prog 20 #[] w fun e w' => e = .returned (.pointer (some ⟨w.heap.size + 1, 0, none⟩)) ∧ Below w.heap.size w w' ∧ ∀ P, Ac w' P (w.heap.size + 1) w.heap.size newS := by
  have mk : ∀ W : World, (Instr.makeMap 94 none).run Try.prog W = .ok (.map (some W.heap.size)) (W.alloc (.map #[] 0)) := fun W => by first | exact run_makeMap W | (simp [Instr.makeMap]; done)
  go_enter Try.func20, Try.ntmps20
  go_wp2_with fail
  go_ret
  have B : Below w.heap.size w ((w.alloc (.map #[] 0)).alloc (.cells #[.int .i64 0, .int .i64 0, .int .i64 1, .map (some w.heap.size)] 96)) := below_alloc (below_alloc (Below.refl _ _) _) _
  have R : ((w.alloc (.map #[] 0)).alloc (.cells #[.int .i64 0, .int .i64 0, .int .i64 1, .map (some w.heap.size)] 96)).heap[w.heap.size + 1]? = some (.cells #[.int .i64 0, .int .i64 0, .int .i64 1, .map (some w.heap.size)] 96 (0, 0)) := by
    have := heap_alloc_new (w.alloc (.map #[] 0)) (.cells #[.int .i64 0, .int .i64 0, .int .i64 1, .map (some w.heap.size)] 96)
    simpa using this
  exact ⟨rfl, B, fun P => ⟨R, ⟨[], (mp_new w).same (Below.heap_alloc _ _ _ (by simp)), rfl, fun p hp => absurd hp (by simp)⟩, ok_new⟩⟩
end Go.Proofs.Ytjhkenmlaammnaa
