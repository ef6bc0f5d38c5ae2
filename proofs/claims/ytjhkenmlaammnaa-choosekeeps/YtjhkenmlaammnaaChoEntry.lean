/- What best, entry and greatest of package choose return. No condition. -/
import Derived.Test.YtjhkenmlaammnaaChoBest
namespace Go.Proofs.Ytjhkenmlaammnaa
open Go.ChangeShapes Go.WideShapes Go.ChangeAt Go.RowKit Go.Shelf B8 Am Cz
set_option linter.unusedVariables false

set_option maxRecDepth 100000 in
theorem bclone_big {w : World} {a : Option Addr} {m cp : Nat} {b : List Int} (q : Sq w a m cp b) (hm : m ≤ 140737488351232) :
    Calls Try.prog 60 #[.slice a m cp] w fun e w' => ∃ a' c', e = .returned (.slice a' m c') ∧ Below w.heap.size w w' ∧ w'.ownsRow w.heap.size 5 1 (.slice a' m c') m (B8.vals b) := by
  obtain ⟨i0, hi, hz0, hz1, hz2⟩ := info_parts B8.info
  cases a with
  | none =>
    obtain rfl : cp = 0 := q.nil rfl
    obtain rfl : m = 0 := by have := q.lecap; omega
    obtain rfl : b = [] := List.eq_nil_of_length_eq_zero q.length
    clear q
    have qT : ∀ (w : World) (a : Option Addr) (n c n' c' : Nat), (binOp .eql 37 (.slice a n c) (.slice none n' c')).run Try.prog w = .ok (.bool a.isNone) w := fun w a n c n' c' => Lib.run_eql_slice_nil w _ _ a n c n' c' Try.underlying37
    go_enter Try.func60, Try.ntmps60
    go_wp2_with fail
    go_ret
    exact ⟨none, 0, rfl, Below.refl _ _, World.ownsRow_nil _ _ _ _⟩
  | some ad =>
    have HC : Hid (∀ j u, (B8.vals b)[j]? = some u → (w.alloc (.cells #[] 5)).cell? (ad.add j) = some u) := fun j u hu => by
      have hj : j < m := by have := (List.getElem?_eq_some_iff.1 hu).1; simp [B8.vals] at this; rw [q.length] at this; exact this
      obtain ⟨bb, off, e, hc⟩ := q.cells (by omega)
      cases e
      have h1 := hc j hj
      rw [Addr.add_lit, World.cell?_alloc_lt w _ _ (World.block_lt_of_cell? w _ h1), h1, ← hu]
      have : j < b.length := by rw [q.length]; exact hj
      simp [B8.vals, this]
    have HL : Hid ((B8.vals b).length = m * 1) := by show _ = _; simp [B8.vals, q.length]
    have H1 : Hid (∀ u ∈ B8.vals b, u.oneCell' = true) := fun u hu => by
      obtain ⟨x, _, rfl⟩ := List.mem_map.1 hu
      rfl
    clear q
    have qT : ∀ (w : World) (a : Option Addr) (n c n' c' : Nat), (binOp .eql 37 (.slice a n c) (.slice none n' c')).run Try.prog w = .ok (.bool a.isNone) w := fun w a n c n' c' => Lib.run_eql_slice_nil w _ _ a n c n' c' Try.underlying37
    go_enter Try.func60, Try.ntmps60
    go_wp2_with (at_builtin; refine wpList_append_own _ rfl (.tmp 5) (.tmp 6) 37 rfl w.heap.size 5 i0 (.int .u8 0) 1 1 Try.underlying37 hi hz0 hz1 hz2 (by rfl) (by omega) (.slice (some ⟨w.heap.size, 0, none⟩) 0 0) 0 [] rfl (World.ownsRow_made w #[] 0 (Nat.le_refl _) (by unfold maxLen; omega) (by simp)) ad m cp (B8.vals b) rfl HL.out HC.out H1.out (by unfold maxLen; omega) (by omega) (by simp) ?_; intro v' w1 ho hg _; have HO := hide ho; have HG := hide hg; clear ho hg)
    go_ret
    have ho := HO.out
    simp only [Nat.zero_add, List.nil_append] at ho
    have ho' := ho
    obtain ⟨_, ⟨rfl, e⟩ | ⟨G, C, cur, rfl, _⟩⟩ := ho
    · subst e
      exact ⟨none, 0, rfl, below_row HG.out, ho'⟩
    · exact ⟨_, _, rfl, below_row HG.out, ho'⟩

set_option maxRecDepth 100000 in
theorem cbest_any {w : World} {a : Option Addr} {m c : Nat} {l : List Vv} (h : Vs w a m l) {p : Vv} {is : Bool} (hp : (bestP l).getD dvv = p) (hi : (bestP l).isSome = is) :
    Calls Try.prog 31 #[.slice a m c] w fun e w' => e = .returned (.tuple #[.agg #[.int .i64 p.s, .int .i64 p.r, .int .i64 p.n, .slice p.a p.m p.cp], .bool is]) ∧ Below w.heap.size w w' := by
  have C := hide (best_v (c := c) (h.below (below_alloc (Below.refl w.heap.size w) (.cells #[.int .i64 0, .int .i64 0, .int .i64 0, .slice none 0 0] 45))))
  rw [hp, hi] at C
  clear h
  have N := hide (heap_alloc_new w (.cells #[.int .i64 0, .int .i64 0, .int .i64 0, .slice none 0 0] 45))
  go_enter Try.func31, Try.ntmps31
  go_wp2_with fail
  refine C.out.mono ?_
  rintro e w1 ⟨rfl, hb⟩
  have R : Hid (w1.heap[w.heap.size]? = some (.cells #[.int .i64 0, .int .i64 0, .int .i64 0, .slice none 0 0] 45 (0, 0))) := (hb.block _ (by simp)).trans N.out
  have B : Hid (Below w.heap.size w w1) := below_step (below_alloc (Below.refl _ _) _) hb
  have y0 : w1.cell? ⟨w.heap.size, 0, none⟩ = some (.int .i64 0) := by rw [cell_of_row _ _ _ _ _ _ R.out]; rfl
  have y1 : w1.cell? ⟨w.heap.size, 1, none⟩ = some (.int .i64 0) := by rw [cell_of_row _ _ _ _ _ _ R.out]; rfl
  have y2 : w1.cell? ⟨w.heap.size, 2, none⟩ = some (.int .i64 0) := by rw [cell_of_row _ _ _ _ _ _ R.out]; rfl
  have y3 : w1.cell? ⟨w.heap.size, 3, none⟩ = some (.slice none 0 0) := by rw [cell_of_row _ _ _ _ _ _ R.out]; rfl
  have fz : ∀ o, w1.frozen? ⟨w.heap.size, o, none⟩ = false := fun o => by simp [World.frozen?, R.out]
  clear hb
  go_wp2_with fail
  have K : Hid (((((w1.setCell ⟨w.heap.size, 0, none⟩ (.int .i64 p.s)).setCell ⟨w.heap.size, 1, none⟩ (.int .i64 p.r)).setCell ⟨w.heap.size, 2, none⟩ (.int .i64 p.n)).setCell ⟨w.heap.size, 3, none⟩ (.slice p.a p.m p.cp)).heap[w.heap.size]? = some (.cells #[.int .i64 p.s, .int .i64 p.r, .int .i64 p.n, .slice p.a p.m p.cp] 45 (0, 0))) := put_row (put_row (put_row (put_row R.out)))
  have BF := hide ((((B.out.setCell (p := ⟨w.heap.size, 0, none⟩) (Nat.le_refl _) (.int .i64 p.s)).setCell (p := ⟨w.heap.size, 1, none⟩) (Nat.le_refl _) (.int .i64 p.r)).setCell (p := ⟨w.heap.size, 2, none⟩) (Nat.le_refl _) (.int .i64 p.n)).setCell (p := ⟨w.heap.size, 3, none⟩) (Nat.le_refl _) (.slice p.a p.m p.cp))
  generalize ((((w1.setCell ⟨w.heap.size, 0, none⟩ (.int .i64 p.s)).setCell ⟨w.heap.size, 1, none⟩ (.int .i64 p.r)).setCell ⟨w.heap.size, 2, none⟩ (.int .i64 p.n)).setCell ⟨w.heap.size, 3, none⟩ (.slice p.a p.m p.cp)) = w2 at K BF ⊢
  have e0 : w2.cell? ⟨w.heap.size, 0, none⟩ = some (.int .i64 p.s) := by rw [cell_of_row _ _ _ _ _ _ K.out]; rfl
  have e1 : w2.cell? ⟨w.heap.size, 1, none⟩ = some (.int .i64 p.r) := by rw [cell_of_row _ _ _ _ _ _ K.out]; rfl
  have e2 : w2.cell? ⟨w.heap.size, 2, none⟩ = some (.int .i64 p.n) := by rw [cell_of_row _ _ _ _ _ _ K.out]; rfl
  have e3 : w2.cell? ⟨w.heap.size, 3, none⟩ = some (.slice p.a p.m p.cp) := by rw [cell_of_row _ _ _ _ _ _ K.out]; rfl
  clear y0 y1 y2 y3 fz
  refine bodyPost_ret (v := .tuple #[.agg #[.int .i64 p.s, .int .i64 p.r, .int .i64 p.n, .slice p.a p.m p.cp], .bool is]) ?r ?d ?_
  case r => simp [results, Try.results31, go_sem, e0, e1, e2, e3]
  case d => rfl
  exact ⟨rfl, BF.out⟩
set_option maxRecDepth 100000 in
theorem entry_any {w : World} {s r n slot : Int} {a : Option Addr} {m cp : Nat} {b : List Int} (q : Sq w a m cp b) (hm : m ≤ 140737488351232) :
    Calls Try.prog 32 #[.int .i64 slot, .agg #[.int .i64 s, .int .i64 r, .int .i64 n, .slice a m cp]] w fun e w' => ∃ a' c', e = .returned (.agg #[.int .i64 slot, .slice a' m c']) ∧ Below w.heap.size w w' ∧ Own w' w.heap.size ⟨slot, a', m, c', b⟩ := by
  obtain ⟨u, eu⟩ : ∃ u, u = (w.alloc (.cells #[.int .i64 s, .int .i64 r, .int .i64 n, .slice a m cp] 45)).alloc (.cells #[.int .i64 0, .slice none 0 0] 39) := ⟨_, rfl⟩
  have BU : Hid (Below w.heap.size w u) := by rw [eu]; exact below_alloc (below_alloc (Below.refl _ _) _) _
  have QS := hide (show wfs b ∧ b.length = m ∧ m ≤ 140737488351232 from ⟨q.wf, q.length, hm⟩)
  have C := hide (bclone_big (q.below BU.out) hm)
  have R1 : Hid (u.heap[w.heap.size + 1]? = some (.cells #[.int .i64 0, .slice none 0 0] 39 (0, 0))) := by
    show _ = _
    have := heap_alloc_new (w.alloc (.cells #[.int .i64 s, .int .i64 r, .int .i64 n, .slice a m cp] 45)) (.cells #[.int .i64 0, .slice none 0 0] 39)
    rw [eu]
    simpa using this
  have SU : Hid (u.heap.size = w.heap.size + 2) := by show _ = _; rw [eu]; simp
  clear q
  have EU := hide eu
  rw [eu] at C
  clear eu
  go_enter Try.func32, Try.ntmps32
  go_wp2_with fail
  refine C.out.mono ?_
  rintro e w1 ⟨a', c', rfl, hb1, hr1⟩
  rw [← EU.out] at hb1 hr1
  have k1 : Hid (w1.heap[w.heap.size + 1]? = some (.cells #[.int .i64 0, .slice none 0 0] 39 (0, 0))) := (hb1.block _ (by rw [SU.out]; omega)).trans R1.out
  have BW : Hid (Below w.heap.size w w1) := below_step BU.out hb1
  have ROW := hide hr1
  have b0 : w1.cell? ⟨w.heap.size + 1, 0, none⟩ = some (.int .i64 0) := by rw [cell_of_row _ _ _ _ _ _ k1.out]; rfl
  have b1 : w1.cell? ⟨w.heap.size + 1, 1, none⟩ = some (.slice none 0 0) := by rw [cell_of_row _ _ _ _ _ _ k1.out]; rfl
  have f1 : ∀ o, w1.frozen? ⟨w.heap.size + 1, o, none⟩ = false := fun o => by simp [World.frozen?, k1.out]
  clear hb1 hr1
  go_wp2_with fail
  have K : Hid (((w1.setCell ⟨w.heap.size + 1, 0, none⟩ (.int .i64 slot)).setCell ⟨w.heap.size + 1, 1, none⟩ (.slice a' m c')).heap[w.heap.size + 1]? = some (.cells #[.int .i64 slot, .slice a' m c'] 39 (0, 0))) := put_row (put_row k1.out)
  refine bodyPost_ret (v := .agg #[.int .i64 slot, .slice a' m c']) ?r ?d ?_
  case r => exact results_cell_row rfl _ _ (w.heap.size + 1) 39 #[.int .i64 slot, .slice a' m c'] (0, 0) _ rfl K.out Try.underlying39 rfl (by kernel_rfl)
  case d => rfl
  have BF : Below w.heap.size w ((w1.setCell ⟨w.heap.size + 1, 0, none⟩ (.int .i64 slot)).setCell ⟨w.heap.size + 1, 1, none⟩ (.slice a' m c')) :=
    (BW.out.setCell (p := ⟨w.heap.size + 1, 0, none⟩) (Nat.le_succ _) _).setCell (p := ⟨w.heap.size + 1, 1, none⟩) (Nat.le_succ _) _
  refine ⟨a', c', rfl, BF, QS.out, ?_⟩
  have hr := ROW.out
  rw [SU.out] at hr
  refine row_base (row_same hr (fun k hk => ?_)) (by omega)
  have hk2 := (hr.lt k hk).1
  rw [Below.heap_setCell _ _ _ _ (by simp; omega), Below.heap_setCell _ _ _ _ (by simp; omega)]
theorem top_snoc (l : List Pp) (p : Pp) : topV ((l ++ [p]).map Pp.pr) = (p.l.map Vv.vt).foldl (fun t v => max t v.s) (topV (l.map Pp.pr)) := by
  unfold topV
  rw [List.map_append, List.flatMap_append, List.foldl_append]
  simp [Pp.pr]
set_option maxRecDepth 100000 in
set_option maxHeartbeats 1000000 in
theorem greatest_any {w : World} {a : Option Addr} {m c : Nat} {l : List Pp} (h : Ps w a m l) :
    Calls Try.prog 29 #[.slice a m c] w fun e w' => e = .returned (.int .i64 (topV (l.map Pp.pr))) ∧ Below w.heap.size w w' := by
  have H := hide h
  have rm := h.room
  clear h
  go_enter Try.func29, Try.ntmps29
  go_wp2_with fail
  go_loopw [3, 5, 7, 10] (fun t _ _ iv wr => ∃ (k : Nat), k ≤ m ∧ iv = .int .i64 k ∧ t = .int .i64 (topV ((l.take k).map Pp.pr)) ∧ Hid (Below w.heap.size w wr)) (fun _ _ _ iv _ => m - (intOf iv).toNat)
  case atStart => exact ⟨0, Nat.zero_le _, rfl, by simp [topV], Below.refl _ _⟩
  case round =>
    obtain ⟨k, hk, rfl, rfl, HB⟩ := hrel
    by_cases hlt : k < m
    · obtain ⟨b, off, p, rfl, hb, hp, hpl, c0, c1⟩ := (H.out.below HB.out).at hlt
      have TS : Hid (topV ((l.take (k + 1)).map Pp.pr) = (p.l.map Vv.vt).foldl (fun t v => max t v.s) (topV ((l.take k).map Pp.pr))) := by show _ = _; rw [take_snoc hp]; exact top_snoc _ _
      generalize topV ((l.take k).map Pp.pr) = t0 at *
      obtain ⟨u, eu⟩ : ∃ u, u = wr.alloc (.cells #[.int .i64 p.nd, .slice p.a p.m p.c] 36) := ⟨_, rfl⟩
      have BU : Hid (Below w.heap.size w u) := by rw [eu]; exact below_alloc HB.out _
      have RU : Hid (u.heap[wr.heap.size]? = some (.cells #[.int .i64 p.nd, .slice p.a p.m p.c] 36 (0, 0))) := by rw [eu]; exact heap_alloc_new wr _
      have EU := hide eu
      have VP := hide ((H.out.each p hpl).1.below BU.out)
      have rv := VP.out.room
      clear hp hpl hb eu
      go_upto_region 5 with fail
      rw [← EU.out]
      clear c0 c1 EU
      have x1 : u.cell? ⟨wr.heap.size, 1, none⟩ = some (.slice p.a p.m p.c) := by rw [cell_of_row _ _ _ _ _ _ RU.out]; rfl
      go_wp2_with fail
      go_loopw [3, 7, 17] (fun t _ iv wr => ∃ (j : Nat), j ≤ p.m ∧ iv = .int .i64 j ∧ t = .int .i64 (((p.l.take j).map Vv.vt).foldl (fun t v => max t v.s) t0) ∧ Hid (Below u.heap.size u wr)) (fun _ _ iv _ => p.m - (intOf iv).toNat)
      case atStart => exact ⟨0, Nat.zero_le _, rfl, by simp, Below.refl _ _⟩
      case round =>
        obtain ⟨j, hj, rfl, rfl, HJ⟩ := hrel
        by_cases hlj : j < p.m
        · obtain ⟨b', off', q, e', hb', hq, hql, d0, d1, d2, d3⟩ := (VP.out.below HJ.out).at hlj
          have TJ : Hid (((p.l.take (j + 1)).map Vv.vt).foldl (fun t v => max t v.s) t0 = max (((p.l.take j).map Vv.vt).foldl (fun t v => max t v.s) t0) q.s) := by
            show _ = _
            rw [take_snoc hq, List.map_append, List.foldl_append]
            rfl
          have BJ : Hid (Below u.heap.size u (wr.alloc (.cells #[.int .i64 q.s, .int .i64 q.r, .int .i64 q.n, .slice q.a q.m q.cp] 45))) := below_alloc HJ.out _
          generalize ((p.l.take j).map Vv.vt).foldl (fun t v => max t v.s) t0 = t1 at *
          clear hb' hq hql
          rw [e'] at *
          by_cases hm : t1 < q.s
          · go_wp2_with fail
            all_goals
              go_roundw
              case rel => exact ⟨j + 1, by omega, by go_num, by rw [TJ.out]; first | rfl | (congr 1; omega), BJ⟩
              case measure => simp [intOf]; omega
          · go_wp2_with fail
            all_goals
              go_roundw
              case rel => exact ⟨j + 1, by omega, by go_num, by rw [TJ.out]; first | rfl | (congr 1; omega), BJ⟩
              case measure => simp [intOf]; omega
        · obtain rfl : j = p.m := by omega
          rw [List.take_of_length_le (by rw [VP.out.len]; exact Nat.le_refl _)]
          have BF := hide (below_step BU.out HJ.out)
          go_wp2_with fail
          go_roundw
          case rel => exact ⟨k + 1, by omega, by go_num, by rw [TS.out], BF⟩
          case measure => simp [intOf]; omega
    · obtain rfl : k = m := by omega
      rw [List.take_of_length_le (by rw [H.out.len]; exact Nat.le_refl _)]
      go_wp2_with fail
      go_ret
      exact ⟨rfl, HB.out⟩
end Go.Proofs.Ytjhkenmlaammnaa
