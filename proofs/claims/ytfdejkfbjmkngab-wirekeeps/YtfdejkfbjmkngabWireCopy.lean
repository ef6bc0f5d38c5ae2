/- The law folder's CopyCommand. No condition but the size. -/
import Derived.Test.YtfdejkfbjmkngabWirePair
import Derived.Deep.Cut
namespace Go.Proofs.Ytfdejkfbjmkngab
open Go.ChangeShapes Go.WideShapes Go.ChangeAt Go.RowKit B8 Cm Wm
set_option linter.unusedVariables false

theorem vals_set {w : World} {P : Nat → Prop} {cs : Array Value} {xs : List Atom} {j : Nat} {x : Atom} {v : Value} (h : Vals w P cs xs) (hx : xs[j]? = some x) (hv : AtomV w P v x) : Vals w P (cs.setIfInBounds j v) xs := by
  refine ⟨by rw [Array.size_setIfInBounds]; exact h.1, fun i y hy => ?_⟩
  by_cases e : i = j
  · subst e
    rw [hx] at hy
    obtain rfl := Option.some.inj hy
    have hj : i < cs.size := by rw [h.1]; exact (List.getElem?_eq_some_iff.1 hx).1
    exact ⟨v, by rw [Array.getElem?_setIfInBounds_self_of_lt hj], hv⟩
  · obtain ⟨u, h1, h2⟩ := h.2 i y hy
    exact ⟨u, by rw [Array.getElem?_setIfInBounds_ne (fun e2 => e e2.symm)]; exact h1, h2⟩

theorem copyinfo : (Try.prog.info? 29).map (·.size) = some 25 := by kernel_rfl
set_option maxRecDepth 100000 in
set_option maxHeartbeats 1000000 in
theorem copy_command {w : World} {cs : Array Value} {xs : List Atom} (h : Vals w (fun b => b < w.heap.size) cs xs) (hk : xs.map Atom.k = [0, 0, 0, 0, 0, 0, 3, 0, 0, 0, 2, 0, 3, 3, 0, 0, 0, 0, 0, 0, 3, 3, 0, 0, 4]) :
    Calls Try.prog 15 #[.agg cs] w fun e w' => ∃ cs', e = .returned (.agg cs') ∧ Vals w' (fun b => b < w'.heap.size) cs' xs ∧ Below w.heap.size w w' := by
  obtain ⟨x, v, e1, e2, e3, e4⟩ := vals_at h hk (j := 24) (k := 4) rfl
  obtain ⟨a, n, cp, rfl, q, hn, _⟩ : ∃ a n cp, v = .slice a n cp ∧ Sq w a n cp x.bs ∧ n ≤ 140737488351232 ∧ ∀ b off, a = some ⟨b, off, none⟩ → 0 < n → b < w.heap.size := by
    rcases e4 with g | g | g | g | g
    · exact absurd e2 (by have := g.1; omega)
    · exact absurd e2 (by have := g.1; omega)
    · exact absurd e2 (by have := g.1; omega)
    · exact absurd e2 (by have := g.1; omega)
    · exact g.2
  obtain ⟨u, eu⟩ : ∃ u, u = (w.alloc (.cells cs 29)).alloc (.cells #[.int .i64 0, .int .i64 0, .int .i64 0, .int .i64 0, .int .i64 0, .int .i64 0, .string ⟨#[]⟩, .int .i64 0, .int .i64 0, .int .i64 0, .bool false, .int .i64 0, .string ⟨#[]⟩, .string ⟨#[]⟩, .int .i64 0, .int .i64 0, .int .i64 0, .int .i64 0, .int .i64 0, .int .i64 0, .string ⟨#[]⟩, .string ⟨#[]⟩, .int .i64 0, .int .i64 0, .slice none 0 0] 29) := ⟨_, rfl⟩
  have hb : Below w.heap.size w u := by rw [eu]; exact below_alloc (below_alloc (Below.refl _ _) _) _
  have hs : u.heap.size = w.heap.size + 2 := by rw [eu]; simp
  have r0 : u.heap[w.heap.size]? = some (.cells cs 29) := by rw [eu]; exact heap_alloc2_old w _ _
  have r1 : u.heap[w.heap.size + 1]? = some (.cells #[.int .i64 0, .int .i64 0, .int .i64 0, .int .i64 0, .int .i64 0, .int .i64 0, .string ⟨#[]⟩, .int .i64 0, .int .i64 0, .int .i64 0, .bool false, .int .i64 0, .string ⟨#[]⟩, .string ⟨#[]⟩, .int .i64 0, .int .i64 0, .int .i64 0, .int .i64 0, .int .i64 0, .int .i64 0, .string ⟨#[]⟩, .string ⟨#[]⟩, .int .i64 0, .int .i64 0, .slice none 0 0] 29) := by rw [eu]; exact heap_alloc2_new w _ _
  have c24 : u.cell? ⟨w.heap.size, 24, none⟩ = some (.slice a n cp) := by rw [cell_of_row _ _ _ _ _ _ r0]; exact e3
  have EU := hide eu.symm
  have hsz : cs.size = 25 := h.size_of hk
  have HB := hide hb
  have HS := hide hs
  have R0 := hide r0
  have R1 := hide r1
  have Q := hide (q.below hb)
  have H := hide (h.same (w1 := u) (P' := fun b => b < w.heap.size) fun b hl => ⟨hl, hb.block b hl⟩)
  have EX := hide e1
  have EK := hide e2
  clear h hk q hb hs r0 r1 e1 e2 e3 e4 eu
  go_enter Try.func15, Try.ntmps15
  go_upto_region 1 with fail
  rw [EU.out]
  clear EU
  go_upto_region 2 with (at_builtin; (refine wp_append_sq _ rfl (.const (.slice none 0 0)) (.tmp 4) rfl u.heap.size (.slice none 0 0) 0 [] rfl (World.ownsRow_nil _ _ _ _) a n cp x.bs rfl Q.out (by omega) (Nat.le_refl _) ?_; intro v' w1 hown hgrow; simp only [List.nil_append, Nat.zero_add] at hown; obtain ⟨a1, cp1, rfl, M⟩ := mine_of_row Q.out.length Q.out.wf hown; have HM := hide M; have HG := hide hgrow; have d24 : w1.cell? ⟨w.heap.size, 24, none⟩ = some (.slice a n cp) := HG.out.cell c24 (by simp [Value.ownBlock]); have f24 : w1.frozen? ⟨w.heap.size, 24, none⟩ = false := (World.frozen?_of_block (w := u) (HG.out.block w.heap.size (by rw [HS.out]; omega) (by simp [Value.ownBlock]))).trans (frozen_of_row _ _ _ _ _ R0.out); clear M hown hgrow))
  have q0 : w1.heap[w.heap.size]? = some (.cells cs 29) := (HG.out.block w.heap.size (by rw [HS.out]; omega) (by simp [Value.ownBlock])).trans R0.out
  have q1 : w1.heap[w.heap.size + 1]? = some (.cells #[.int .i64 0, .int .i64 0, .int .i64 0, .int .i64 0, .int .i64 0, .int .i64 0, .string ⟨#[]⟩, .int .i64 0, .int .i64 0, .int .i64 0, .bool false, .int .i64 0, .string ⟨#[]⟩, .string ⟨#[]⟩, .int .i64 0, .int .i64 0, .int .i64 0, .int .i64 0, .int .i64 0, .int .i64 0, .string ⟨#[]⟩, .string ⟨#[]⟩, .int .i64 0, .int .i64 0, .slice none 0 0] 29) := (HG.out.block (w.heap.size + 1) (by rw [HS.out]; omega) (by simp [Value.ownBlock])).trans R1.out
  have b1 : Below w.heap.size w w1 := HB.out.grown HG.out HB.out.size (fun k hk => by cases hk)
  obtain ⟨w2, e2⟩ : ∃ w2, w2 = w1.setCell ⟨w.heap.size, 24, none⟩ (.slice a1 n cp1) := ⟨_, rfl⟩
  have p0 : w2.heap[w.heap.size]? = some (.cells (cs.setIfInBounds 24 (.slice a1 n cp1)) 29) := by rw [e2]; exact heap_setCell_same w1 w.heap.size 24 cs _ _ q0
  have p1 : w2.heap[w.heap.size + 1]? = some (.cells #[.int .i64 0, .int .i64 0, .int .i64 0, .int .i64 0, .int .i64 0, .int .i64 0, .string ⟨#[]⟩, .int .i64 0, .int .i64 0, .int .i64 0, .bool false, .int .i64 0, .string ⟨#[]⟩, .string ⟨#[]⟩, .int .i64 0, .int .i64 0, .int .i64 0, .int .i64 0, .int .i64 0, .int .i64 0, .string ⟨#[]⟩, .string ⟨#[]⟩, .int .i64 0, .int .i64 0, .slice none 0 0] 29) := by rw [e2, Below.heap_setCell _ _ _ _ (by show w.heap.size + 1 ≠ w.heap.size; omega)]; exact q1
  have b2 : Below w.heap.size w w2 := by rw [e2]; exact b1.setCell (Nat.le_refl _) _
  have hz : w2.heap.size = w1.heap.size := by rw [e2]; simp [World.setCell]
  have hnew : ∀ b, u.heap.size ≤ b → w2.heap[b]? = w1.heap[b]? := fun b hb => by rw [e2]; exact Below.heap_setCell _ _ _ _ (by rw [HS.out] at hb; show b ≠ w.heap.size; omega)
  have v2 : Vals w2 (fun b => b ≠ w.heap.size + 1 ∧ b < w2.heap.size) (cs.setIfInBounds 24 (.slice a1 n cp1)) xs := by
    refine vals_set (x := x) (H.out.same fun b hl => ⟨⟨by omega, by have := b2.size; omega⟩, (b2.block b hl).trans (HB.out.block b hl).symm⟩) EX.out (.inr (.inr (.inr (.inr ⟨EK.out, a1, n, cp1, rfl, sq_same HM.out.sq (fun b off e h0 => ?_), hn, fun b off e h0 => ?_⟩))))
    · obtain ⟨g, cur, g1, g2, g3, _⟩ := HM.out.2 _ e
      cases g1
      exact hnew b g2
    · obtain ⟨g, cur, g1, g2, g3, _⟩ := HM.out.2 _ e
      cases g1
      refine ⟨by rw [HS.out] at g2; omega, ?_⟩
      rw [hz]
      rcases Nat.lt_or_ge b w1.heap.size with h | h
      · exact h
      · rw [Array.getElem?_eq_none h] at g3; cases g3
  have INF : Hid ((Try.prog.info? 29).map (·.size) = some (cs.setIfInBounds 24 (.slice a1 n cp1)).size) := by show _ = _; rw [Array.size_setIfInBounds, hsz]; exact copyinfo
  have SZC : Hid ((#[.int .i64 0, .int .i64 0, .int .i64 0, .int .i64 0, .int .i64 0, .int .i64 0, .string ⟨#[]⟩, .int .i64 0, .int .i64 0, .int .i64 0, .bool false, .int .i64 0, .string ⟨#[]⟩, .string ⟨#[]⟩, .int .i64 0, .int .i64 0, .int .i64 0, .int .i64 0, .int .i64 0, .int .i64 0, .string ⟨#[]⟩, .string ⟨#[]⟩, .int .i64 0, .int .i64 0, .slice none 0 0] : Array Value).size = (cs.setIfInBounds 24 (.slice a1 n cp1)).size) := by show _ = _; rw [Array.size_setIfInBounds, hsz]; rfl
  have ONE := hide v2.one
  have P0 := hide p0
  have P1 := hide p1
  have FIN : Hid ((w2.setRow (w.heap.size + 1) (cs.setIfInBounds 24 (.slice a1 n cp1))).heap[w.heap.size + 1]? = some (.cells (cs.setIfInBounds 24 (.slice a1 n cp1)) 29) ∧ Vals (w2.setRow (w.heap.size + 1) (cs.setIfInBounds 24 (.slice a1 n cp1))) (fun b => b < (w2.setRow (w.heap.size + 1) (cs.setIfInBounds 24 (.slice a1 n cp1))).heap.size) (cs.setIfInBounds 24 (.slice a1 n cp1)) xs ∧ Below w.heap.size w (w2.setRow (w.heap.size + 1) (cs.setIfInBounds 24 (.slice a1 n cp1)))) := by
    have hother : ∀ b, b ≠ w.heap.size + 1 → (w2.setRow (w.heap.size + 1) (cs.setIfInBounds 24 (.slice a1 n cp1))).heap[b]? = w2.heap[b]? := fun b hb => by simp only [World.setRow, Array.getElem?_modify]; rw [if_neg (fun e => hb e.symm)]
    exact ⟨setRow_heap w2 _ _ _ _ _ p1, v2.same fun b hl => ⟨by rw [size_setRow]; exact hl.2, hother b hl.1⟩, b2.os, b2.tape, b2.output, by rw [size_setRow]; exact b2.size, fun k hk => (hother k (by omega)).trans (b2.block k hk)⟩
  rw [← e2]
  obtain ⟨cs1, ec⟩ : ∃ cs1, cs1 = cs.setIfInBounds 24 (.slice a1 n cp1) := ⟨_, rfl⟩
  rw [← ec] at INF SZC ONE P0 FIN
  clear q0 q1 b1 e2 p0 p1 b2 hz hnew v2 HG HM H Q R0 R1 HB HS c24 d24 f24 EX EK ec
  go_wp2_with (first | (refine wpList_load_row rfl 29 (.tmp 1) rfl w.heap.size rfl 29 cs1 (0, 0) _ P0.out Try.underlying29 rfl INF.out ?_) | (refine wpList_store_row rfl 29 (.tmp 2) (.tmp 7) rfl (w.heap.size + 1) cs1 rfl rfl 29 #[.int .i64 0, .int .i64 0, .int .i64 0, .int .i64 0, .int .i64 0, .int .i64 0, .string ⟨#[]⟩, .int .i64 0, .int .i64 0, .int .i64 0, .bool false, .int .i64 0, .string ⟨#[]⟩, .string ⟨#[]⟩, .int .i64 0, .int .i64 0, .int .i64 0, .int .i64 0, .int .i64 0, .int .i64 0, .string ⟨#[]⟩, .string ⟨#[]⟩, .int .i64 0, .int .i64 0, .slice none 0 0] P1.out INF.out SZC.out ONE.out ?_))
  refine bodyPost_ret (v := .agg cs1) ?r ?d ?_
  case r => exact results_cell_row rfl _ _ (w.heap.size + 1) 29 cs1 (0, 0) _ rfl FIN.out.1 Try.underlying29 rfl INF.out
  case d => rfl
  exact ⟨_, rfl, FIN.out.2.1, FIN.out.2.2⟩
end Go.Proofs.Ytfdejkfbjmkngab
