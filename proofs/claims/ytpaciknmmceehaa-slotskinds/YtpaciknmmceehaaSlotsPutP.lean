/- A landed log's Put. No condition. -/
import Derived.Test.YtpaciknmmceehaaSlotsGetP
namespace Go.Proofs.Ytpaciknmmceehaa.Lp
open Go.ChangeShapes Go.WideShapes Go.ChangeAt Go.RowKit Sx
set_option linter.unusedVariables false

theorem row_set {w : World} {g n c k T : Nat} {xs : List Value} {u : Value} (h : w.ownsRow 0 T 1 (.slice (some ⟨g, 0, none⟩) n c) n xs) : (w.setCell ⟨g, k, none⟩ u).ownsRow 0 T 1 (.slice (some ⟨g, 0, none⟩) n c) n (xs.set k u) := by
  obtain ⟨hx, ⟨e1, _⟩ | ⟨g', cp, cur, e1, e2, e3, e4, e5, e6, e7⟩⟩ := h
  · cases e1
  · obtain ⟨rfl, rfl⟩ : g = g' ∧ c = cp := by simpa using e1
    refine ⟨by rw [List.length_set]; exact hx, .inr ⟨g, c, cur.setIfInBounds k u, rfl, e2, by simp [World.setCell, Array.getElem?_modify, e3], e4, e5, by rw [Array.size_setIfInBounds]; exact e6, ?_⟩⟩
    rw [← e7, Array.toList_setIfInBounds, List.take_set]
theorem cell_hd {w : World} {P T : Nat} {a b c u : Value} (h : w.heap[P]? = some (.cells #[a, b, c] T (0, 0))) : (w.setCell ⟨P, 2, none⟩ u).heap[P]? = some (.cells #[a, b, u] T (0, 0)) := by
  simp [World.setCell, Array.getElem?_modify, h]
theorem cell_hd0 {w : World} {P T : Nat} {a b c u : Value} (h : w.heap[P]? = some (.cells #[a, b, c] T (0, 0))) : (w.setCell ⟨P, 0, none⟩ u).heap[P]? = some (.cells #[u, b, c] T (0, 0)) := by
  simp [World.setCell, Array.getElem?_modify, h]
theorem put_map (bs : List (Option Nat)) (k b : Nat) : (putL bs k b).map pv = (bs.map pv ++ List.replicate (k + 1 - bs.length) (Value.pointer none)).set k (pv (some b)) := by
  unfold putL
  rw [List.map_set, List.map_append, pvs_none]
section
variable {w w1 w4 : World} {P : Nat} {L : Lay} {s : Ss Al}
theorem put_lg (h1 : Lg w1 P L s) {b k g c : Nat} {x : Al} (hx : w1.heap[b]? = some (.cells (enc x) 26 (0, 0))) (hk : k < s.most) (hc : Chg (fun j => L.M P j ∨ j = w1.heap.size) w1 w4)
    (hP : w4.heap[P]? = some (.cells #[.int .i64 s.first, .int .i64 s.most, .slice (some ⟨g, 0, none⟩) (putL L.bs k b).length c] 45 (0, 0)))
    (hrow : w4.ownsRow 0 56 1 (.slice (some ⟨g, 0, none⟩) (putL L.bs k b).length c) (putL L.bs k b).length ((putL L.bs k b).map pv)) :
    Lg w4 P ⟨some ⟨g, 0, none⟩, c, putL L.bs k b⟩ (putS s (s.first + (k : Int)) x) := by
  have es : putS s (s.first + (k : Int)) x = { s with ps := putL s.ps k x } := by
    unfold putS
    rw [if_neg (by omega), show (s.first + (k : Int) - s.first).toNat = k by omega]
  have ok := putS_ok h1.ok (s.first + (k : Int)) x
  rw [es] at ok ⊢
  have st : ∀ (j : Nat) (cs : Array Value), w1.heap[j]? = some (.cells cs 26 (0, 0)) → w4.heap[j]? = some (.cells cs 26 (0, 0)) := fun j cs hj => by
    have hl := (Array.getElem?_eq_some_iff.1 hj).1
    exact (hc.block j hl (fun hm => hm.elim (h1.vm (P' := 0) (L' := L) (s' := s) hj) (fun e => by omega))).trans hj
  refine ⟨hP, hrow, by rw [putL_length, putL_length, h1.len], fun j b' o hb ho => ?_, ok⟩
  replace hb : (putL L.bs k b)[j]? = some b' := hb
  replace ho : (putL s.ps k x)[j]? = some o := ho
  rw [putL_get] at hb ho
  rw [h1.len] at hb
  by_cases e : j = k
  · rw [if_pos e] at hb ho
    cases hb
    cases ho
    exact st b _ hx
  · rw [if_neg e] at hb ho
    by_cases e2 : j < s.ps.length
    · rw [if_pos e2] at hb ho
      have hp := h1.pl j b' o hb ho
      exact hp.same (fun k0 ek => by
        subst ek
        rcases hp.shape with ⟨e, _⟩ | ⟨k1, x1, e, _, h3⟩
        · cases e
        · cases e
          rw [h3, st _ _ h3])
    · rw [if_neg e2] at hb ho
      by_cases e3 : j < k
      · rw [if_pos e3] at hb ho
        cases hb
        cases ho
        trivial
      · rw [if_neg e3] at hb
        cases hb
set_option maxRecDepth 100000 in
set_option maxHeartbeats 1000000 in
theorem put_any (h : Lg w P L s) (i : Int) (hi : i ≤ 9223372036854775807) (x : Al) : Calls Try.prog 9 #[.pointer (some ⟨P, 0, none⟩), .int .i64 i, va x] w fun e w' => e = .returned (.int .i64 (putE s i)) ∧ LMv w P L (putS s i x) w' := by
  obtain ⟨w1, ew⟩ : ∃ w1, w1 = w.alloc (.cells (enc x) 26) := ⟨_, rfl⟩
  have B1 : Below w.heap.size w w1 := by rw [ew]; exact below_alloc (Below.refl _ _) _
  have s1 : w1.heap.size = w.heap.size + 1 := by rw [ew]; simp
  have hx1 : w1.heap[w.heap.size]? = some (.cells (enc x) 26 (0, 0)) := by rw [ew]; exact heap_alloc_new w _
  have H1 := h.below B1
  obtain ⟨c0, c1, c2, cf⟩ := H1.c
  have f1 := h.ok.f1
  have f2 := h.ok.f2
  have m2 := h.ok.m2
  have l1 := h.ok.len
  have LN := h.len
  rw [Lay.v] at c2
  have EW := hide ew
  simp only [va]
  simp only [enc] at EW
  by_cases g1 : i < s.first
  · have e1 : putE s i = 80 := by simp [putE, g1]
    have e2 : putS s i x = s := by simp [putS, g1]
    rw [e1, e2]
    have FI := hide (LMv.of_below h B1)
    clear h e1 e2 f1 f2 m2 l1 LN B1 s1 hx1 H1 ew
    go_enter Try.func9, Try.ntmps9
    rw [EW.out] at c0 c1 c2 FI
    go_wp2_with fail
    go_ret
    exact ⟨rfl, FI.out⟩
  · obtain ⟨k, rfl⟩ : ∃ k : Nat, i = s.first + (k : Int) := ⟨(i - s.first).toNat, by omega⟩
    have x1 : ¬ (s.first + (k : Int) < s.first) := g1
    by_cases g2 : s.most ≤ k
    · have e1 : putE s (s.first + (k : Int)) = 81 := by unfold putE; rw [if_neg g1, if_pos (by omega)]
      have e2 : putS s (s.first + (k : Int)) x = s := by unfold putS; rw [if_pos (.inr (by omega))]
      rw [e1, e2]
      have FI := hide (LMv.of_below h B1)
      have x2 : IntKind.i64.wrap (s.first + (k : Int) - s.first) = (k : Int) ∨ True := .inr trivial
      by_cases g3 : s.first + (k : Int) ≤ 9223372036854775807
      · have x2 : IntKind.i64.wrap (s.first + (k : Int) - s.first) = (k : Int) := by rw [IntKind.wrap_i64]; omega
        have x3 : IntKind.i64.wrap (k : Int) = (k : Int) := by rw [IntKind.wrap_i64]; omega
        have x4 : (s.most : Int) ≤ (k : Int) := by omega
        have x5 : s.most ≤ k := g2
        clear h e1 e2 f1 f2 m2 l1 LN B1 s1 hx1 H1 ew g1
        generalize s.first = F at *
        generalize s.most = M at *
        go_enter Try.func9, Try.ntmps9
        rw [EW.out] at c0 c1 c2 FI
        go_wp2_with fail
        go_ret
        exact ⟨rfl, FI.out⟩
      · exact absurd hi (by omega)
    · have e1 : putE s (s.first + (k : Int)) = 0 := by unfold putE; rw [if_neg g1, if_neg (by omega)]
      rw [e1]
      have x2 : IntKind.i64.wrap (s.first + (k : Int) - s.first) = (k : Int) := by rw [IntKind.wrap_i64]; omega
      have x3 : IntKind.i64.wrap (k : Int) = (k : Int) := by rw [IntKind.wrap_i64]; omega
      have x4 : ¬ ((s.most : Int) ≤ (k : Int)) := by omega
      have x5 : ¬ (s.most ≤ k) := g2
      have x6 : IntKind.i64.wrap ((k : Int) + 1) = (k : Int) + 1 := by rw [IntKind.wrap_i64]; omega
      have x7 : (0 : Int) ≤ (k : Int) := by omega
      by_cases g4 : k < s.ps.length
      · obtain ⟨b0, hb0⟩ : ∃ b0, L.bs[k]? = some b0 := ⟨L.bs[k]'(by omega), List.getElem?_eq_getElem _⟩
        obtain ⟨g, ea, cg, fg⟩ := H1.at hb0
        have pl : (putL L.bs k w.heap.size).length = L.bs.length := by rw [putL_length]; omega
        have FI : Hid (LMv w P L (putS s (s.first + (k : Int)) x) (w1.setCell ⟨g, k, none⟩ (.pointer (some ⟨w.heap.size, 0, none⟩)))) := by
          have ob : L.v.ownBlock = some g := by simp [Lay.v, ea, Value.ownBlock]
          have cc : Chg (L.M P) w1 (w1.setCell ⟨g, k, none⟩ (.pointer (some ⟨w.heap.size, 0, none⟩))) := (Chg.refl _ _).setCell (p := ⟨g, k, none⟩) (.inl (.inr ob)) _
          refine ⟨(Chg.of_below B1 _).trans cc (fun j _ hj => hj), ⟨some ⟨g, 0, none⟩, L.c, putL L.bs k w.heap.size⟩, put_lg H1 hx1 (by omega) (cc.mono (fun j _ hj => .inl hj)) ?_ ?_, fun j hj => ?_⟩
          · rw [pl, ← ea]
            exact (Below.heap_setCell _ _ _ _ (fun e => H1.apart (by rw [ob]; exact congrArg some e.symm))).trans H1.hd
          · rw [pl, put_map, show k + 1 - L.bs.length = 0 by omega, List.replicate_zero, List.append_nil]
            have r := H1.row
            rw [Lay.v, ea] at r
            exact row_set r
          · rcases hj with rfl | hj
            · exact .inl (.inl rfl)
            · simp [Lay.v, Value.ownBlock] at hj
              subst hj
              exact .inl (.inr ob)
        rw [ea] at c2
        have x8 : IntKind.i64.wrap ((k : Int) + 1 - (L.bs.length : Int)) = (k : Int) + 1 - (L.bs.length : Int) := by rw [IntKind.wrap_i64]; omega
        have x9 : ¬ ((0 : Int) < (k : Int) + 1 - (L.bs.length : Int)) := by omega
        have x10 : (k : Int) < (L.bs.length : Int) := by omega
        have cg' : (w1.cell? ⟨g, k, none⟩).isSome = true := by rw [cg]; rfl
        clear h e1 f1 f2 m2 l1 LN B1 s1 hx1 H1 ew g1 g2 hb0 pl ea
        generalize s.first = F at *
        generalize s.most = M at *
        generalize L.bs.length = N at *
        go_enter Try.func9, Try.ntmps9
        rw [EW.out] at c0 c1 c2 FI cg fg cg'
        go_wp2_with fail
        go_ret
        exact ⟨rfl, FI.out⟩
      · have kl : k + 1 - L.bs.length = k + 1 - L.bs.length := rfl
        obtain ⟨i0, hi0, hz0, hz1, hz2⟩ := info_parts ptrinfo
        obtain ⟨q, eq⟩ : ∃ q, q = k + 1 - L.bs.length := ⟨_, rfl⟩
        have r0 := H1.row
        rw [Lay.v] at r0
        obtain ⟨g, cp, w2, ap, r2, gr, wh⟩ := run_append_zeros (P := Try.prog) w1 0 43 3 43 56 i0 Try.underlying43 Try.underlying3 hi0 hz0 hz1 hz2 L.a L.bs.length L.c (L.bs.map pv) r0 q (by omega) (by omega) (Nat.zero_le _)
        have nk : L.bs.length + q = k + 1 := by omega
        rw [nk] at ap r2
        have pl : (putL L.bs k w.heap.size).length = k + 1 := by rw [putL_length]; omega
        have gP : g ≠ P := fun e => by
          subst e
          rcases wh with e | e
          · exact H1.apart e
          · have := H1.ltP; omega
        have P2 : w2.heap[P]? = w1.heap[P]? := gr.block P H1.ltP (fun e => H1.apart (by rw [Lay.v]; exact e.symm))
        have c2' := H1.hd
        rw [← P2] at c2'
        have FI : Hid (LMv w P L (putS s (s.first + (k : Int)) x) ((w2.setCell ⟨P, 2, none⟩ (.slice (some ⟨g, 0, none⟩) (k + 1) cp)).setCell ⟨g, k, none⟩ (.pointer (some ⟨w.heap.size, 0, none⟩)))) := by
          have cc : Chg (fun j => L.M P j ∨ j = w1.heap.size) w1 ((w2.setCell ⟨P, 2, none⟩ (.slice (some ⟨g, 0, none⟩) (k + 1) cp)).setCell ⟨g, k, none⟩ (.pointer (some ⟨w.heap.size, 0, none⟩))) := by
            refine (((Chg.refl _ _).grown gr (fun j e => .inl (.inl (.inr (by rw [Lay.v]; exact e))))).setCell (p := ⟨P, 2, none⟩) (.inl (.inl (.inl rfl))) _).setCell (p := ⟨g, k, none⟩) ?_ _
            rcases wh with e | e
            · exact .inl (.inl (.inr (by rw [Lay.v]; exact e)))
            · exact .inr (by show w1.heap.size ≤ g; omega)
          refine ⟨⟨cc.os.trans B1.os, cc.tape.trans B1.tape, cc.output.trans B1.output, Nat.le_trans B1.size cc.size, fun j hj hn => (cc.block j (by omega) (fun hm => hm.elim hn (fun e => by omega))).trans (B1.block j hj)⟩, ⟨some ⟨g, 0, none⟩, cp, putL L.bs k w.heap.size⟩, put_lg H1 hx1 (by omega) cc ?_ ?_, fun j hj => ?_⟩
          · rw [pl]
            exact (Below.heap_setCell _ _ _ _ (fun e => gP e.symm)).trans (cell_hd c2')
          · rw [pl, put_map, ← eq]
            exact row_set (row_same r2 (fun j hj => Below.heap_setCell _ _ _ _ (fun e => gP (by simp [Value.ownBlock] at hj; rw [hj]; exact e))))
          · rcases hj with rfl | hj
            · exact .inl (.inl rfl)
            · simp [Lay.v, Value.ownBlock] at hj
              subst hj
              rcases wh with e | e
              · exact .inl (.inr (by rw [Lay.v]; exact e))
              · exact .inr (by omega)
        have x8 : IntKind.i64.wrap ((k : Int) + 1 - (L.bs.length : Int)) = (q : Int) := by rw [IntKind.wrap_i64]; omega
        have x9 : (0 : Int) < (q : Int) := by omega
        have x10 : (k : Int) < ((k + 1 : Nat) : Int) := by omega
        have x11 : (k : Int) < (k : Int) + 1 := by omega
        have d0 : w2.cell? ⟨P, 2, none⟩ = some (.slice L.a L.bs.length L.c) := by rw [cell_of_row _ _ 2 _ _ _ c2']; rfl
        have df : w2.frozen? ⟨P, 2, none⟩ = false := by simp [World.frozen?, c2']
        have d1 : (w2.setCell ⟨P, 2, none⟩ (.slice (some ⟨g, 0, none⟩) (k + 1) cp)).cell? ⟨P, 2, none⟩ = some (.slice (some ⟨g, 0, none⟩) (k + 1) cp) := by rw [cell_of_row _ _ 2 _ _ _ (cell_hd c2')]; rfl
        have r3 : (w2.setCell ⟨P, 2, none⟩ (.slice (some ⟨g, 0, none⟩) (k + 1) cp)).ownsRow 0 56 1 (.slice (some ⟨g, 0, none⟩) (k + 1) cp) (k + 1) (L.bs.map pv ++ List.replicate q (.pointer none)) := row_same r2 (fun j hj => Below.heap_setCell _ _ _ _ (fun e => gP (by simp [Value.ownBlock] at hj; rw [hj]; exact e)))
        have d2 : (w2.setCell ⟨P, 2, none⟩ (.slice (some ⟨g, 0, none⟩) (k + 1) cp)).cell? ⟨g, k, none⟩ = some (.pointer none) := by
          rw [r3.cellAt k (by omega), List.getElem?_append_right (by simp; omega), List.getElem?_replicate, if_pos (by simp; omega)]
        have d3 : (w2.setCell ⟨P, 2, none⟩ (.slice (some ⟨g, 0, none⟩) (k + 1) cp)).frozen? ⟨g, k, none⟩ = false := by
          obtain ⟨_, ⟨e, _⟩ | ⟨g', _, cur, e, _, h3, _⟩⟩ := r3
          · cases e
          · simp at e
            obtain ⟨rfl, _⟩ := e
            simp [World.frozen?, h3]
        clear h e1 f1 f2 m2 l1 LN B1 s1 hx1 H1 ew g1 g2 g4 pl kl r0 r2 gr wh nk gP P2 c2' r3 eq i0 hi0 hz0 hz1 hz2
        generalize s.first = F at *
        generalize s.most = M at *
        generalize L.bs.length = N at *
        go_enter Try.func9, Try.ntmps9
        rw [EW.out] at c0 c1 c2 ap
        have AP := hide ap
        clear ap
        go_wp2_with (at_builtin; refine wp_append_run _ rfl (.tmp 43) (.tmp 44) 43 3 rfl _ _ AP.out ?_)
        go_ret
        exact ⟨rfl, FI.out⟩
end
end Go.Proofs.Ytpaciknmmceehaa.Lp
