/- The document's net: Cut. No condition but that there is memory. -/
import Derived.Test.YtbgejpkkocedbaaNetRefDouble
namespace Go.Proofs.Ytbgejpkkocedbaa
open Go.ChangeShapes Go.WideShapes Go.ChangeAt Go.RowKit B8 Nm
set_option linter.unusedVariables false

def zpair : Array Value := #[.int .i64 0, .int .i64 0]
theorem pairinfo : (Try.prog.info? 80).map (fun i => (i.zero, i.size, i.bytes)) = some (some (.agg zpair), 2, 16) := by kernel_rfl
theorem cells2 {w : World} {x y : Value} {t : TypeId} : ∀ j u, [x, y][j]? = some u → (w.alloc (.cells #[x, y] t)).cell? (Addr.add ⟨w.heap.size, 0, none⟩ j) = some u := fun j u hu => by
  rw [Addr.add_lit, Nat.zero_add, cell_of_row _ _ j _ _ _ (heap_alloc_new w _)]
  simpa using hu
theorem ownsRow_succ2 {w : World} {B T sz n : Nat} {v : Value} {xs : List Value} (h : w.ownsRow B T sz v (n + 1) xs) : ∃ g cp, v = .slice (some ⟨g, 0, none⟩) (n + 1) cp := by
  obtain ⟨_, ⟨_, e2⟩ | ⟨g, cp, cur, e1, _⟩⟩ := h
  · omega
  · exact ⟨g, cp, e1⟩
set_option maxRecDepth 100000 in
set_option maxHeartbeats 1000000 in
theorem rcut {w : World} {L : RLay} {s : Ns} (h : Rt w L s) (hm : s.cuts.length ≤ 8000000000000) (a b : Int) :
    Calls Try.prog 29 #[.pointer (some ⟨L.N, 0, none⟩), .int .i64 a, .int .i64 b] w fun e w' => e = .returned (.int .i64 (cutE s a b)) ∧ RMv w L (cutS s a b) w' := by
  obtain ⟨i0, hi, hz0, hz1, hz2⟩ := info_parts pairinfo
  have A := hide (ris h a)
  have B := hide (ris h b)
  have H := hide h
  cases ha : hasB s a with
  | false =>
    have e1 : Hid (cutE s a b = 1) := by show _ = _; simp [cutE, ha]
    have e2 : Hid (cutS s a b = s) := by show _ = _; unfold cutS; rw [if_neg (by rw [e1.out]; omega)]
    rw [ha] at A
    clear h ha hm
    go_enter Try.func29, Try.ntmps29
    go_wp2_with fail
    refine A.out.mono ?_
    rintro e w1 ⟨rfl, rfl⟩
    go_wp2_with fail
    go_ret
    rw [e1.out, e2.out]
    exact ⟨rfl, RMv.stay H.out⟩
  | true =>
    cases hb : hasB s b with
    | false =>
      have e1 : Hid (cutE s a b = 1) := by show _ = _; simp [cutE, hb]
      have e2 : Hid (cutS s a b = s) := by show _ = _; unfold cutS; rw [if_neg (by rw [e1.out]; omega)]
      rw [ha] at A
      rw [hb] at B
      clear h ha hb hm
      go_enter Try.func29, Try.ntmps29
      go_wp2_with fail
      refine A.out.mono ?_
      rintro e w1 ⟨rfl, rfl⟩
      go_wp2_with fail
      refine B.out.mono ?_
      rintro e w1 ⟨rfl, rfl⟩
      go_wp2_with fail
      go_ret
      rw [e1.out, e2.out]
      exact ⟨rfl, RMv.stay H.out⟩
    | true =>
      by_cases hab : a = b
      · have e1 : Hid (cutE s a b = 1) := by show _ = _; simp [cutE, hab]
        have e2 : Hid (cutS s a b = s) := by show _ = _; unfold cutS; rw [if_neg (by rw [e1.out]; omega)]
        rw [ha] at A
        rw [hb] at B
        subst hab
        clear h ha hb hm
        go_enter Try.func29, Try.ntmps29
        go_wp2_with fail
        refine A.out.mono ?_
        rintro e w1 ⟨rfl, rfl⟩
        go_wp2_with fail
        refine B.out.mono ?_
        rintro e w1 ⟨rfl, rfl⟩
        go_wp2_with fail
        go_ret
        rw [e1.out, e2.out]
        exact ⟨rfl, RMv.stay H.out⟩
      · have e1 : Hid (cutE s a b = 0) := by show _ = _; simp [cutE, ha, hb, hab]
        have e2 : Hid (cutS s a b = { s with cuts := s.cuts ++ [(a, b)] }) := by show _ = _; unfold cutS; rw [if_pos e1.out]
        rw [ha] at A
        rw [hb] at B
        have hx : (a == b) = false := by simpa using hab
        have hx2 : (a = b) = False := by simpa using hab
        have c2 := h.c2
        have hcm : L.cm ≤ 8000000000000 := by rw [h.clen]; exact hm
        clear h ha hb hab hm
        go_enter Try.func29, Try.ntmps29
        go_wp2_with fail
        refine A.out.mono ?_
        rintro e w1 ⟨rfl, rfl⟩
        go_wp2_with fail
        refine B.out.mono ?_
        rintro e w1 ⟨rfl, rfl⟩
        go_wp2_with (at_builtin; (refine wpList_append_own_at _ rfl (.tmp 26) (.tmp 30) 40 rfl 0 80 i0 (.agg zpair) 2 16 Try.underlying40 hi hz0 hz1 hz2 rfl (by omega) (.slice L.ca L.cm L.cc) L.cm (ccells s.cuts) rfl (H.out.crow.alloc _) ⟨w1.heap.size, 0, none⟩ 1 1 [.int .i64 a, .int .i64 b] rfl rfl cells2 (by intro u hu; simp at hu; rcases hu with rfl | rfl <;> rfl) (by unfold maxLen; omega) (by omega) (by omega) ?_; intro v' w6 hown hgrow _ hloc; obtain ⟨g', cap', rfl⟩ := ownsRow_succ2 hown; have LTN : L.N < w1.heap.size := H.out.ltN; have NV : some L.N ≠ (Value.slice L.ca L.cm L.cc).ownBlock := (fun e => H.out.v2 e.symm); have d5 : w6.cell? ⟨L.N, 2, none⟩ = some (.slice L.ca L.cm L.cc) := hgrow.cell ((World.cell?_alloc_lt w1 _ _ LTN).trans c2) NV; have g5 : w6.frozen? ⟨L.N, 2, none⟩ = false := (hgrow.frozen_far ⟨L.N, 2, none⟩ (by simp; exact Nat.lt_succ_of_lt LTN) NV).trans ((World.frozen?_alloc_past _ _ _ LTN).trans (H.out.f 2)); have HO := hide hown; have HG := hide hgrow; have HA := hide hloc; clear hown hgrow hloc LTN NV))
        have hc : Hid (Chg (fun k => (Value.slice L.ca L.cm L.cc).ownBlock = some k) w1 w6) := ((Chg.refl _ w1).alloc _).grown HG.out (fun k hk => .inl hk)
        have hg : Hid (∀ k, (Value.slice (some ⟨g', 0, none⟩) (L.cm + 1) cap').ownBlock = some k → (Value.slice L.ca L.cm L.cc).ownBlock = some k ∨ w1.heap.size ≤ k) := fun k hk => by
          rcases HA.out with h | h
          · exact .inl (h ▸ hk)
          · rw [h] at hk
            have := Option.some.inj hk
            simp at this
            exact .inr (by omega)
        have FIN := hide (H.out.recut (cs := s.cuts ++ [(a, b)]) hc.out (by rw [ccells_append]; exact HO.out) (by simp [H.out.clen]) hg.out)
        clear hc hg HO HG HA
        go_wp2_with fail
        go_ret
        rw [e1.out, e2.out]
        exact ⟨rfl, FIN.out⟩
end Go.Proofs.Ytbgejpkkocedbaa
