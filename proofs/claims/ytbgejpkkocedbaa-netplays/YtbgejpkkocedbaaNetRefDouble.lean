/- The document's net: Cut, Double. No condition but that there is memory. -/
import Derived.Test.YtbgejpkkocedbaaNetRef
import Derived.Test.YtbgejpkkocedbaaNetDouble
import Derived.Maps.AppendAt
namespace Go.Proofs.Ytbgejpkkocedbaa
open Go.ChangeShapes Go.WideShapes Go.ChangeAt Go.RowKit B8 Nm
set_option linter.unusedVariables false

/-- the list of pairs is another one -/
theorem Rt.recut {w w3 : World} {L : RLay} {s : Ns} {cs : List (Int × Int)} (h : Rt w L s) (hc : Chg (fun k => (Value.slice L.ca L.cm L.cc).ownBlock = some k) w w3) {a' : Option Addr} {m' c' : Nat}
    (hown : w3.ownsRow 0 80 2 (.slice a' m' c') m' (ccells cs)) (hl : m' = cs.length) (hg : ∀ k, (Value.slice a' m' c').ownBlock = some k → (Value.slice L.ca L.cm L.cc).ownBlock = some k ∨ w.heap.size ≤ k) :
    RMv w L { s with cuts := cs } (w3.setCell ⟨L.N, 2, none⟩ (.slice a' m' c')) := by
  obtain ⟨w4, e4⟩ : ∃ w4, w4 = w3.setCell ⟨L.N, 2, none⟩ (.slice a' m' c') := ⟨_, rfl⟩
  have o4 : ∀ k, k ≠ L.N → w4.heap[k]? = w3.heap[k]? := fun k hk => by rw [e4]; exact Below.heap_setCell _ _ _ _ hk
  have s4 : w4.heap.size = w3.heap.size := by rw [e4]; simp [World.setCell]
  have nv : ∀ k, k < w.heap.size → (Value.slice L.ca L.cm L.cc).ownBlock ≠ some k → w3.heap[k]? = w.heap[k]? := fun k hk hn => hc.block k hk hn
  have eN := nv L.N h.ltN h.v2
  have c3 : ∀ o, w3.cell? ⟨L.N, o, none⟩ = w.cell? ⟨L.N, o, none⟩ := fun o => World.cell?_of_block (a := ⟨L.N, o, none⟩) eN
  have gN : ∀ k, (Value.slice a' m' c').ownBlock = some k → k ≠ L.N := fun k hk => by
    rcases hg k hk with h1 | h1
    · exact fun e => h.v2 (e ▸ h1)
    · have := h.ltN; omega
  rw [← e4]
  have hch : Chg L.M w w4 := by
    rw [e4]
    exact (hc.mono (fun k _ hk => .inr (.inr hk))).setCell (p := ⟨L.N, 2, none⟩) (.inl (.inl rfl)) _
  have pb : ∀ k, (Value.slice L.av L.m L.cv).ownBlock = some k → w4.heap[k]? = w.heap[k]? := fun k hk => (o4 k (fun e => h.v1 (e ▸ hk))).trans (nv k (h.row.lt k hk).2 (fun e => h.v12 k hk e))
  have rb : ∀ k, L.R k → w4.heap[k]? = w.heap[k]? := fun k hk => (o4 k (fun e => h.dis L.N (.inl rfl) (e ▸ hk))).trans (nv k (h.ltR k hk) (fun e => h.dis k (.inr (.inr e)) hk))
  refine ⟨hch, { L with ca := a', cm := m', cc := c' }, ⟨?_, ?_, ?_, fun o => ?_, row_same h.row pb, row_same hown (fun k hk => o4 k (gN k hk)), h.len, hl, h.ps, fun p hp => (h.ins p hp).same (by rw [s4]; exact hc.size) (fun ad e => rb _ ⟨p, hp, ad, e, rfl⟩), h.v1, fun e => gN _ e rfl, ?_, ⟨h.ok.lo, h.ok.hi, h.ok.most, h.ok.body⟩⟩, rfl, fun k hk => ?_, fun k hk => .inl hk⟩
  · show w4.cell? ⟨L.N, 0, none⟩ = _
    rw [e4, World.cell?_setCell_other _ _ _ _ (by simp), c3]; exact h.c0
  · show w4.cell? ⟨L.N, 1, none⟩ = _
    rw [e4, World.cell?_setCell_other _ _ _ _ (by simp), c3]; exact h.c1
  · show w4.cell? ⟨L.N, 2, none⟩ = _
    rw [e4]; exact World.cell?_setCell_same' _ _ _ (by rw [c3, h.c2]; rfl)
  · show w4.frozen? ⟨L.N, o, none⟩ = _
    rw [e4, World.frozen?_setCell]
    exact (World.frozen?_of_block (a := ⟨L.N, o, none⟩) eN).trans (h.f o)
  · rintro k hk hr
    rcases hk with hk | hk | hk
    · exact h.dis k (.inl hk) hr
    · exact h.dis k (.inr (.inl hk)) hr
    · rcases hg k hk with h1 | h1
      · exact h.dis k (.inr (.inr h1)) hr
      · have := h.ltR k hr; omega
  · rcases hk with hk | hk | hk
    · exact .inl (.inl hk)
    · exact .inl (.inr (.inl hk))
    · exact (hg k hk).imp (fun h => .inr (.inr h)) id
/-- the list emptied -/
theorem Rt.heal {w : World} {L : RLay} {s : Ns} (h : Rt w L s) : RMv w L (healS s) (w.setCell ⟨L.N, 2, none⟩ (.slice none 0 0)) :=
  h.recut (cs := []) (Chg.refl _ _) (World.ownsRow_nil _ _ _ _) rfl (fun k hk => by simp [Value.ownBlock] at hk)
/-- the k-th packet's cells -/
theorem Rt.at {w : World} {L : RLay} {s : Ns} (h : Rt w L s) {k : Nat} (hk : k < L.m) : ∃ g p, L.av = some ⟨g, 0, none⟩ ∧ (Value.slice L.av L.m L.cv).ownBlock = some g ∧ L.l[k]? = some p ∧ p ∈ L.l ∧ s.ps[k]? = some p.pk ∧ w.cell? ⟨g, k * 3, none⟩ = some (.int .i64 p.f) ∧ w.cell? ⟨g, k * 3 + 1, none⟩ = some (.int .i64 p.t) ∧ w.cell? ⟨g, k * 3 + 2, none⟩ = some (.slice p.a p.n p.cp) := by
  have hl := h.len
  have hkl : k < L.l.length := by omega
  obtain ⟨_, ⟨e1, e2⟩ | ⟨g, cp, cur, e1, _⟩⟩ := id h.row
  · omega
  · obtain ⟨e3, e4⟩ : L.av = some ⟨g, 0, none⟩ ∧ L.cv = cp := by simpa using e1
    have hp : L.l[k]? = some L.l[k] := by simp [hkl]
    have row := h.row
    rw [e3] at row
    have hc : ∀ j, j < 3 → w.cell? ⟨g, k * 3 + j, none⟩ = L.l[k].cells[j]? := fun j hj => by
      rw [row.cellAt (k * 3 + j) (by omega)]
      exact pcells_at _ _ _ hp j hj
    exact ⟨g, L.l[k], e3, by rw [e3]; rfl, hp, List.getElem_mem _, by rw [h.ps]; simp [hkl], (hc 0 (by omega)).trans rfl, (hc 1 (by omega)).trans rfl, (hc 2 (by omega)).trans rfl⟩
/-- one packet more -/
theorem Rt.pushed {w w3 : World} {L : RLay} {s : Ns} (h : Rt w L s) (hc : Chg (fun k => (Value.slice L.av L.m L.cv).ownBlock = some k) w w3) {g cap : Nat} {p : Pv} (hown : w3.ownsRow 0 39 3 (.slice (some ⟨g, 0, none⟩) (L.m + 1) cap) (L.m + 1) (pcells L.l ++ p.cells))
    (hg : (Value.slice L.av L.m L.cv).ownBlock = some g ∨ w.heap.size ≤ g) (hp : p.In w3) (hpb : ∀ ad, p.a = some ad → (L.R ad.block ∨ w.heap.size ≤ ad.block) ∧ ad.block ≠ g) (hm : s.ps.length < 256) (hb : p.pk.b.length ≤ 16384) :
    RMv w L { s with ps := s.ps ++ [p.pk] } (w3.setCell ⟨L.N, 1, none⟩ (.slice (some ⟨g, 0, none⟩) (L.m + 1) cap)) := by
  have og : (Value.slice (some ⟨g, 0, none⟩) (L.m + 1) cap).ownBlock = some g := rfl
  refine h.relist hc (l' := L.l ++ [p]) (by rw [pcells_append, show pcells [p] = p.cells by simp [pcells]]; exact hown) (by simp [h.len]) (by rw [h.ps]; simp) (fun k hk => by rw [og] at hk; obtain rfl := Option.some.inj hk; exact hg) (fun q hq => ?_) (fun q hq ad e => ?_) ⟨h.ok.lo, h.ok.hi, by simp; omega, fun q hq => ?_⟩
  · rcases List.mem_append.1 hq with hq | hq
    · exact (h.ins q hq).same hc.size (fun ad e => hc.block _ ((h.ins q hq).2 ad e) (fun e2 => h.dis _ (.inr (.inl e2)) ⟨q, hq, ad, e, rfl⟩))
    · rw [List.mem_singleton.1 hq]; exact hp
  · rcases List.mem_append.1 hq with hq | hq
    · refine ⟨.inl ⟨q, hq, ad, e, rfl⟩, fun e2 => ?_⟩
      rw [og] at e2
      have e3 := Option.some.inj e2
      rcases hg with h1 | h1
      · exact h.dis _ (.inr (.inl h1)) ⟨q, hq, ad, e, e3.symm⟩
      · have := (h.ins q hq).2 ad e; omega
    · rw [List.mem_singleton.1 hq] at e
      refine ⟨(hpb ad e).1, fun e2 => ?_⟩
      rw [og] at e2
      exact (hpb ad e).2 (Option.some.inj e2).symm
  · rcases List.mem_append.1 hq with hq | hq
    · exact h.ok.body q hq
    · rw [List.mem_singleton.1 hq]; exact hb
set_option maxRecDepth 100000 in
set_option maxHeartbeats 1000000 in
theorem rdouble_main {w : World} {L : RLay} {s : Ns} (h : Rt w L s) (k : Nat) (hk : k < s.ps.length) (hm : s.ps.length < 256) :
    Calls Try.prog 28 #[.pointer (some ⟨L.N, 0, none⟩), .int .i64 k] w fun e w' => e = .returned (.int .i64 0) ∧ RMv w L { s with ps := s.ps ++ [s.ps.getD k zPk] } w' := by
  obtain ⟨i0, hi, hz0, hz1, hz2⟩ := info_parts pkinfo
  have hl : L.m = s.ps.length := by rw [h.ps, List.length_map]; exact h.len
  obtain ⟨g0, p, ea, eo, hp1, hp2, hp3, k0, k1, k2⟩ := h.at (k := k) (by omega)
  have c1 : w.cell? ⟨L.N, 1, none⟩ = some (.slice (some ⟨g0, 0, none⟩) L.m L.cv) := by rw [← ea]; exact h.c1
  have c1d : w.drew.cell? ⟨L.N, 1, none⟩ = some (.slice (some ⟨g0, 0, none⟩) L.m L.cv) := c1
  have k0d : w.drew.cell? ⟨g0, k * 3, none⟩ = some (.int .i64 p.f) := k0
  have k1d : w.drew.cell? ⟨g0, k * 3 + 1, none⟩ = some (.int .i64 p.t) := k1
  have k2d : w.drew.cell? ⟨g0, k * 3 + 2, none⟩ = some (.slice p.a p.n p.cp) := k2
  have b1 : (0 : Int) ≤ k := by omega
  have b2 : (k : Int) < L.m := by omega
  have hlm : L.m < 256 := by omega
  have b3 : (L.m : Int) < 256 := by omega
  have H := hide h
  have EA := hide ea
  have EO := hide eo
  have HP : Hid (p ∈ L.l ∧ s.ps.getD k zPk = p.pk) := ⟨hp2, by simp [List.getD, hp3]⟩
  have HM := hide hm
  clear h hl ea eo hp1 hp2 hp3 hk hm
  obtain ⟨w1, rfl⟩ : ∃ w1, w1 = w := ⟨_, rfl⟩
  go_enter Try.func28, Try.ntmps28
  go_wp2_with fail
  have NA := hide (H.out.below (below_alloc (Below.refl _ _) (.cells #[.int .i64 p.f, .int .i64 p.t, .slice p.a p.n p.cp] 39)))
  have c1a : (w1.alloc (.cells #[.int .i64 p.f, .int .i64 p.t, .slice p.a p.n p.cp] 39)).cell? ⟨L.N, 1, none⟩ = some (.slice (some ⟨g0, 0, none⟩) L.m L.cv) := by rw [← EA.out]; exact NA.out.c1
  go_cut [] (fun w6 => ∃ (g cap : Nat) (w4 w5 : World), w6 = (w5.setCell ⟨L.N, 1, none⟩ (.slice (some ⟨g, 0, none⟩) (L.m + 1) cap)) ∧ Hid (Below w1.heap.size w1 w4) ∧ Hid (w5.ownsRow 0 39 3 (.slice (some ⟨g, 0, none⟩) (L.m + 1) cap) (L.m + 1) (pcells L.l ++ p.cells)) ∧ Hid (w4.grownBy w5 (Value.slice L.av L.m L.cv).ownBlock) ∧ Hid ((Value.slice L.av L.m L.cv).ownBlock = some g ∨ g = w4.heap.size))
  case first =>
    go_region_law (refine step_append_where _ (by rfl) (.tmp 26) (.tmp 34) 34 (by rfl) 0 39 i0 (.agg zpk) 3 40 Try.underlying34 hi hz0 hz1 hz2 (by rfl) (by omega) (some ⟨g0, 0, none⟩) L.m L.cv (by rfl) (pcells L.l) (by have := NA.out.row; rw [EA.out] at this; exact this) ⟨w1.heap.size, 0, none⟩ 1 1 (by rfl) p.cells (by rfl) cells3 (by intro u hu; simp [Pv.cells] at hu; rcases hu with rfl | rfl | rfl <;> rfl) (by omega) (by unfold maxLen; omega) (by omega) (by omega) ?_; intro g cap w5 hown hgrow hat; have LTN : L.N < w1.heap.size := H.out.ltN; have NV : some L.N ≠ (Value.slice (some ⟨g0, 0, none⟩) L.m L.cv).ownBlock := (fun e => H.out.v1 (by rw [EA.out]; exact e.symm)); have d5 : w5.cell? ⟨L.N, 1, none⟩ = some (.slice (some ⟨g0, 0, none⟩) L.m L.cv) := hgrow.cell c1a NV; have g5 : w5.frozen? ⟨L.N, 1, none⟩ = false := (hgrow.frozen_far ⟨L.N, 1, none⟩ (by simp; exact Nat.lt_succ_of_lt LTN) NV).trans ((World.frozen?_alloc_past _ _ _ LTN).trans (H.out.f 1)); rw [← EA.out] at hgrow hat; have HO := hide hown; have HG := hide hgrow; have HA := hide hat; clear hown hgrow hat LTN NV)
    all_goals (go_wp2_with fail; go_meet; case rel => exact ⟨g, cap, _, w5, rfl, below_alloc (Below.refl _ _).drew _, HO, HG, HA⟩)
  case rest =>
    obtain ⟨g, cap, w4, w5, rfl, B4, HO, HG, HA⟩ := hcut
    have hc : Hid (Chg (fun k => (Value.slice L.av L.m L.cv).ownBlock = some k) w1 w5) := (Chg.of_below B4.out _).grown HG.out (fun k hk => .inl hk)
    have P1 := hide (H.out.ins p HP.out.1)
    have PR : Hid (∀ ad, p.a = some ad → L.R ad.block) := fun ad e => ⟨p, HP.out.1, ad, e, rfl⟩
    have P5 : Hid (p.In w5) := P1.out.same (Nat.le_trans B4.out.size HG.out.size) (fun ad e => hc.out.block _ (P1.out.2 ad e) (fun e2 => H.out.dis _ (.inr (.inl e2)) (PR.out ad e)))
    have hg : Hid ((Value.slice L.av L.m L.cv).ownBlock = some g ∨ w1.heap.size ≤ g) := by
      rcases HA.out with h | h
      · exact .inl h
      · exact .inr (by rw [h]; exact B4.out.size)
    have FIN := hide (H.out.pushed hc.out HO.out hg.out P5.out (fun ad e => ⟨.inl (PR.out ad e), fun e2 => by
      rcases hg.out with h | h
      · exact H.out.dis _ (.inr (.inl (e2 ▸ h))) (PR.out ad e)
      · have := P1.out.2 ad e; omega⟩) HM.out (by
        have h1 := H.out.ok.body (p.pk) (by rw [H.out.ps]; exact List.mem_map.2 ⟨p, HP.out.1, rfl⟩)
        exact h1))
    rw [← HP.out.2] at FIN
    clear hc P1 PR P5 hg HO HG HA B4
    go_wp2_with fail
    go_ret
    exact ⟨rfl, FIN.out⟩
theorem rdouble {w : World} {L : RLay} {s : Ns} (h : Rt w L s) (i : Int) :
    Calls Try.prog 28 #[.pointer (some ⟨L.N, 0, none⟩), .int .i64 i] w fun e w' => e = .returned (.int .i64 (dblE s i)) ∧ RMv w L (dblS s i) w' := by
  have hl : L.m = s.ps.length := by rw [h.ps, List.length_map]; exact h.len
  by_cases h0 : reachE s i = 0
  · obtain ⟨hi0, hi1⟩ := reach_lt h0
    obtain ⟨k, rfl⟩ : ∃ k : Nat, i = (k : Int) := ⟨i.toNat, by omega⟩
    by_cases hm : s.ps.length < 256
    · have e1 : dblE s k = 0 := by unfold dblE; rw [if_neg (by simpa using h0), if_neg (by omega)]
      have e2 : dblS s k = { s with ps := s.ps ++ [s.ps.getD k zPk] } := by unfold dblS; rw [if_pos e1]; rfl
      rw [e1, e2]
      exact rdouble_main h k (by simpa using hi1) hm
    · have e1 : Hid (dblE s k = 3) := by show _ = _; unfold dblE; rw [if_neg (by simpa using h0), if_pos (by omega)]
      have e2 : Hid (dblS s k = s) := by show _ = _; unfold dblS; rw [if_neg (by rw [e1.out]; omega)]
      have H := hide h
      have c1 := h.c1
      have b1 : (0 : Int) ≤ k := by omega
      have b2 : (k : Int) < L.m := by simp at hi1; omega
      have b3 : (256 : Int) ≤ L.m := by omega
      clear h h0 hi0 hi1 hm hl
      go_enter Try.func28, Try.ntmps28
      go_wp2_with fail
      go_ret
      rw [e1.out, e2.out]
      exact ⟨rfl, RMv.stay H.out⟩
  · have e0 : reachE s i = 60 := by
      unfold reachE at h0 ⊢
      split at h0
      · rename_i h1; rw [if_pos h1]
      · exact absurd rfl h0
    have e1 : Hid (dblE s i = 60) := by show _ = _; unfold dblE; rw [if_pos h0]; exact e0
    have e2 : Hid (dblS s i = s) := by show _ = _; unfold dblS; rw [if_neg (by rw [e1.out]; omega)]
    have hx : i < 0 ∨ (0 ≤ i ∧ (L.m : Int) ≤ i) := by
      unfold reachE at h0
      split at h0
      · omega
      · exact absurd rfl h0
    have H := hide h
    have c1 := h.c1
    clear h h0 e0 hl
    rcases hx with hx | ⟨hx1, hx⟩
    · go_enter Try.func28, Try.ntmps28
      go_wp2_with fail
      go_ret
      rw [e1.out, e2.out]
      exact ⟨rfl, RMv.stay H.out⟩
    · go_enter Try.func28, Try.ntmps28
      go_wp2_with fail
      go_ret
      rw [e1.out, e2.out]
      exact ⟨rfl, RMv.stay H.out⟩
end Go.Proofs.Ytbgejpkkocedbaa
