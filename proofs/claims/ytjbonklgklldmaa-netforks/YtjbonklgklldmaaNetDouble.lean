/- The landed net's Double. No condition. -/
import Derived.Test.YtjbonklgklldmaaNetPush
import Derived.Deep.AppendLies
import Derived.Deep.RegionHeld3
import Derived.Deep.RegionLaw
import Derived.Deep.DeepCutAuto
namespace Go.Proofs.Ytjbonklgklldmaa
open Go.ChangeShapes Go.WideShapes Go.ChangeAt Go.RowKit B8 Nm
set_option linter.unusedVariables false

theorem cells3 {w : World} {x y z : Value} {t : TypeId} : ∀ j u, [x, y, z][j]? = some u → (w.alloc (.cells #[x, y, z] t)).cell? (Addr.add ⟨w.heap.size, 0, none⟩ j) = some u := fun j u hu => by
  rw [Addr.add_lit, Nat.zero_add, cell_of_row _ _ j _ _ _ (heap_alloc_new w _)]
  simpa using hu
/-- the k-th packet's cells -/
theorem Nt.at {w : World} {L : Lay} {kk : Nat} {s : Ns} (h : Nt w L kk s) {k : Nat} (hk : k < L.m) : ∃ g p, L.av = some ⟨g, 0, none⟩ ∧ (Value.slice L.av L.m L.cv).ownBlock = some g ∧ L.l[k]? = some p ∧ p ∈ L.l ∧ s.ps[k]? = some p.pk ∧ w.cell? ⟨g, k * 3, none⟩ = some (.int .i64 p.f) ∧ w.cell? ⟨g, k * 3 + 1, none⟩ = some (.int .i64 p.t) ∧ w.cell? ⟨g, k * 3 + 2, none⟩ = some (.slice p.a p.n p.cp) := by
  have hl := h.len
  have hkl : k < L.l.length := by omega
  obtain ⟨_, ⟨e1, e2⟩ | ⟨g, cp, cur, e1, _⟩⟩ := id h.row
  · omega
  · obtain ⟨e3, e4⟩ : L.av = some ⟨g, 0, none⟩ ∧ L.cv = cp := by simpa using e1
    have hp : L.l[k]? = some L.l[k] := by simp [hkl]
    have row := h.row
    rw [e3] at row
    have hc : ∀ j, j < 3 → w.cell? ⟨g, k * 3 + j, none⟩ = L.l[k].cells[j]? := fun j hj => by
      rw [row.cellAt (k * 3 + j) (by omega)]
      exact pcells_at _ _ _ hp j hj
    exact ⟨g, L.l[k], e3, by rw [e3]; rfl, hp, List.getElem_mem _, by rw [h.ps]; simp [hkl], (hc 0 (by omega)).trans rfl, (hc 1 (by omega)).trans rfl, (hc 2 (by omega)).trans rfl⟩
set_option maxRecDepth 100000 in
set_option maxHeartbeats 1000000 in
theorem double_main {w : World} {L : Lay} {kk : Nat} {s : Ns} (h : Nt w L kk s) (k : Nat) (hk : k < s.ps.length) (hm : s.ps.length < 256) :
    Calls Try.prog 16 #[.pointer (some ⟨L.N, 0, none⟩), .int .i64 k] w fun e w' => e = .returned (.int .i64 0) ∧ Mv w L kk { s with ps := s.ps ++ [s.ps.getD k zPk] } w' := by
  obtain ⟨i0, hi, hz0, hz1, hz2⟩ := info_parts pkinfo
  have hl : L.m = s.ps.length := by rw [h.ps, List.length_map]; exact h.len
  obtain ⟨g0, p, ea, eo, hp1, hp2, hp3, k0, k1, k2⟩ := h.at (k := k) (by omega)
  have C := hide (reach_net h k)
  rw [show reachE s k = 0 by unfold reachE; rw [if_neg (by omega)]] at C
  have CF := hide (full_net h)
  rw [decide_eq_false (by omega)] at CF
  have c1 : w.cell? ⟨L.N, 1, none⟩ = some (.slice (some ⟨g0, 0, none⟩) L.m L.cv) := by rw [← ea]; exact h.c1
  have c1d : w.drew.cell? ⟨L.N, 1, none⟩ = some (.slice (some ⟨g0, 0, none⟩) L.m L.cv) := c1
  have k0d : w.drew.cell? ⟨g0, k * 3, none⟩ = some (.int .i64 p.f) := k0
  have k1d : w.drew.cell? ⟨g0, k * 3 + 1, none⟩ = some (.int .i64 p.t) := k1
  have k2d : w.drew.cell? ⟨g0, k * 3 + 2, none⟩ = some (.slice p.a p.n p.cp) := k2
  have b1 : (0 : Int) ≤ k := by omega
  have b2 : (k : Int) < L.m := by omega
  have hlm : L.m < 256 := by omega
  have H := hide h
  have EA := hide ea
  have EO := hide eo
  have HP : Hid (p ∈ L.l ∧ s.ps.getD k zPk = p.pk) := ⟨hp2, by simp [List.getD, hp3]⟩
  have HM := hide hm
  clear h hl ea eo hp1 hp2 hp3 hk hm
  go_enter Try.func16, Try.ntmps16
  go_wp2_with fail
  refine C.out.mono ?_
  rintro e w1 ⟨rfl, rfl⟩
  go_wp2_with fail
  refine CF.out.mono ?_
  rintro e w1 ⟨rfl, rfl⟩
  go_wp2_with fail
  have NA := hide (H.out.below (below_alloc (Below.refl _ _) (.cells #[.int .i64 p.f, .int .i64 p.t, .slice p.a p.n p.cp] 33)))
  have c1a : (w1.alloc (.cells #[.int .i64 p.f, .int .i64 p.t, .slice p.a p.n p.cp] 33)).cell? ⟨L.N, 1, none⟩ = some (.slice (some ⟨g0, 0, none⟩) L.m L.cv) := by rw [← EA.out]; exact NA.out.c1
  go_cut [] (fun w6 => ∃ (g cap : Nat) (w4 w5 : World), w6 = (w5.setCell ⟨L.N, 1, none⟩ (.slice (some ⟨g, 0, none⟩) (L.m + 1) cap)) ∧ Hid (Below w1.heap.size w1 w4) ∧ Hid (w5.ownsRow 0 33 3 (.slice (some ⟨g, 0, none⟩) (L.m + 1) cap) (L.m + 1) (pcells L.l ++ p.cells)) ∧ Hid (w4.grownBy w5 (Value.slice L.av L.m L.cv).ownBlock) ∧ Hid ((Value.slice L.av L.m L.cv).ownBlock = some g ∨ g = w4.heap.size))
  case first =>
    go_region_law (refine step_append_where _ (by rfl) (.tmp 18) (.tmp 26) 27 (by rfl) 0 33 i0 (.agg zpk) 3 40 Try.underlying27 hi hz0 hz1 hz2 (by rfl) (by omega) (some ⟨g0, 0, none⟩) L.m L.cv (by rfl) (pcells L.l) (by have := NA.out.row; rw [EA.out] at this; exact this) ⟨w1.heap.size, 0, none⟩ 1 1 (by rfl) p.cells (by rfl) cells3 (by intro u hu; simp [Pv.cells] at hu; rcases hu with rfl | rfl | rfl <;> rfl) (by omega) (by unfold maxLen; omega) (by omega) (by omega) ?_; intro g cap w5 hown hgrow hat; have LTN : L.N < w1.heap.size := H.out.ltN; have NV : some L.N ≠ (Value.slice (some ⟨g0, 0, none⟩) L.m L.cv).ownBlock := (fun e => H.out.v1 (by rw [EA.out]; exact e.symm)); have d5 : w5.cell? ⟨L.N, 1, none⟩ = some (.slice (some ⟨g0, 0, none⟩) L.m L.cv) := hgrow.cell c1a NV; have g5 : w5.frozen? ⟨L.N, 1, none⟩ = false := (hgrow.frozen_far ⟨L.N, 1, none⟩ (by simp; exact Nat.lt_succ_of_lt LTN) NV).trans ((World.frozen?_alloc_past _ _ _ LTN).trans (H.out.f 1)); rw [← EA.out] at hgrow hat; have HO := hide hown; have HG := hide hgrow; have HA := hide hat; clear hown hgrow hat LTN NV)
    all_goals (go_wp2_with fail; go_meet; case rel => exact ⟨g, cap, _, w5, rfl, below_alloc (Below.refl _ _).drew _, HO, HG, HA⟩)
  case rest =>
    obtain ⟨g, cap, w4, w5, rfl, B4, HO, HG, HA⟩ := hcut
    have hc : Hid (Chg (fun k => (Value.slice L.av L.m L.cv).ownBlock = some k) w1 w5) := (Chg.of_below B4.out _).grown HG.out (fun k hk => .inl hk)
    have P1 := hide (H.out.ins p HP.out.1)
    have PR : Hid (∀ ad, p.a = some ad → L.R ad.block) := fun ad e => ⟨p, HP.out.1, ad, e, rfl⟩
    have P5 : Hid (p.In w5) := P1.out.same (Nat.le_trans B4.out.size HG.out.size) (fun ad e => hc.out.block _ (P1.out.2 ad e) (fun e2 => H.out.dis _ (.inr (.inr e2)) (PR.out ad e)))
    have hg : Hid ((Value.slice L.av L.m L.cv).ownBlock = some g ∨ w1.heap.size ≤ g) := by
      rcases HA.out with h | h
      · exact .inl h
      · exact .inr (by rw [h]; exact B4.out.size)
    have FIN := hide (H.out.pushed hc.out HO.out hg.out P5.out (fun ad e => ⟨.inl (PR.out ad e), fun e2 => by
      rcases hg.out with h | h
      · exact H.out.dis _ (.inr (.inr (e2 ▸ h))) (PR.out ad e)
      · have := P1.out.2 ad e; omega⟩) HM.out (by
        have h1 := H.out.ok.body (p.pk) (by rw [H.out.ps]; exact List.mem_map.2 ⟨p, HP.out.1, rfl⟩)
        exact h1))
    rw [← HP.out.2] at FIN
    clear hc P1 PR P5 hg HO HG HA B4
    go_wp2_with fail
    go_ret
    exact ⟨rfl, FIN.out⟩
theorem double_any {w : World} {L : Lay} {kk : Nat} {s : Ns} (h : Nt w L kk s) (i : Int) :
    Calls Try.prog 16 #[.pointer (some ⟨L.N, 0, none⟩), .int .i64 i] w fun e w' => e = .returned (.int .i64 (dblE s i)) ∧ Mv w L kk (dblS s i) w' := by
  by_cases h0 : reachE s i = 0
  · obtain ⟨hi0, hi1⟩ := reach_lt h0
    obtain ⟨k, rfl⟩ : ∃ k : Nat, i = (k : Int) := ⟨i.toNat, by omega⟩
    by_cases hm : s.ps.length < 256
    · have e1 : dblE s k = 0 := by unfold dblE; rw [if_neg (by simpa using h0), if_neg (by omega)]
      have e2 : dblS s k = { s with ps := s.ps ++ [s.ps.getD k zPk] } := by unfold dblS; rw [if_pos e1]; rfl
      rw [e1, e2]
      exact double_main h k (by simpa using hi1) hm
    · have e1 : Hid (dblE s k = 3) := by show _ = _; unfold dblE; rw [if_neg (by simpa using h0), if_pos (by omega)]
      have e2 : Hid (dblS s k = s) := by show _ = _; unfold dblS; rw [if_neg (by rw [e1.out]; omega)]
      have C := hide (reach_net h k)
      rw [h0] at C
      have CF := hide (full_net h)
      rw [decide_eq_true (by omega)] at CF
      have H := hide h
      clear h h0 hi0 hi1 hm
      go_enter Try.func16, Try.ntmps16
      go_wp2_with fail
      refine C.out.mono ?_
      rintro e w1 ⟨rfl, rfl⟩
      go_wp2_with fail
      refine CF.out.mono ?_
      rintro e w1 ⟨rfl, rfl⟩
      go_wp2_with fail
      go_ret
      rw [e1.out, e2.out]
      exact ⟨rfl, Mv.stay H.out⟩
  · have e1 : Hid (dblE s i = reachE s i) := by show _ = _; unfold dblE; rw [if_pos h0]
    have e2 : Hid (dblS s i = s) := by show _ = _; unfold dblS; rw [if_neg (by rw [e1.out]; exact h0)]
    have C := hide (reach_net h i)
    have H := hide h
    have hx : (reachE s i == 0) = false := by simpa using h0
    have hx2 : (reachE s i = 0) = False := by simpa using h0
    generalize reachE s i = r at *
    clear h h0
    go_enter Try.func16, Try.ntmps16
    go_wp2_with fail
    refine C.out.mono ?_
    rintro e w1 ⟨rfl, rfl⟩
    go_wp2_with fail
    go_ret
    rw [e1.out, e2.out]
    exact ⟨rfl, Mv.stay H.out⟩
end Go.Proofs.Ytjbonklgklldmaa
