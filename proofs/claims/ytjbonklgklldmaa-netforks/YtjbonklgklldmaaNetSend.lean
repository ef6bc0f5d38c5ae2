/- The landed net's Send. No condition. -/
import Derived.Test.YtjbonklgklldmaaNetCut
import Derived.Test.YtjbonklgklldmaaNetPush
import Derived.Deep.AppendLies
import Derived.Deep.RegionHeld3
import Derived.Deep.RegionLaw
namespace Go.Proofs.Ytjbonklgklldmaa
open Go.ChangeShapes Go.WideShapes Go.ChangeAt Go.RowKit B8 Nm
set_option linter.unusedVariables false

/-- what a body that was made is as a packet's -/
def mkPv (f t : Int) (g n : Nat) (b : List Int) : Pv := ⟨f, t, some ⟨g, 0, none⟩, n, n, b⟩
theorem row3 {w : World} {x y z : Value} {t : TypeId} : ∀ j u, [x, y, z][j]? = some u → (w.alloc (.cells #[x, y, z] t)).cell? (Addr.add ⟨w.heap.size, 0, none⟩ j) = some u := fun j u hu => by
  rw [Addr.add_lit, Nat.zero_add, cell_of_row _ _ j _ _ _ (heap_alloc_new w _)]
  simpa using hu
set_option maxRecDepth 100000 in
set_option maxHeartbeats 1000000 in
theorem send_main {w : World} {L : Lay} {kk : Nat} {s : Ns} (h : Nt w L kk s) (f t : Int) (hf : hasB s f = true) (ht : hasB s t = true) {a : Option Addr} {n cp : Nat} {bs : List Int} (q : Sq w a n cp bs) (hn : n ≤ 16384) :
    Calls Try.prog 14 #[.pointer (some ⟨L.N, 0, none⟩), .int .i64 f, .int .i64 t, .slice a n cp] w fun e w' => e = .returned (.int .i64 (sendE s f t bs)) ∧ Mv w L kk (sendS s f t bs) w' := by
  obtain ⟨i0, hi, hz0, hz1, hz2⟩ := info_parts pkinfo
  have H := hide h
  have Q := hide q
  have CA := hide (has_net h f)
  have CB := hide (has_net h t)
  rw [hf] at CA
  rw [ht] at CB
  have h1 := has_wf hf h.ok.hi
  have h2 := has_wf ht h.ok.hi
  have WA : Hid ((Lit.int .i64 (min f t)).wf = true) := wf64 (by omega) (by omega)
  have WB : Hid ((Lit.int .i64 (max f t)).wf = true) := wf64 (by omega) (by omega)
  have BAD : Hid (badB s f t bs.length = false) := by show _ = _; unfold badB; rw [hf, ht, q.length]; simp; exact hn
  have hb3 : (n : Int) ≤ 16384 := by omega
  have c2 : w.drew.cell? ⟨L.N, 2, none⟩ = some (.map (some L.mb)) := h.c2
  have HN := hide hn
  clear h hf ht h1 h2 hn q
  go_enter Try.func14, Try.ntmps14
  go_wp2_with fail
  refine CA.out.mono ?_
  rintro e w1 ⟨rfl, rfl⟩
  go_wp2_with fail
  refine CB.out.mono ?_
  rintro e w1 ⟨rfl, rfl⟩
  go_wp2_with fail
  go_cut [10] (fun x w2 => x = .bool (apartB s f t) ∧ Hid (Below w1.heap.size w1 w2))
  case first =>
    have NA := hide (H.out.drew.below (below_alloc (Below.refl _ _) (.cells #[] 58)))
    have c2a := NA.out.c2
    have c2b : w1.cell? ⟨L.N, 2, none⟩ = some (.map (some L.mb)) := H.out.c2
    have c2c : (w1.alloc (.cells #[] 58)).cell? ⟨L.N, 2, none⟩ = some (.map (some L.mb)) := (H.out.below (below_alloc (Below.refl _ _) (.cells #[] 58))).c2
    have ne1 : L.N ≠ w1.heap.size := Nat.ne_of_lt H.out.ltN
    have ne2 : w1.heap.size ≠ L.N := ne1.symm
    go_region_with (go_at_call 28; refine (both_any f t _).mono ?_; rintro e w2 ⟨rfl, hb2⟩; have N2 : Hid (Nt w2 L kk s) := (by first | exact H.out.drew.below hb2 | exact NA.out.below hb2); have B2 : Hid (Below w1.heap.size w1 w2) := (by first | exact below_step (Below.refl _ _).drew hb2 | exact below_step (below_alloc (Below.refl _ _).drew _) hb2); have d2 := N2.out.c2; have look := cuts_look N2.out.cuts WA.out WB.out; have N3 := hide (N2.out.below (below_alloc (Below.refl _ _) (.cells #[] 58))); have d3 := N3.out.c2; have look3 := cuts_look N3.out.cuts WA.out WB.out; clear hb2)
    all_goals (go_wp2_with fail; go_meet; case rel => exact ⟨rfl, (by first | exact below_alloc B2.out _ | exact B2.out)⟩)
  case rest =>
    obtain ⟨rfl, B2⟩ := hcut
    rename_i w2
    have N2 := hide (H.out.below B2.out)
    have Q2 := hide (Q.out.below B2.out)
    have ltM : Hid (∀ k, L.M k → k < w1.heap.size) := H.out.lt
    cases hap : apartB s f t with
    | true =>
      have e1 : Hid (sendE s f t bs = 0) := by show _ = _; simp [sendE, BAD.out, hap]
      have e2 : Hid (sendS s f t bs = s) := by show _ = _; simp [sendS, BAD.out, hap]
      clear hap
      go_wp2_with fail
      go_ret
      rw [e1.out, e2.out]
      exact ⟨rfl, Mv.below H.out B2.out⟩
    | false =>
      have CF := hide (full_net N2.out)
      by_cases hfl : 256 ≤ s.ps.length
      · have e1 : Hid (sendE s f t bs = 3) := by show _ = _; simp [sendE, BAD.out, hap, hfl]
        have e2 : Hid (sendS s f t bs = s) := by show _ = _; simp [sendS, BAD.out, hap, hfl]
        rw [decide_eq_true hfl] at CF
        clear hap hfl
        go_wp2_with fail
        refine CF.out.mono ?_
        rintro e w3 ⟨rfl, rfl⟩
        go_wp2_with fail
        go_ret
        rw [e1.out, e2.out]
        exact ⟨rfl, Mv.below H.out B2.out⟩
      · have e1 : Hid (sendE s f t bs = 0) := by show _ = _; simp [sendE, BAD.out, hap, hfl]
        have e2 : Hid (sendS s f t bs = { s with ps := s.ps ++ [⟨f, t, bs⟩] }) := by show _ = _; simp [sendS, BAD.out, hap, hfl]
        rw [decide_eq_false hfl] at CF
        have HF : Hid (s.ps.length < 256) := by show _ < _; omega
        have LM : Hid (L.m < 256) := by show _ < _; rw [N2.out.len]; have := HF.out; rw [N2.out.ps, List.length_map] at this; exact this
        clear hap hfl c2
        go_wp2_with fail
        refine CF.out.mono ?_
        rintro e w3 ⟨rfl, rfl⟩
        go_wp2_with fail
        have c1 : w3.cell? ⟨L.N, 1, none⟩ = some (.slice L.av L.m L.cv) := N2.out.c1
        have c1d : w3.drew.cell? ⟨L.N, 1, none⟩ = some (.slice L.av L.m L.cv) := N2.out.c1
        have hlm := LM.out
        go_cut [] (fun w6 => ∃ (g cap g0 : Nat) (w4 w5 : World), w6 = (w5.setCell ⟨L.N, 1, none⟩ (.slice (some ⟨g, 0, none⟩) (L.m + 1) cap)) ∧ Hid (Below w3.heap.size w3 w4) ∧ Hid (Owned w4 g0 n bs ∧ w3.heap.size ≤ g0 ∧ g0 < w4.heap.size) ∧ Hid (w5.ownsRow 0 33 3 (.slice (some ⟨g, 0, none⟩) (L.m + 1) cap) (L.m + 1) (pcells L.l ++ (mkPv f t g0 n bs).cells)) ∧ Hid ((w4.alloc (.cells #[.int .i64 f, .int .i64 t, .slice (some ⟨g0, 0, none⟩) n n] 33)).grownBy w5 (Value.slice L.av L.m L.cv).ownBlock) ∧ Hid ((Value.slice L.av L.m L.cv).ownBlock = some g ∨ g = (w4.alloc (.cells #[.int .i64 f, .int .i64 t, .slice (some ⟨g0, 0, none⟩) n n] 33)).heap.size))
        case first =>
          go_region_law (first
            | (go_simp; go_at_call 24; refine (own_any (Q2.out.drew 1) (by omega) f t).mono ?_; rintro e w4 ⟨g0, rfl, hg1, hg2, ho4, hb4⟩; have B4 : Hid (Below w3.heap.size w3 w4) := below_step (Below.refl _ _).drew hb4; have O4 : Hid (Owned w4 g0 n bs ∧ w3.heap.size ≤ g0 ∧ g0 < w4.heap.size) := ⟨ho4, hg1, hg2⟩; have N4 := hide (N2.out.below B4.out); have d4 := N4.out.c1; have d4a : (w4.alloc (.cells #[.int .i64 f, .int .i64 t, .slice (some ⟨g0, 0, none⟩) n n] 33)).cell? ⟨L.N, 1, none⟩ = some (.slice L.av L.m L.cv) := (World.cell?_alloc_lt w4 _ _ N4.out.ltN).trans d4; clear hg1 hg2 ho4 hb4)
            | (refine step_append_where _ (by rfl) (.tmp 46) (.tmp 52) 27 (by rfl) 0 33 i0 (.agg zpk) 3 40 Try.underlying27 hi hz0 hz1 hz2 (by rfl) (by omega) L.av L.m L.cv (by rfl) (pcells L.l) (row_same N4.out.row (fun k hk => Below.heap_alloc _ _ _ (N4.out.row.lt k hk).2)) ⟨w4.heap.size, 0, none⟩ 1 1 (by rfl) (mkPv f t g0 n bs).cells (by rfl) row3 (by intro u hu; simp [mkPv, Pv.cells] at hu; rcases hu with rfl | rfl | rfl <;> rfl) (by omega) (by unfold maxLen; omega) (by omega) (by omega) ?_; intro g cap w5 hown hgrow hat; have LTN : L.N < w4.heap.size := N4.out.ltN; have d5 : w5.cell? ⟨L.N, 1, none⟩ = some (.slice L.av L.m L.cv) := hgrow.cell ((World.cell?_alloc_lt w4 _ _ LTN).trans d4) (fun e => N4.out.v1 e.symm); have g5 : w5.frozen? ⟨L.N, 1, none⟩ = false := (hgrow.frozen_far ⟨L.N, 1, none⟩ (by simp; exact Nat.lt_succ_of_lt LTN) (fun e => N4.out.v1 e.symm)).trans ((World.frozen?_alloc_past _ _ _ LTN).trans (N4.out.f 1)); have HO := hide hown; have HG := hide hgrow; have HA := hide hat; clear hown hgrow hat LTN))
          all_goals (go_wp2_with fail; go_meet; case rel => exact ⟨g, cap, g0, w4, w5, rfl, B4, O4, HO, HG, HA⟩)
        case rest =>
          obtain ⟨g, cap, g0, w4, w5, rfl, B4, O4, HO, HG, HA⟩ := hcut
          have hc : Hid (Chg (fun k => (Value.slice L.av L.m L.cv).ownBlock = some k) w3 w5) := ((Chg.of_below B4.out _).alloc _).grown HG.out (fun k hk => .inl hk)
          have P4 : Hid ((mkPv f t g0 n bs).In w4) := ⟨O4.out.1.sq, fun ad e => by simp [mkPv] at e; rw [← e]; exact O4.out.2.2⟩
          have NG : Hid ((Value.slice L.av L.m L.cv).ownBlock ≠ some g0) := fun e => by have := (N2.out.row.lt g0 e).2; have := O4.out.2.1; omega
          have P5 : Hid ((mkPv f t g0 n bs).In w5) := P4.out.same (by have := HG.out.size; simp at this; omega) (fun ad e => by
            simp [mkPv] at e
            rw [← e]
            exact (HG.out.block _ (by simp; have := O4.out.2.2; omega) (fun e2 => NG.out e2.symm)).trans (Below.heap_alloc _ _ _ O4.out.2.2))
          have hg : Hid ((Value.slice L.av L.m L.cv).ownBlock = some g ∨ w3.heap.size ≤ g) := by
            rcases HA.out with h | h
            · exact .inl h
            · exact .inr (by rw [h]; have := B4.out.size; simp; omega)
          have hgg : Hid (g0 ≠ g) := fun e => by
            rcases HA.out with h | h
            · exact NG.out (e ▸ h)
            · have := O4.out.2.2; rw [e, h] at this; simp at this; omega
          have FIN := hide (N2.out.pushed hc.out HO.out hg.out P5.out (fun ad e => by simp [mkPv] at e; rw [← e]; exact ⟨.inr O4.out.2.1, hgg.out⟩) HF.out (show bs.length ≤ 16384 by rw [Q.out.length]; exact HN.out))
          clear hc P4 NG P5 hg hgg HO HG HA O4 B4
          go_wp2_with fail
          go_ret
          rw [e1.out, e2.out]
          exact ⟨rfl, FIN.out.behind B2.out ltM.out⟩
set_option maxRecDepth 100000 in
theorem send_any {w : World} {L : Lay} {kk : Nat} {s : Ns} (h : Nt w L kk s) (f t : Int) {a : Option Addr} {n cp : Nat} {bs : List Int} (q : Sq w a n cp bs) :
    Calls Try.prog 14 #[.pointer (some ⟨L.N, 0, none⟩), .int .i64 f, .int .i64 t, .slice a n cp] w fun e w' => e = .returned (.int .i64 (sendE s f t bs)) ∧ Mv w L kk (sendS s f t bs) w' := by
  cases hf : hasB s f with
  | false =>
    have H := hide h
    have CA := hide (has_net h f)
    rw [hf] at CA
    have e1 : Hid (sendE s f t bs = 1) := by show _ = _; simp [sendE, badB, hf]
    have e2 : Hid (sendS s f t bs = s) := by show _ = _; simp [sendS, badB, hf]
    clear h hf q
    go_enter Try.func14, Try.ntmps14
    go_wp2_with fail
    refine CA.out.mono ?_
    rintro e w1 ⟨rfl, rfl⟩
    go_wp2_with fail
    go_ret
    rw [e1.out, e2.out]
    exact ⟨rfl, Mv.stay H.out⟩
  | true =>
    cases ht : hasB s t with
    | false =>
      have H := hide h
      have CA := hide (has_net h f)
      have CB := hide (has_net h t)
      rw [hf] at CA
      rw [ht] at CB
      have e1 : Hid (sendE s f t bs = 1) := by show _ = _; simp [sendE, badB, ht]
      have e2 : Hid (sendS s f t bs = s) := by show _ = _; simp [sendS, badB, ht]
      clear h hf ht q
      go_enter Try.func14, Try.ntmps14
      go_wp2_with fail
      refine CA.out.mono ?_
      rintro e w1 ⟨rfl, rfl⟩
      go_wp2_with fail
      refine CB.out.mono ?_
      rintro e w1 ⟨rfl, rfl⟩
      go_wp2_with fail
      go_ret
      rw [e1.out, e2.out]
      exact ⟨rfl, Mv.stay H.out⟩
    | true =>
      by_cases hn : n ≤ 16384
      · exact send_main h f t hf ht q hn
      · have H := hide h
        have CA := hide (has_net h f)
        have CB := hide (has_net h t)
        rw [hf] at CA
        rw [ht] at CB
        have e0 : badB s f t bs.length = true := by rw [q.length]; simp [badB]; omega
        have e1 : Hid (sendE s f t bs = 1) := by show _ = _; simp [sendE, e0]
        have e2 : Hid (sendS s f t bs = s) := by show _ = _; simp [sendS, e0]
        have hn2 : (16384 : Int) < n := by omega
        clear h hf ht q e0 hn
        go_enter Try.func14, Try.ntmps14
        go_wp2_with fail
        refine CA.out.mono ?_
        rintro e w1 ⟨rfl, rfl⟩
        go_wp2_with fail
        refine CB.out.mono ?_
        rintro e w1 ⟨rfl, rfl⟩
        go_wp2_with fail
        go_ret
        rw [e1.out, e2.out]
        exact ⟨rfl, Mv.stay H.out⟩
end Go.Proofs.Ytjbonklgklldmaa
