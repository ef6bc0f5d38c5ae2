/- The document's net: Send. No condition but that there is memory. -/
import Derived.Test.YtbgejpkkocedbaaNetRefCut
import Derived.Test.YtbgejpkkocedbaaNetSend
import Derived.Test.YtbgejpkkocedbaaSm8
namespace Go.Proofs.Ytbgejpkkocedbaa
open Go.ChangeShapes Go.WideShapes Go.ChangeAt Go.RowKit B8 Nm
set_option linter.unusedVariables false

def mkPw (f t : Int) (g n c : Nat) (b : List Int) : Pv := ⟨f, t, some ⟨g, 0, none⟩, n, c, b⟩
theorem row_drew {w : World} {B T sz n : Nat} {v : Value} {xs : List Value} (h : w.ownsRow B T sz v n xs) : w.drew.ownsRow B T sz v n xs := row_same h (fun _ _ => rfl)
/-- a body that was appended to a row of its own -/
theorem body_at {w W w4 : World} {g0 n cp : Nat} {bs : List Int} (hb : Below w.heap.size w W) (hr : W.ownsRow w.heap.size 5 1 (.slice (some ⟨w.heap.size, 0, none⟩) 0 0) 0 (vals [])) (hwf : wfs bs) (hl : bs.length = n)
    (hown : w4.ownsRow w.heap.size 5 1 (.slice (some ⟨g0, 0, none⟩) n cp) n (vals bs)) (hg : W.grownBy w4 (some w.heap.size)) (f t : Int) :
    Below w.heap.size w w4 ∧ (mkPw f t g0 n cp bs).In w4 ∧ w.heap.size ≤ g0 ∧ g0 < w4.heap.size := by
  obtain ⟨a2, c2, e2, q2⟩ := sq_of_row hl hwf hown
  obtain ⟨rfl, rfl⟩ : some (⟨g0, 0, none⟩ : Addr) = a2 ∧ cp = c2 := by simpa using e2
  have hlt := hown.lt g0 rfl
  exact ⟨below_grown hb hr (Nat.le_refl _) hg, ⟨q2, fun ad e => by simp [mkPw] at e; rw [← e]; exact hlt.2⟩, hlt.1, hlt.2⟩
set_option maxRecDepth 100000 in
set_option maxHeartbeats 1000000 in
theorem rsend_main {w : World} {L : RLay} {s : Ns} (h : Rt w L s) (hcm : s.cuts.length ≤ 8000000000000) (f t : Int) (hf : hasB s f = true) (ht : hasB s t = true) {a : Option Addr} {n cp : Nat} {bs : List Int} (q : Sq w a n cp bs) (hn : n ≤ 16384) :
    Calls Try.prog 31 #[.pointer (some ⟨L.N, 0, none⟩), .int .i64 f, .int .i64 t, .slice a n cp] w fun e w' => e = .returned (.int .i64 (sendE s f t bs)) ∧ RMv w L (sendS s f t bs) w' := by
  obtain ⟨i0, hi, hz0, hz1, hz2⟩ := info_parts pkinfo
  have H := hide h
  have Q := hide q
  have CA := hide (ris h f)
  have CB := hide (ris h t)
  have CC := hide (rapart h (by rw [h.clen]; omega) f t)
  rw [hf] at CA
  rw [ht] at CB
  have BAD : Hid (badB s f t bs.length = false) := by show _ = _; unfold badB; rw [hf, ht, q.length]; simp; exact hn
  have hb3 : (n : Int) ≤ 16384 := by omega
  have HN := hide hn
  have hl : L.m = s.ps.length := by rw [h.ps, List.length_map]; exact h.len
  have c1 := h.c1
  cases hap : apartB s f t with
  | true =>
    have e1 : Hid (sendE s f t bs = 0) := by show _ = _; simp [sendE, BAD.out, hap]
    have e2 : Hid (sendS s f t bs = s) := by show _ = _; simp [sendS, BAD.out, hap]
    rw [hap] at CC
    clear h hf ht hn q hap hl hcm
    go_enter Try.func31, Try.ntmps31
    go_wp2_with fail
    refine CA.out.mono ?_
    rintro e w1 ⟨rfl, rfl⟩
    go_wp2_with fail
    refine CB.out.mono ?_
    rintro e w1 ⟨rfl, rfl⟩
    go_wp2_with fail
    refine CC.out.mono ?_
    rintro e w1 ⟨rfl, rfl⟩
    go_wp2_with fail
    go_ret
    rw [e1.out, e2.out]
    exact ⟨rfl, RMv.stay H.out⟩
  | false =>
    rw [hap] at CC
    by_cases hfl : 256 ≤ s.ps.length
    · have e1 : Hid (sendE s f t bs = 3) := by show _ = _; simp [sendE, BAD.out, hap, hfl]
      have e2 : Hid (sendS s f t bs = s) := by show _ = _; simp [sendS, BAD.out, hap, hfl]
      have b3 : (256 : Int) ≤ L.m := by omega
      clear h hf ht hn q hap hl hcm hfl
      go_enter Try.func31, Try.ntmps31
      go_wp2_with fail
      refine CA.out.mono ?_
      rintro e w1 ⟨rfl, rfl⟩
      go_wp2_with fail
      refine CB.out.mono ?_
      rintro e w1 ⟨rfl, rfl⟩
      go_wp2_with fail
      refine CC.out.mono ?_
      rintro e w1 ⟨rfl, rfl⟩
      go_wp2_with fail
      go_ret
      rw [e1.out, e2.out]
      exact ⟨rfl, RMv.stay H.out⟩
    · have e1 : Hid (sendE s f t bs = 0) := by show _ = _; simp [sendE, BAD.out, hap, hfl]
      have e2 : Hid (sendS s f t bs = { s with ps := s.ps ++ [⟨f, t, bs⟩] }) := by show _ = _; simp [sendS, BAD.out, hap, hfl]
      have HF : Hid (s.ps.length < 256) := by show _ < _; omega
      have b3 : (L.m : Int) < 256 := by omega
      have hlm : L.m < 256 := by omega
      clear h hf ht hn q hap hl hcm hfl
      go_enter Try.func31, Try.ntmps31
      go_wp2_with fail
      refine CA.out.mono ?_
      rintro e w1 ⟨rfl, rfl⟩
      go_wp2_with fail
      refine CB.out.mono ?_
      rintro e w1 ⟨rfl, rfl⟩
      go_wp2_with fail
      refine CC.out.mono ?_
      rintro e w3 ⟨rfl, rfl⟩
      go_wp2_with fail
      have c1d : w3.drew.cell? ⟨L.N, 1, none⟩ = some (.slice L.av L.m L.cv) := c1
      have BA : Hid (Below w3.heap.size w3 (w3.alloc (.cells #[] 5))) := below_alloc (Below.refl _ _) _
      have c1a : (w3.alloc (.cells #[] 5)).cell? ⟨L.N, 1, none⟩ = some (.slice L.av L.m L.cv) := (H.out.below BA.out).c1
      have R2 : Hid ((w3.alloc (.cells #[] 5)).ownsRow w3.heap.size 5 1 (.slice (some ⟨w3.heap.size, 0, none⟩) 0 0) 0 (vals [])) := row_new w3 w3.heap.size (Nat.le_refl _) #[] (by simp [maxLen])
      have QA := hide (Q.out.below BA.out)
      have QW := hide (Q.out.wf)
      have QL := hide (Q.out.length)
      go_cut [] (fun w6 => ∃ (g cap g0 cp1 : Nat) (w4 w5 : World), w6 = (w5.setCell ⟨L.N, 1, none⟩ (.slice (some ⟨g, 0, none⟩) (L.m + 1) cap)) ∧ Hid (Below w3.heap.size w3 w4 ∧ (mkPw f t g0 n cp1 bs).In w4 ∧ w3.heap.size ≤ g0 ∧ g0 < w4.heap.size) ∧ Hid (w5.ownsRow 0 39 3 (.slice (some ⟨g, 0, none⟩) (L.m + 1) cap) (L.m + 1) (pcells L.l ++ (mkPw f t g0 n cp1 bs).cells)) ∧ Hid ((w4.alloc (.cells #[.int .i64 f, .int .i64 t, .slice (some ⟨g0, 0, none⟩) n cp1] 39)).grownBy w5 (Value.slice L.av L.m L.cv).ownBlock) ∧ Hid ((Value.slice L.av L.m L.cv).ownBlock = some g ∨ g = (w4.alloc (.cells #[.int .i64 f, .int .i64 t, .slice (some ⟨g0, 0, none⟩) n cp1] 39)).heap.size))
      case first =>
        go_region_law (first
          | ((refine step_append_sq _ (by rfl) (.tmp 41) (.tmp 42) (by rfl) w3.heap.size w3.heap.size 0 0 [] (by rfl) (by first | exact R2.out | exact row_drew R2.out) _ n cp bs (by rfl) (by first | exact QA.out | exact QA.out.drew 1) (by omega) (by simp) ?_; intro g0 cp1 w4 hown4 hgrow4 hat4; simp only [Nat.zero_add, List.nil_append] at hown4 ⊢; have P4 : Hid (Below w3.heap.size w3 w4 ∧ (mkPw f t g0 n cp1 bs).In w4 ∧ w3.heap.size ≤ g0 ∧ g0 < w4.heap.size) := (by first | exact body_at BA.out R2.out QW.out QL.out hown4 hgrow4 f t | exact body_at BA.out.drew (row_drew R2.out) QW.out QL.out hown4 hgrow4 f t); have N4 := hide (H.out.below P4.out.1); have d4 := N4.out.c1; have d4a : (w4.alloc (.cells #[.int .i64 f, .int .i64 t, .slice (some ⟨g0, 0, none⟩) n cp1] 39)).cell? ⟨L.N, 1, none⟩ = some (.slice L.av L.m L.cv) := (World.cell?_alloc_lt w4 _ _ N4.out.ltN).trans d4; clear hown4 hgrow4 hat4))
          | (refine step_append_where _ (by rfl) (.tmp 38) (.tmp 45) 34 (by rfl) 0 39 i0 (.agg zpk) 3 40 Try.underlying34 hi hz0 hz1 hz2 (by rfl) (by omega) L.av L.m L.cv (by rfl) (pcells L.l) (row_same N4.out.row (fun k hk => Below.heap_alloc _ _ _ (N4.out.row.lt k hk).2)) ⟨w4.heap.size, 0, none⟩ 1 1 (by rfl) (mkPw f t g0 n cp1 bs).cells (by rfl) row3 (by intro u hu; simp [mkPw, Pv.cells] at hu; rcases hu with rfl | rfl | rfl <;> rfl) (by omega) (by unfold maxLen; omega) (by omega) (by omega) ?_; intro g cap w5 hown hgrow hat; have LTN : L.N < w4.heap.size := N4.out.ltN; have d5 : w5.cell? ⟨L.N, 1, none⟩ = some (.slice L.av L.m L.cv) := hgrow.cell ((World.cell?_alloc_lt w4 _ _ LTN).trans d4) (fun e => N4.out.v1 e.symm); have g5 : w5.frozen? ⟨L.N, 1, none⟩ = false := (hgrow.frozen_far ⟨L.N, 1, none⟩ (by simp; exact Nat.lt_succ_of_lt LTN) (fun e => N4.out.v1 e.symm)).trans ((World.frozen?_alloc_past _ _ _ LTN).trans (N4.out.f 1)); have HO := hide hown; have HG := hide hgrow; have HA := hide hat; clear hown hgrow hat LTN))
        all_goals (go_wp2_with fail; go_meet; case rel => exact ⟨g, cap, g0, cp1, w4, w5, rfl, P4, HO, HG, HA⟩)
      case rest =>
        obtain ⟨g, cap, g0, cp1, w4, w5, rfl, P4, HO, HG, HA⟩ := hcut
        have hc : Hid (Chg (fun k => (Value.slice L.av L.m L.cv).ownBlock = some k) w3 w5) := ((Chg.of_below P4.out.1 _).alloc _).grown HG.out (fun k hk => .inl hk)
        have NG : Hid ((Value.slice L.av L.m L.cv).ownBlock ≠ some g0) := fun e => by have := (H.out.row.lt g0 e).2; have := P4.out.2.2.1; omega
        have P5 : Hid ((mkPw f t g0 n cp1 bs).In w5) := P4.out.2.1.same (by have := HG.out.size; simp at this; omega) (fun ad e => by
          simp [mkPw] at e
          rw [← e]
          exact (HG.out.block _ (by simp; have := P4.out.2.2.2; omega) (fun e2 => NG.out e2.symm)).trans (Below.heap_alloc _ _ _ P4.out.2.2.2))
        have hg : Hid ((Value.slice L.av L.m L.cv).ownBlock = some g ∨ w3.heap.size ≤ g) := by
          rcases HA.out with h | h
          · exact .inl h
          · exact .inr (by rw [h]; have := P4.out.1.size; simp; omega)
        have hgg : Hid (g0 ≠ g) := fun e => by
          rcases HA.out with h | h
          · exact NG.out (e ▸ h)
          · have := P4.out.2.2.2; rw [e, h] at this; simp at this; omega
        have FIN := hide (H.out.pushed hc.out HO.out hg.out P5.out (fun ad e => by simp [mkPw] at e; rw [← e]; exact ⟨.inr P4.out.2.2.1, hgg.out⟩) HF.out (show bs.length ≤ 16384 by rw [Q.out.length]; exact HN.out))
        clear hc NG P5 hg hgg HO HG HA P4
        go_wp2_with fail
        go_ret
        rw [e1.out, e2.out]
        exact ⟨rfl, FIN.out⟩
set_option maxRecDepth 100000 in
theorem rsend {w : World} {L : RLay} {s : Ns} (h : Rt w L s) (hcm : s.cuts.length ≤ 8000000000000) (f t : Int) {a : Option Addr} {n cp : Nat} {bs : List Int} (q : Sq w a n cp bs) :
    Calls Try.prog 31 #[.pointer (some ⟨L.N, 0, none⟩), .int .i64 f, .int .i64 t, .slice a n cp] w fun e w' => e = .returned (.int .i64 (sendE s f t bs)) ∧ RMv w L (sendS s f t bs) w' := by
  cases hf : hasB s f with
  | false =>
    have H := hide h
    have CA := hide (ris h f)
    rw [hf] at CA
    have e1 : Hid (sendE s f t bs = 1) := by show _ = _; simp [sendE, badB, hf]
    have e2 : Hid (sendS s f t bs = s) := by show _ = _; simp [sendS, badB, hf]
    clear h hf q hcm
    go_enter Try.func31, Try.ntmps31
    go_wp2_with fail
    refine CA.out.mono ?_
    rintro e w1 ⟨rfl, rfl⟩
    go_wp2_with fail
    go_ret
    rw [e1.out, e2.out]
    exact ⟨rfl, RMv.stay H.out⟩
  | true =>
    cases ht : hasB s t with
    | false =>
      have H := hide h
      have CA := hide (ris h f)
      have CB := hide (ris h t)
      rw [hf] at CA
      rw [ht] at CB
      have e1 : Hid (sendE s f t bs = 1) := by show _ = _; simp [sendE, badB, ht]
      have e2 : Hid (sendS s f t bs = s) := by show _ = _; simp [sendS, badB, ht]
      clear h hf ht q hcm
      go_enter Try.func31, Try.ntmps31
      go_wp2_with fail
      refine CA.out.mono ?_
      rintro e w1 ⟨rfl, rfl⟩
      go_wp2_with fail
      refine CB.out.mono ?_
      rintro e w1 ⟨rfl, rfl⟩
      go_wp2_with fail
      go_ret
      rw [e1.out, e2.out]
      exact ⟨rfl, RMv.stay H.out⟩
    | true =>
      by_cases hn : n ≤ 16384
      · exact rsend_main h hcm f t hf ht q hn
      · have H := hide h
        have CA := hide (ris h f)
        have CB := hide (ris h t)
        rw [hf] at CA
        rw [ht] at CB
        have e0 : badB s f t bs.length = true := by rw [q.length]; simp [badB]; omega
        have e1 : Hid (sendE s f t bs = 1) := by show _ = _; simp [sendE, e0]
        have e2 : Hid (sendS s f t bs = s) := by show _ = _; simp [sendS, e0]
        have hn2 : (16384 : Int) < n := by omega
        clear h hf ht q e0 hn hcm
        go_enter Try.func31, Try.ntmps31
        go_wp2_with fail
        refine CA.out.mono ?_
        rintro e w1 ⟨rfl, rfl⟩
        go_wp2_with fail
        refine CB.out.mono ?_
        rintro e w1 ⟨rfl, rfl⟩
        go_wp2_with fail
        go_ret
        rw [e1.out, e2.out]
        exact ⟨rfl, RMv.stay H.out⟩
end Go.Proofs.Ytbgejpkkocedbaa
