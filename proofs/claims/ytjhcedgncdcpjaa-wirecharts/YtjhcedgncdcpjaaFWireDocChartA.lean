/- What the document's walk writes and reads of a chart. No condition but the size. -/
import Derived.Test.YtjhcedgncdcpjaaFWireVLPlace
import Derived.Test.YtjhcedgncdcpjaaFWireVLMark
import Derived.Test.YtjhcedgncdcpjaaFWireXLPlace
import Derived.Test.YtjhcedgncdcpjaaFWireXLMark
import Derived.Test.YtjhcedgncdcpjaaFWireRefCchart
import Derived.Test.YtjhcedgncdcpjaaFWireChartVal
namespace Go.Proofs.Ytjhcedgncdcpjaa
open Go.ChangeShapes Go.WideShapes Go.ChangeAt Go.RowKit B8 Cm Wm
set_option linter.unusedVariables false

theorem vChart_any {w : World} {B W L : Nat} {fs : List Fld} {M o : Nat} {x : Cht} (h : VS w B W L fs) (hB : B ≤ w.heap.size) (hL : L ≤ 1000000) (hx : ChtAt w (Out (Wown W) M w) M o x) (hk : ChtK x) (hr : Room w M o 12) (hS : ¬ Wown W w M) (hM : M < w.heap.size) (hn1 : x.ps.length ≤ 140737488355328) (hn2 : x.ms.length ≤ 140737488355328) :
    Calls Try.prog 14 #[.pointer (some ⟨W, 0, none⟩), .pointer (some ⟨M, o, none⟩)] w fun e w' => e = .returned (.tuple #[]) ∧ (∃ L', VS w' B W L' (fs ++ x.flds)) ∧ Stp (Wown W) M o (o + 12) w w' := by
  obtain ⟨a1, n1, c1, hc1, hl1⟩ := hx.ps
  obtain ⟨a2, n2, c2, hc2, hl2⟩ := hx.ms
  obtain ⟨y1, y2, e1, k1, k2⟩ := List.map_eq_append_iff.1 (show _ = [0, 0] ++ [0, 0, 0, 3, 3, 0, 0] from hk.k1)
  have ly1 : y1.length = 2 := by have := congrArg List.length k1; simpa using this
  have fy := hx.f1
  rw [e1] at fy
  have fy1 := fy.left
  have fy2 := fy.right
  rw [ly1] at fy2
  have hn1' : n1 ≤ 140737488355328 := by rw [← hl1.length]; exact hn1
  have hn2' : n2 ≤ 140737488355328 := by rw [← hl2.length]; exact hn2
  refine (doc_Chart (M := M) (o := o) (W := W)
    (R0 := fun u => (∃ L', L' ≤ 1000000 ∧ VS u B W L' fs) ∧ Stp (Wown W) M o (o + 0) w u)
    (R1 := fun u => (∃ L', L' ≤ 1000010 ∧ VS u B W L' (fs ++ flds x.x0)) ∧ Stp (Wown W) M o (o + 1) w u)
    (R2 := fun u => (∃ L', L' ≤ 80000000 ∧ VS u B W L' (fs ++ flds x.x0 ++ listF flds x.ps)) ∧ Stp (Wown W) M o (o + 2) w u)
    (R3 := fun u => (∃ L', L' ≤ 80000100 ∧ VS u B W L' (fs ++ flds x.x0 ++ listF flds x.ps ++ flds y1)) ∧ Stp (Wown W) M o (o + 4) w u)
    (R4 := fun u => (∃ L', L' ≤ 90000000 ∧ VS u B W L' (fs ++ flds x.x0 ++ listF flds x.ps ++ flds y1 ++ flds y2)) ∧ Stp (Wown W) M o (o + 11) w u)
    (R5 := fun u => (∃ L', VS u B W L' (fs ++ flds x.x0 ++ listF flds x.ps ++ flds y1 ++ flds y2 ++ listF flds x.ms)) ∧ Stp (Wown W) M o (o + 12) w u)
    (fun u hu => by
      obtain ⟨⟨L', hL', hv⟩, hs⟩ := hu
      exact (vnum_call hv (Nat.le_trans hB hs.size) (by omega) (hx.f0.step hs (.inl (Nat.le_refl _))) ((hr.part (a := 0) (m := 1) (by omega)).step hs (.inl (Nat.le_refl _))) hk.k0 (Nat.lt_of_lt_of_le hM hs.size) (hs.keep hM hS)).mono fun e w' ⟨h1, h2, h3⟩ => ⟨h1, ⟨_, by omega, h2⟩, (hs.wider (Nat.le_refl _) (by omega)).trans h3⟩)
    (fun u hu => by
      obtain ⟨⟨L', hL', hv⟩, hs⟩ := hu
      exact (vlist_places hv (Nat.le_trans hB hs.size) (by omega) ((hs.cell (o + 1) (by omega)).trans hc1) (hl1.stp hs) hk.kp (hs.keep hM hS) hn1').mono fun e w' ⟨h1, h2, h3⟩ => ⟨h1, ⟨_, by omega, h2⟩, (hs.wider (Nat.le_refl _) (by omega)).trans (h3.to (Nat.lt_of_lt_of_le hM hs.size) (hs.keep hM hS) _ _)⟩)
    (fun u hu => by
      obtain ⟨⟨L', hL', hv⟩, hs⟩ := hu
      exact (vnums_call (n := 2) hv (Nat.le_trans hB hs.size) (by omega) (fy1.step hs (.inl (Nat.le_refl _))) ((hr.part (a := 2) (m := 2) (by omega)).step hs (.inl (Nat.le_refl _))) k1 (Nat.lt_of_lt_of_le hM hs.size) (hs.keep hM hS) #[.pointer (some ⟨M, o + 2, none⟩), .pointer (some ⟨M, o + 3, none⟩)] 71 (fun j hj => match j, hj with | 0, _ => rfl | 1, _ => rfl)).mono fun e w' ⟨h1, h2, h3⟩ => ⟨h1, ⟨_, by omega, h2⟩, (hs.wider (Nat.le_refl _) (by omega)).trans (h3.wider (by omega) (by omega))⟩)
    (fun u hu => by
      obtain ⟨⟨L', hL', hv⟩, hs⟩ := hu
      exact (vplan_any hv (Nat.le_trans hB hs.size) (by omega) (fy2.step hs (.inl (by omega))) ((hr.part (a := 4) (m := 7) (by omega)).step hs (.inl (Nat.le_refl _))) k2 (Nat.lt_of_lt_of_le hM hs.size) (hs.keep hM hS)).mono fun e w' ⟨h1, h2, h3⟩ => ⟨h1, ⟨_, by omega, h2⟩, (hs.wider (Nat.le_refl _) (by omega)).trans (h3.wider (by omega) (by omega))⟩)
    (fun u hu => by
      obtain ⟨⟨L', hL', hv⟩, hs⟩ := hu
      exact (vlist_marks hv (Nat.le_trans hB hs.size) (by omega) ((hs.cell (o + 11) (by omega)).trans hc2) (hl2.stp hs) hk.km (hs.keep hM hS) hn2').mono fun e w' ⟨h1, h2, h3⟩ => ⟨h1, ⟨_, h2⟩, (hs.wider (Nat.le_refl _) (by omega)).trans (h3.to (Nat.lt_of_lt_of_le hM hs.size) (hs.keep hM hS) _ _)⟩)
    w ⟨⟨L, hL, h⟩, Stp.refl _ _ _ _ _⟩).mono fun e w' ⟨h1, h2, h3⟩ => ⟨h1, ?_, h3⟩
  obtain ⟨L', h2⟩ := h2
  refine ⟨L', ?_⟩
  unfold Cht.flds
  rw [e1, flds_append]
  simpa only [List.append_assoc] using h2

theorem xChart_any {B W R : Nat} {a : Option Addr} {n cp : Nat} {bs : List Int} {s : St} {M o : Nat} {w : World} (h : XS w B W R a n cp bs s) (hF : Far W R a M) (hM : M < w.heap.size) (hr : Room w M o 12) (hc1 : w.cell? ⟨M, o + 1, none⟩ = some (.slice none 0 0)) (hc2 : w.cell? ⟨M, o + 11, none⟩ = some (.slice none 0 0)) :
    Calls Try.prog 14 #[.pointer (some ⟨W, 0, none⟩), .pointer (some ⟨M, o, none⟩)] w fun e w' => e = .returned (.tuple #[]) ∧ XS w' B W R a n cp bs (chtA bs s).s ∧ ((chtA bs s).s.err = 0 → ChtAt w' (OutB B (Rown W R) M w') M o (chtA bs s).v) ∧ Stp (Rown W R) M o (o + 12) w w' := by
  have z1 : w.frozen? ⟨M, o + 1, none⟩ = false := (hr 1 (by omega)).2
  have z2 : w.frozen? ⟨M, o + 11, none⟩ = false := (hr 11 (by omega)).2
  obtain ⟨r0, e0⟩ : ∃ r, r = flatA bs [0] s := ⟨_, rfl⟩
  obtain ⟨rp, ep⟩ : ∃ r, r = listA bs (flatA bs [0, 3, 0]) r0.s := ⟨_, rfl⟩
  obtain ⟨r1, e1⟩ : ∃ r, r = flatA bs [0, 0, 0, 0, 0, 3, 3, 0, 0] rp.s := ⟨_, rfl⟩
  obtain ⟨rm, em⟩ : ∃ r, r = listA bs (flatA bs [0, 0, 2, 0, 0, 0, 0]) r1.s := ⟨_, rfl⟩
  have ec : chtA bs s = ⟨⟨r0.v, rp.v, r1.v, rm.v⟩, rm.s⟩ := by unfold chtA; rw [← e0, ← ep, ← e1, ← em]
  have l0 : r0.v.length = 1 := by rw [e0]; exact flatA_length bs [0] s
  have b2 : (flatA bs [0, 0] rp.s).s.err = 0 → rp.s.err = 0 := fun h5 => err_back (flatA bs [0, 0]) (fun s hs => flatA_stuck bs _ s hs) _ h5
  have e1' : r1 = ⟨(flatA bs [0, 0] rp.s).v ++ (flatA bs [0, 0, 0, 3, 3, 0, 0] (flatA bs [0, 0] rp.s).s).v, (flatA bs [0, 0, 0, 3, 3, 0, 0] (flatA bs [0, 0] rp.s).s).s⟩ := by rw [e1]; exact flatA_append bs [0, 0] [0, 0, 0, 3, 3, 0, 0] rp.s
  have b3 : r1.s.err = 0 → (flatA bs [0, 0] rp.s).s.err = 0 := fun h5 => err_back (flatA bs [0, 0, 0, 3, 3, 0, 0]) (fun s hs => flatA_stuck bs _ s hs) _ (by rw [e1'] at h5; exact h5)
  have b4 : rm.s.err = 0 → r1.s.err = 0 := fun h5 => err_back (listA bs (flatA bs [0, 0, 2, 0, 0, 0, 0])) (fun s hs => listA_stuck bs _ s hs) _ (by rw [← em]; exact h5)
  have l2 : (flatA bs [0, 0] rp.s).v.length = 2 := flatA_length bs [0, 0] _
  have l7 : r1.v.length = 9 := by rw [e1]; exact flatA_length bs _ _
  rw [ec]
  exact doc_Chart (M := M) (o := o) (W := W)
    (R0 := fun u => u = w)
    (R1 := fun u => XS u B W R a n cp bs r0.s ∧ FlatAt u (OutB B (Rown W R) M u) M o r0.v ∧ Stp (Rown W R) M o (o + 1) w u)
    (R2 := fun u => XS u B W R a n cp bs rp.s ∧ (rp.s.err = 0 → Rc1 B W R M o r0.v rp.v u) ∧ Stp (Rown W R) M o (o + 2) w u)
    (R3 := fun u => XS u B W R a n cp bs (flatA bs [0, 0] rp.s).s ∧ ((flatA bs [0, 0] rp.s).s.err = 0 → Rc1 B W R M o r0.v rp.v u ∧ FlatAt u (OutB B (Rown W R) M u) M (o + 2) (flatA bs [0, 0] rp.s).v) ∧ Stp (Rown W R) M o (o + 4) w u)
    (R4 := fun u => XS u B W R a n cp bs r1.s ∧ (r1.s.err = 0 → Rc1 B W R M o r0.v rp.v u ∧ FlatAt u (OutB B (Rown W R) M u) M (o + 2) r1.v) ∧ Stp (Rown W R) M o (o + 11) w u)
    (R5 := fun u => XS u B W R a n cp bs rm.s ∧ (rm.s.err = 0 → ChtAt u (OutB B (Rown W R) M u) M o ⟨r0.v, rp.v, r1.v, rm.v⟩) ∧ Stp (Rown W R) M o (o + 12) w u)
    (fun u hu => by
      subst hu
      exact (xnum_any h hF hM (hr.left (by omega))).mono fun e w' ⟨h1, h2, h3, h4⟩ => ⟨h1, by rw [e0]; exact h2, by rw [e0]; exact h3, h4⟩)
    (fun u hu => (xlist_places hu.1 hF ⟨_, _, _, (hu.2.2.cell (o + 1) (by omega)).trans hc1⟩ ((hu.2.2.frozen (o + 1)).trans z1)).mono fun e w' ⟨h1, h2, h3, h4⟩ => ⟨h1, by rw [ep]; exact h2, fun h5 => by
        obtain ⟨ad, k, c, h6, h7⟩ := h3 (by rw [← ep]; exact h5)
        rw [ep]
        exact ⟨hu.2.1.stepB h4 (.inr (by omega)), ad, k, c, h6, h7⟩, (hu.2.2.wider (Nat.le_refl _) (by omega)).trans (h4.wider (by omega) (Nat.le_refl _))⟩)
    (fun u hu => (xnums_call (k := 2) hu.1 hF (Nat.lt_of_lt_of_le hM hu.2.2.size) ((hr.part (a := 2) (m := 2) (by omega)).step hu.2.2 (.inl (Nat.le_refl _))) #[.pointer (some ⟨M, o + 2, none⟩), .pointer (some ⟨M, o + 3, none⟩)] 71 (fun j hj => match j, hj with | 0, _ => rfl | 1, _ => rfl)).mono fun e w' ⟨h1, h2, h3, h4⟩ => ⟨h1, h2, fun h5 => ⟨(hu.2.1 (b2 h5)).step h4 (Nat.le_refl _) l0, h3⟩, (hu.2.2.wider (Nat.le_refl _) (by omega)).trans (h4.wider (by omega) (Nat.le_refl _))⟩)
    (fun u hu => (xplan_any hu.1 hF (Nat.lt_of_lt_of_le hM hu.2.2.size) ((hr.part (a := 4) (m := 7) (by omega)).step hu.2.2 (.inl (Nat.le_refl _)))).mono fun e w' ⟨h1, h2, h3, h4⟩ => ⟨h1, by rw [e1']; exact h2, fun h5 => by
        have h6 := hu.2.1 (b3 h5)
        refine ⟨h6.1.step h4 (by omega) l0, ?_⟩
        rw [e1']
        exact (h6.2.stepB h4 (.inr (by omega))).append (by rw [l2]; exact h3), (hu.2.2.wider (Nat.le_refl _) (by omega)).trans (h4.wider (by omega) (Nat.le_refl _))⟩)
    (fun u hu => (xlist_marks hu.1 hF ⟨_, _, _, (hu.2.2.cell (o + 11) (by omega)).trans hc2⟩ ((hu.2.2.frozen (o + 11)).trans z2)).mono fun e w' ⟨h1, h2, h3, h4⟩ => ⟨h1, by rw [em]; exact h2, fun h5 => by
        obtain ⟨ad, k, c, h6, h7⟩ := h3 (by rw [← em]; exact h5)
        have h8 := hu.2.1 (b4 h5)
        have h9 := h8.1.step h4 (by omega) l0
        exact ⟨h9.1, h9.2, h8.2.stepB h4 (.inr (by omega)), ad, k, c, h6, by rw [em]; exact h7⟩, (hu.2.2.wider (Nat.le_refl _) (by omega)).trans (h4.wider (by omega) (Nat.le_refl _))⟩)
    w rfl
end Go.Proofs.Ytjhcedgncdcpjaa
