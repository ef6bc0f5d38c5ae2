/- What the document's walk writes and reads of a letter behind its group. No condition but the size. -/
import Derived.Test.YtmajhkmgdkbjoaaGreatFWireVLVote
import Derived.Test.YtmajhkmgdkbjoaaGreatFWireVLEntry
import Derived.Test.YtmajhkmgdkbjoaaGreatFWireXLVote
import Derived.Test.YtmajhkmgdkbjoaaGreatFWireXLEntry
import Derived.Test.YtmajhkmgdkbjoaaGreatFWireRefCletter
import Derived.Test.YtmajhkmgdkbjoaaGreatFWireVPiece
import Derived.Test.YtmajhkmgdkbjoaaGreatFWireXPiece
import Derived.Test.YtmajhkmgdkbjoaaGreatFWireLetterVal
namespace Go.Proofs.YtmajhkmgdkbjoaaGreat
open Go.ChangeShapes Go.WideShapes Go.ChangeAt Go.RowKit B8 Cm Wm
set_option linter.unusedVariables false

theorem split4 {xs : List Atom} (h : xs.map Atom.k = List.replicate 8 0) : ∃ y1 y2 y3, xs = y1 ++ (y2 ++ y3) ∧ y1.map Atom.k = [0, 0, 0, 0] ∧ y2.map Atom.k = [0, 0] ∧ y3.map Atom.k = [0, 0] := by
  obtain ⟨y1, r, e1, k1, k2⟩ := List.map_eq_append_iff.1 (show _ = [0, 0, 0, 0] ++ [0, 0, 0, 0] from h)
  obtain ⟨y2, y3, e2, k3, k4⟩ := List.map_eq_append_iff.1 (show _ = [0, 0] ++ [0, 0] from k2)
  exact ⟨y1, y2, y3, by rw [e1, e2], k1, k3, k4⟩
theorem vLetter_any {w : World} {B W L : Nat} {fs : List Fld} {M o : Nat} {x : Let} (h : VS w B W L fs) (hB : B ≤ w.heap.size) (hL : L ≤ 1000000) (hx : LetAt 8 w (Out (Wown W) M w) M o x) (hk : LetK 8 x) (hr : Room w M o 14) (hS : ¬ Wown W w M) (hM : M < w.heap.size) (hn1 : x.vs.length ≤ 140737488355328) (hn2 : x.es.length ≤ 140737488355328) :
    Calls Tryz.prog 13 #[.pointer (some ⟨W, 0, none⟩), .pointer (some ⟨M, o, none⟩)] w fun e w' => e = .returned (.tuple #[]) ∧ (∃ L', VS w' B W L' (fs ++ x.flds)) ∧ Stp (Wown W) M o (o + 14) w w' := by
  obtain ⟨a1, n1, c1, hc1, hl1⟩ := hx.vs
  obtain ⟨a2, n2, c2, hc2, hl2⟩ := hx.es
  obtain ⟨y1, y2, y3, e1, k1, k2, k3⟩ := split4 hk.k0
  have ly1 : y1.length = 4 := by have := congrArg List.length k1; simpa using this
  have ly2 : y2.length = 2 := by have := congrArg List.length k2; simpa using this
  have fy := hx.f0
  rw [e1] at fy
  have fy1 := fy.left
  have fr := fy.right
  rw [ly1] at fr
  have fy2 := fr.left
  have fy3 := fr.right
  rw [ly2, Nat.add_assoc] at fy3
  have fp := hx.f1
  have hn1' : n1 ≤ 140737488355328 := by rw [← hl1.length]; exact hn1
  have hn2' : n2 ≤ 140737488355328 := by rw [← hl2.length]; exact hn2
  refine (doc_Letter (M := M) (o := o) (W := W)
    (R0 := fun u => (∃ L', L' ≤ 1000000 ∧ VS u B W L' fs) ∧ Stp (Wown W) M o (o + 0) w u)
    (R1 := fun u => (∃ L', L' ≤ 1000100 ∧ VS u B W L' (fs ++ flds y1)) ∧ Stp (Wown W) M o (o + 4) w u)
    (R2 := fun u => (∃ L', L' ≤ 1000200 ∧ VS u B W L' (fs ++ flds y1 ++ flds y2)) ∧ Stp (Wown W) M o (o + 6) w u)
    (R3 := fun u => (∃ L', L' ≤ 1000300 ∧ VS u B W L' (fs ++ flds y1 ++ flds y2 ++ flds y3)) ∧ Stp (Wown W) M o (o + 8) w u)
    (R4 := fun u => (∃ L', L' ≤ 80000000 ∧ VS u B W L' (fs ++ flds y1 ++ flds y2 ++ flds y3 ++ listF flds x.vs)) ∧ Stp (Wown W) M o (o + 9) w u)
    (R5 := fun u => (∃ L', L' ≤ 160000000 ∧ VS u B W L' (fs ++ flds y1 ++ flds y2 ++ flds y3 ++ listF flds x.vs ++ listF flds x.es)) ∧ Stp (Wown W) M o (o + 10) w u)
    (R6 := fun u => (∃ L', VS u B W L' (fs ++ flds y1 ++ flds y2 ++ flds y3 ++ listF flds x.vs ++ listF flds x.es ++ flds x.x1)) ∧ Stp (Wown W) M o (o + 14) w u)
    (fun u hu => by
      obtain ⟨⟨L', hL', hv⟩, hs⟩ := hu
      exact (vnums_call (n := 4) hv (Nat.le_trans hB hs.size) (by omega) (fy1.step hs (.inl (Nat.le_refl _))) ((hr.part (a := 0) (m := 4) (by omega)).step hs (.inl (Nat.le_refl _))) k1 (Nat.lt_of_lt_of_le hM hs.size) (hs.keep hM hS) #[.pointer (some ⟨M, o, none⟩), .pointer (some ⟨M, o + 1, none⟩), .pointer (some ⟨M, o + 2, none⟩), .pointer (some ⟨M, o + 3, none⟩)] 79 (fun j hj => match j, hj with | 0, _ => rfl | 1, _ => rfl | 2, _ => rfl | 3, _ => rfl)).mono fun e w' ⟨h1, h2, h3⟩ => ⟨h1, ⟨_, by omega, h2⟩, (hs.wider (Nat.le_refl _) (by omega)).trans h3⟩)
    (fun u hu => by
      obtain ⟨⟨L', hL', hv⟩, hs⟩ := hu
      exact (vballot_any hv (Nat.le_trans hB hs.size) (by omega) (fy2.step hs (.inl (Nat.le_refl _))) ((hr.part (a := 4) (m := 2) (by omega)).step hs (.inl (Nat.le_refl _))) k2 (Nat.lt_of_lt_of_le hM hs.size) (hs.keep hM hS)).mono fun e w' ⟨h1, h2, h3⟩ => ⟨h1, ⟨_, by omega, h2⟩, (hs.wider (Nat.le_refl _) (by omega)).trans (h3.wider (by omega) (by omega))⟩)
    (fun u hu => by
      obtain ⟨⟨L', hL', hv⟩, hs⟩ := hu
      exact (vnums_call (n := 2) hv (Nat.le_trans hB hs.size) (by omega) (fy3.step hs (.inl (Nat.le_refl _))) ((hr.part (a := 6) (m := 2) (by omega)).step hs (.inl (Nat.le_refl _))) k3 (Nat.lt_of_lt_of_le hM hs.size) (hs.keep hM hS) #[.pointer (some ⟨M, o + 6, none⟩), .pointer (some ⟨M, o + 7, none⟩)] 79 (fun j hj => match j, hj with | 0, _ => rfl | 1, _ => rfl)).mono fun e w' ⟨h1, h2, h3⟩ => ⟨h1, ⟨_, by omega, h2⟩, (hs.wider (Nat.le_refl _) (by omega)).trans (h3.wider (by omega) (by omega))⟩)
    (fun u hu => by
      obtain ⟨⟨L', hL', hv⟩, hs⟩ := hu
      exact (vlist_votes hv (Nat.le_trans hB hs.size) (by omega) ((hs.cell (o + 8) (by omega)).trans hc1) (hl1.stp hs) hk.kv (hs.keep hM hS) hn1').mono fun e w' ⟨h1, h2, h3⟩ => ⟨h1, ⟨_, by omega, h2⟩, (hs.wider (Nat.le_refl _) (by omega)).trans (h3.to (Nat.lt_of_lt_of_le hM hs.size) (hs.keep hM hS) _ _)⟩)
    (fun u hu => by
      obtain ⟨⟨L', hL', hv⟩, hs⟩ := hu
      exact (vlist_entries hv (Nat.le_trans hB hs.size) (by omega) ((hs.cell (o + 9) (by omega)).trans hc2) (hl2.stp hs) hk.ke (hs.keep hM hS) hn2').mono fun e w' ⟨h1, h2, h3⟩ => ⟨h1, ⟨_, by omega, h2⟩, (hs.wider (Nat.le_refl _) (by omega)).trans (h3.to (Nat.lt_of_lt_of_le hM hs.size) (hs.keep hM hS) _ _)⟩)
    (fun u hu => by
      obtain ⟨⟨L', hL', hv⟩, hs⟩ := hu
      exact (vpiece_any hv (Nat.le_trans hB hs.size) (by omega) (fp.step hs (.inl (by omega))) ((hr.part (a := 10) (m := 4) (by omega)).step hs (.inl (Nat.le_refl _))) hk.k1 (Nat.lt_of_lt_of_le hM hs.size) (hs.keep hM hS)).mono fun e w' ⟨h1, h2, h3⟩ => ⟨h1, ⟨_, h2⟩, (hs.wider (Nat.le_refl _) (by omega)).trans (h3.wider (by omega) (by omega))⟩)
    w ⟨⟨L, hL, h⟩, Stp.refl _ _ _ _ _⟩).mono fun e w' ⟨h1, h2, h3⟩ => ⟨h1, ?_, h3⟩
  obtain ⟨L', h2⟩ := h2
  refine ⟨L', ?_⟩
  unfold Let.flds
  rw [e1, flds_append, flds_append]
  simpa only [List.append_assoc] using h2

theorem xLetter_any {B W R : Nat} {a : Option Addr} {n cp : Nat} {bs : List Int} {s : St} {M o : Nat} {w : World} (h : XS w B W R a n cp bs s) (hF : Far W R a M) (hM : M < w.heap.size) (hr : Room w M o 14) (hc1 : w.cell? ⟨M, o + 8, none⟩ = some (.slice none 0 0)) (hc2 : w.cell? ⟨M, o + 9, none⟩ = some (.slice none 0 0)) :
    Calls Tryz.prog 13 #[.pointer (some ⟨W, 0, none⟩), .pointer (some ⟨M, o, none⟩)] w fun e w' => e = .returned (.tuple #[]) ∧ XS w' B W R a n cp bs (letA 8 bs s).s ∧ ((letA 8 bs s).s.err = 0 → LetAt 8 w' (OutB B (Rown W R) M w') M o (letA 8 bs s).v) ∧ Stp (Rown W R) M o (o + 14) w w' := by
  have z1 : w.frozen? ⟨M, o + 8, none⟩ = false := (hr 8 (by omega)).2
  have z2 : w.frozen? ⟨M, o + 9, none⟩ = false := (hr 9 (by omega)).2
  obtain ⟨r0, e0⟩ : ∃ r, r = flatA bs [0, 0, 0, 0, 0, 0, 0, 0] s := ⟨_, rfl⟩
  obtain ⟨rv, ev⟩ : ∃ r, r = listA bs (flatA bs [0, 0, 0, 4]) r0.s := ⟨_, rfl⟩
  obtain ⟨re, ee⟩ : ∃ r, r = listA bs (flatA bs [0, 4]) rv.s := ⟨_, rfl⟩
  obtain ⟨r1, e1⟩ : ∃ r, r = flatA bs [0, 0, 1, 4] re.s := ⟨_, rfl⟩
  have ec : letA 8 bs s = ⟨⟨r0.v, rv.v, re.v, r1.v⟩, r1.s⟩ := by
    unfold letA letB
    rw [show List.replicate 8 0 = [0, 0, 0, 0, 0, 0, 0, 0] from rfl, ← e0, ← ev, ← ee, ← e1]
  have l0 : r0.v.length = 8 := by rw [e0]; exact flatA_length bs _ s
  have b2 : re.s.err = 0 → rv.s.err = 0 := fun h5 => err_back (listA bs (flatA bs [0, 4])) (fun s hs => listA_stuck bs _ s hs) _ (by rw [← ee]; exact h5)
  have b3 : r1.s.err = 0 → re.s.err = 0 := fun h5 => err_back (flatA bs [0, 0, 1, 4]) (fun s hs => flatA_stuck bs _ s hs) _ (by rw [← e1]; exact h5)
  rw [ec]
  exact doc_Letter (M := M) (o := o) (W := W)
    (R0 := XI B W R a n cp bs s M o w [])
    (R1 := XI B W R a n cp bs s M o w [0, 0, 0, 0])
    (R2 := XI B W R a n cp bs s M o w [0, 0, 0, 0, 0, 0])
    (R3 := XI B W R a n cp bs s M o w [0, 0, 0, 0, 0, 0, 0, 0])
    (R4 := fun u => XS u B W R a n cp bs rv.s ∧ (rv.s.err = 0 → Rm1 8 B W R M o r0.v rv.v u) ∧ Stp (Rown W R) M o (o + 9) w u)
    (R5 := fun u => XS u B W R a n cp bs re.s ∧ (re.s.err = 0 → Rm2 8 B W R M o r0.v rv.v re.v u) ∧ Stp (Rown W R) M o (o + 10) w u)
    (R6 := fun u => XS u B W R a n cp bs r1.s ∧ (r1.s.err = 0 → LetAt 8 u (OutB B (Rown W R) M u) M o ⟨r0.v, rv.v, re.v, r1.v⟩) ∧ Stp (Rown W R) M o (o + 14) w u)
    (fun u hu => (xnums_call (k := 4) hu.1 hF (hu.lt hM) (hu.room hr (show 0 + 4 ≤ 14 by omega)) #[.pointer (some ⟨M, o, none⟩), .pointer (some ⟨M, o + 1, none⟩), .pointer (some ⟨M, o + 2, none⟩), .pointer (some ⟨M, o + 3, none⟩)] 79 (fun j hj => match j, hj with | 0, _ => rfl | 1, _ => rfl | 2, _ => rfl | 3, _ => rfl)).mono fun e w' ⟨h1, h2⟩ => ⟨h1, hu.more h2⟩)
    (fun u hu => (xballot_any hu.1 hF (hu.lt hM) (hu.room hr (show 4 + 2 ≤ 14 by omega))).mono fun e w' ⟨h1, h2⟩ => ⟨h1, hu.more h2⟩)
    (fun u hu => (xnums_call (k := 2) hu.1 hF (hu.lt hM) (hu.room hr (show 6 + 2 ≤ 14 by omega)) #[.pointer (some ⟨M, o + 6, none⟩), .pointer (some ⟨M, o + 7, none⟩)] 79 (fun j hj => match j, hj with | 0, _ => rfl | 1, _ => rfl)).mono fun e w' ⟨h1, h2⟩ => ⟨h1, hu.more h2⟩)
    (fun u hu => by
      have hu0 : XS u B W R a n cp bs r0.s ∧ FlatAt u (OutB B (Rown W R) M u) M o r0.v ∧ Stp (Rown W R) M o (o + 8) w u := by rw [e0]; exact hu
      exact (xlist_votes hu0.1 hF ⟨_, _, _, (hu0.2.2.cell (o + 8) (by omega)).trans hc1⟩ ((hu0.2.2.frozen (o + 8)).trans z1)).mono fun e w' ⟨h1, h2, h3, h4⟩ => ⟨h1, by rw [ev]; exact h2, fun h5 => by
        obtain ⟨ad, k, c, h6, h7⟩ := h3 (by rw [← ev]; exact h5)
        rw [ev]
        exact ⟨hu0.2.1.stepB h4 (.inr (by omega)), ad, k, c, h6, h7⟩, (hu0.2.2.wider (Nat.le_refl _) (by omega)).trans (h4.wider (by omega) (Nat.le_refl _))⟩)
    (fun u hu => (xlist_entries hu.1 hF ⟨_, _, _, (hu.2.2.cell (o + 9) (by omega)).trans hc2⟩ ((hu.2.2.frozen (o + 9)).trans z2)).mono fun e w' ⟨h1, h2, h3, h4⟩ => ⟨h1, by rw [ee]; exact h2, fun h5 => by
        obtain ⟨ad, k, c, h6, h7⟩ := h3 (by rw [← ee]; exact h5)
        rw [ee]
        exact ⟨(hu.2.1 (b2 h5)).step h4 (by omega) l0, ad, k, c, h6, h7⟩, (hu.2.2.wider (Nat.le_refl _) (by omega)).trans (h4.wider (by omega) (Nat.le_refl _))⟩)
    (fun u hu => (xpiece_any hu.1 hF (Nat.lt_of_lt_of_le hM hu.2.2.size) ((hr.part (a := 10) (m := 4) (by omega)).step hu.2.2 (.inl (Nat.le_refl _)))).mono fun e w' ⟨h1, h2, h3, h4⟩ => ⟨h1, by rw [e1]; exact h2, fun h5 => by
        have h9 := (hu.2.1 (b3 h5)).step h4 (by omega) l0
        exact ⟨h9.1.1, h9.1.2, h9.2, by rw [e1]; exact h3⟩, (hu.2.2.wider (Nat.le_refl _) (by omega)).trans (h4.wider (by omega) (Nat.le_refl _))⟩)
    w (XI.start h)
end Go.Proofs.YtmajhkmgdkbjoaaGreat
