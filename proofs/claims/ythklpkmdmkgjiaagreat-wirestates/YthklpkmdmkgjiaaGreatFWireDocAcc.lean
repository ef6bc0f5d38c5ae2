/- What the document's walk writes and reads of an account. No condition but the size. -/
import Derived.Test.YthklpkmdmkgjiaaGreatFWireVLHolder
import Derived.Test.YthklpkmdmkgjiaaGreatFWireXLHolder
import Derived.Test.YthklpkmdmkgjiaaGreatJK
import Derived.Test.YthklpkmdmkgjiaaGreatFWireLa
namespace Go.Proofs.YthklpkmdmkgjiaaGreat
open Go.ChangeShapes Go.WideShapes Go.ChangeAt Go.RowKit B8 Cm Wm
set_option linter.unusedVariables false

theorem splitC {xs : List Atom} (h : xs.map Atom.k = [3, 0, 0, 0, 0]) : ∃ y1 y2 y3, xs = y1 ++ (y2 ++ y3) ∧ y1.map Atom.k = [3] ∧ y2.map Atom.k = [0, 0] ∧ y3.map Atom.k = [0, 0] := by
  obtain ⟨y1, r1, e1, k1, h1⟩ := List.map_eq_append_iff.1 (show _ = [3] ++ [0, 0, 0, 0] from h)
  obtain ⟨y2, y3, e2, k2, k3⟩ := List.map_eq_append_iff.1 (show _ = [0, 0] ++ [0, 0] from h1)
  exact ⟨y1, y2, y3, by rw [e1, e2], k1, k2, k3⟩
theorem vaccount_any {w : World} {B W L : Nat} {fs : List Fld} {M o : Nat} {x : Acc} (h : VS w B W L fs) (hB : B ≤ w.heap.size) (hL : L + 111050 ≤ 70368744177664) (hx : AccAt w (Out (Wown W) M w) M o x) (hr : Room w M o 10) (hk : AccK x) (hM : M < w.heap.size) (hS : ¬ Wown W w M) (hn : x.hs.length ≤ 140737488355328) :
    Calls Tryz.prog 70 #[.pointer (some ⟨W, 0, none⟩), .pointer (some ⟨M, o, none⟩)] w fun e w' => e = .returned (.tuple #[]) ∧ VS w' B W (L + 111050) (fs ++ x.flds) ∧ Stp (Wown W) M o (o + 10) w w' := by
  obtain ⟨a1, n1, c1, hc1, hl1⟩ := hx.hs
  obtain ⟨y1, y2, y3, ey, k1, k2, k3⟩ := splitC hk.k0
  have ly1 : y1.length = 1 := by have := congrArg List.length k1; simpa using this
  have ly2 : y2.length = 2 := by have := congrArg List.length k2; simpa using this
  have fy := hx.f0'
  rw [ey] at fy
  have fy1 := fy.left
  have fr := fy.right
  rw [ly1] at fr
  have fy2 := fr.left
  have fy3 := fr.right
  rw [ly2, Nat.add_assoc] at fy3
  have fp := hx.f1'
  have hn' : n1 ≤ 140737488355328 := by rw [← hl1.length]; exact hn
  refine (doc_account (M := M) (o := o) (W := W)
    (R0 := fun u => (∃ L', L' ≤ L ∧ VS u B W L' fs) ∧ Stp (Wown W) M o (o + 0) w u)
    (R1 := fun u => (∃ L', L' ≤ L + 70000 ∧ VS u B W L' (fs ++ flds y1)) ∧ Stp (Wown W) M o (o + 1) w u)
    (R2 := fun u => (∃ L', L' ≤ L + 70020 ∧ VS u B W L' (fs ++ flds y1 ++ flds y2)) ∧ Stp (Wown W) M o (o + 3) w u)
    (R3 := fun u => (∃ L', L' ≤ L + 70040 ∧ VS u B W L' (fs ++ flds y1 ++ flds y2 ++ flds y3)) ∧ Stp (Wown W) M o (o + 5) w u)
    (R4 := fun u => (∃ L', L' ≤ L + 111010 ∧ VS u B W L' (fs ++ flds y1 ++ flds y2 ++ flds y3 ++ listF flds x.hs)) ∧ Stp (Wown W) M o (o + 6) w u)
    (R5 := fun u => (∃ L', L' ≤ L + 111050 ∧ VS u B W L' (fs ++ flds y1 ++ flds y2 ++ flds y3 ++ listF flds x.hs ++ flds x.x1)) ∧ Stp (Wown W) M o (o + 10) w u)
    (fun u hu => by
      obtain ⟨⟨L', hL', hv⟩, hs⟩ := hu
      exact (vtext_call hv (Nat.le_trans hB hs.size) (by omega) (fy1.step hs (.inl (Nat.le_refl _))) ((hr.part (a := 0) (m := 1) (by omega)).step hs (.inl (Nat.le_refl _))) k1 (Nat.lt_of_lt_of_le hM hs.size) (hs.keep hM hS)).mono fun e w' ⟨h1, h2, h3⟩ => ⟨h1, ⟨_, by omega, h2⟩, (hs.wider (Nat.le_refl _) (by omega)).trans h3⟩)
    (fun u hu => by
      obtain ⟨⟨L', hL', hv⟩, hs⟩ := hu
      exact (vspan_any hv (Nat.le_trans hB hs.size) (by omega) (fy2.step hs (.inl (Nat.le_refl _))) ((hr.part (a := 1) (m := 2) (by omega)).step hs (.inl (Nat.le_refl _))) k2 (Nat.lt_of_lt_of_le hM hs.size) (hs.keep hM hS)).mono fun e w' ⟨h1, h2, h3⟩ => ⟨h1, ⟨_, by omega, h2⟩, (hs.wider (Nat.le_refl _) (by omega)).trans (h3.wider (by omega) (by omega))⟩)
    (fun u hu => by
      obtain ⟨⟨L', hL', hv⟩, hs⟩ := hu
      exact (vnums_call (n := 2) hv (Nat.le_trans hB hs.size) (by omega) (fy3.step hs (.inl (Nat.le_refl _))) ((hr.part (a := 3) (m := 2) (by omega)).step hs (.inl (Nat.le_refl _))) k3 (Nat.lt_of_lt_of_le hM hs.size) (hs.keep hM hS) #[.pointer (some ⟨M, o + 3, none⟩), .pointer (some ⟨M, o + 4, none⟩)] 82 (fun j hj => match j, hj with | 0, _ => rfl | 1, _ => rfl)).mono fun e w' ⟨h1, h2, h3⟩ => ⟨h1, ⟨_, by omega, h2⟩, (hs.wider (Nat.le_refl _) (by omega)).trans (h3.wider (by omega) (by omega))⟩)
    (fun u hu => by
      obtain ⟨⟨L', hL', hv⟩, hs⟩ := hu
      exact (vlist_holders hv (Nat.le_trans hB hs.size) (by omega) ((hs.cell (o + 5) (by omega)).trans hc1) (hl1.stp hs) hk.kh (hs.keep hM hS) hn').mono fun e w' ⟨h1, h2, h3⟩ => ⟨h1, ⟨_, by omega, h2⟩, (hs.wider (Nat.le_refl _) (by omega)).trans (h3.to (Nat.lt_of_lt_of_le hM hs.size) (hs.keep hM hS) _ _)⟩)
    (fun u hu => by
      obtain ⟨⟨L', hL', hv⟩, hs⟩ := hu
      exact (vlock_any hv (Nat.le_trans hB hs.size) (by omega) (fp.step hs (.inl (by omega))) ((hr.part (a := 6) (m := 4) (by omega)).step hs (.inl (Nat.le_refl _))) hk.k1 (Nat.lt_of_lt_of_le hM hs.size) (hs.keep hM hS)).mono fun e w' ⟨h1, h2, h3⟩ => ⟨h1, ⟨_, by omega, h2⟩, (hs.wider (Nat.le_refl _) (by omega)).trans (h3.wider (by omega) (by omega))⟩)
    w ⟨⟨L, Nat.le_refl _, h⟩, Stp.refl _ _ _ _ _⟩).mono fun e w' ⟨h1, h2, h3⟩ => ⟨h1, ?_, h3⟩
  obtain ⟨L', hL', h2⟩ := h2
  unfold Acc.flds
  rw [ey, flds_append, flds_append]
  have := h2.wide hL' hL
  simpa only [List.append_assoc] using this
theorem xaccount_any {B W R : Nat} {a : Option Addr} {n cp : Nat} {bs : List Int} {s : St} {M o : Nat} {w : World} (h : XS w B W R a n cp bs s) (hF : Far W R a M) (hM : M < w.heap.size) (hr : Room w M o 10) (hc1 : ∃ av nv cv, w.cell? ⟨M, o + 5, none⟩ = some (.slice av nv cv)) :
    Calls Tryz.prog 70 #[.pointer (some ⟨W, 0, none⟩), .pointer (some ⟨M, o, none⟩)] w fun e w' => e = .returned (.tuple #[]) ∧ XS w' B W R a n cp bs (accA bs s).s ∧ ((accA bs s).s.err = 0 → AccAt w' (OutB B (Rown W R) M w') M o (accA bs s).v) ∧ (∀ j, j < 10 → ∃ v, w'.cell? ⟨M, o + j, none⟩ = some v ∧ v.oneCell' = true) ∧ Stp (Rown W R) M o (o + 10) w w' := by
  have z1 : w.frozen? ⟨M, o + 5, none⟩ = false := (hr 5 (by omega)).2
  obtain ⟨av, nv, cv, hc1⟩ := hc1
  obtain ⟨r0, e0⟩ : ∃ r, r = flatA bs [3, 0, 0, 0, 0] s := ⟨_, rfl⟩
  obtain ⟨rv, ev⟩ : ∃ r, r = listA bs (flatA bs [0, 0, 0, 0]) r0.s := ⟨_, rfl⟩
  obtain ⟨r1, e1⟩ : ∃ r, r = flatA bs [0, 0, 0, 0] rv.s := ⟨_, rfl⟩
  have ec : accA bs s = ⟨⟨r0.v, rv.v, r1.v⟩, r1.s⟩ := by unfold accA; rw [← e0, ← ev, ← e1]
  have l0 : r0.v.length = 5 := by rw [e0]; exact flatA_length bs _ s
  have l1 : r1.v.length = 4 := by rw [e1]; exact flatA_length bs _ _
  have b3 : r1.s.err = 0 → rv.s.err = 0 := fun h5 => err_back (flatA bs [0, 0, 0, 0]) (fun s hs => flatA_stuck bs _ s hs) _ (by rw [← e1]; exact h5)
  have flc : ∀ {u : World} {P : Nat → Prop} {o j : Nat} {xs : List Atom}, FlatAt u P M o xs → j < xs.length → ∃ v, u.cell? ⟨M, o + j, none⟩ = some v ∧ v.oneCell' = true := fun hf hj => by
    obtain ⟨v, h1, h2⟩ := hf _ _ (List.getElem?_eq_getElem hj)
    exact ⟨v, h1, atomV_one h2⟩
  rw [ec]
  exact doc_account (M := M) (o := o) (W := W)
    (R0 := XI B W R a n cp bs s M o w [])
    (R1 := XI B W R a n cp bs s M o w [3])
    (R2 := XI B W R a n cp bs s M o w [3, 0, 0])
    (R3 := XI B W R a n cp bs s M o w [3, 0, 0, 0, 0])
    (R4 := fun u => XS u B W R a n cp bs rv.s ∧ (rv.s.err = 0 → Rac B W R M o r0.v rv.v u) ∧ FlatAt u (OutB B (Rown W R) M u) M o r0.v ∧ (∃ a n cp, u.cell? ⟨M, o + 5, none⟩ = some (.slice a n cp)) ∧ Stp (Rown W R) M o (o + 6) w u)
    (R5 := fun u => XS u B W R a n cp bs r1.s ∧ (r1.s.err = 0 → AccAt u (OutB B (Rown W R) M u) M o ⟨r0.v, rv.v, r1.v⟩) ∧ (∀ j, j < 10 → ∃ v, u.cell? ⟨M, o + j, none⟩ = some v ∧ v.oneCell' = true) ∧ Stp (Rown W R) M o (o + 10) w u)
    (fun u hu => (xtext_call hu.1 hF (hu.lt hM) (hu.room hr (show 0 + 1 ≤ 10 by omega))).mono fun e w' ⟨h1, h2⟩ => ⟨h1, hu.more h2⟩)
    (fun u hu => (xspan_any hu.1 hF (hu.lt hM) (hu.room hr (show 1 + 2 ≤ 10 by omega))).mono fun e w' ⟨h1, h2⟩ => ⟨h1, hu.more h2⟩)
    (fun u hu => (xnums_call (k := 2) hu.1 hF (hu.lt hM) (hu.room hr (show 3 + 2 ≤ 10 by omega)) #[.pointer (some ⟨M, o + 3, none⟩), .pointer (some ⟨M, o + 4, none⟩)] 82 (fun j hj => match j, hj with | 0, _ => rfl | 1, _ => rfl)).mono fun e w' ⟨h1, h2⟩ => ⟨h1, hu.more h2⟩)
    (fun u hu => by
      have hu0 : XS u B W R a n cp bs r0.s ∧ FlatAt u (OutB B (Rown W R) M u) M o r0.v ∧ Stp (Rown W R) M o (o + 5) w u := by rw [e0]; exact hu
      exact (xlist_holders hu0.1 hF ⟨_, _, _, (hu0.2.2.cell (o + 5) (by omega)).trans hc1⟩ ((hu0.2.2.frozen (o + 5)).trans z1)).mono fun e w' ⟨h1, h2, h3, h4, h4'⟩ => ⟨h1, by rw [ev]; exact h2, fun h5 => by
        obtain ⟨ad, k, c, h6, h7⟩ := h3 (by rw [← ev]; exact h5)
        rw [ev]
        exact ⟨hu0.2.1.stepB h4' (.inr (by omega)), ad, k, c, h6, h7⟩, hu0.2.1.stepB h4' (.inr (by omega)), h4, (hu0.2.2.wider (Nat.le_refl _) (by omega)).trans (h4'.wider (by omega) (Nat.le_refl _))⟩)
    (fun u hu => (xlock_any hu.1 hF (Nat.lt_of_lt_of_le hM hu.2.2.2.2.size) ((hr.part (a := 6) (m := 4) (by omega)).step hu.2.2.2.2 (.inl (Nat.le_refl _)))).mono fun e w' ⟨h1, h2, h3, h4⟩ => ⟨h1, by rw [e1]; exact h2, fun h5 => by
        have h9 := (hu.2.1 (b3 h5)).step h4 (by omega) l0
        exact AccAt.mk' h9.1 h9.2 (by rw [e1]; exact h3), fun j hj => by
        by_cases j5 : j < 5
        · exact flc (hu.2.2.1.stepB h4 (.inr (by omega))) (by omega)
        · by_cases j6 : j = 5
          · obtain ⟨a', n', c', hc'⟩ := hu.2.2.2.1
            exact ⟨_, by rw [j6]; exact (h4.cell (o + 5) (by omega)).trans hc', rfl⟩
          · have := flc (u := w') (o := o + 6) (j := j - 6) h3 (by rw [flatA_length]; show j - 6 < 4; omega)
            rw [show o + 6 + (j - 6) = o + j by omega] at this
            exact this, (hu.2.2.2.2.wider (Nat.le_refl _) (by omega)).trans (h4.wider (by omega) (Nat.le_refl _))⟩)
    w (XI.start h)
end Go.Proofs.YthklpkmdmkgjiaaGreat
