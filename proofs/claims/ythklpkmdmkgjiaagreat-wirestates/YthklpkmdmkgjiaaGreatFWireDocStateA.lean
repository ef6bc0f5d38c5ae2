/- What the document's walk writes and reads of a state behind its group. No condition but the size. -/
import Derived.Test.YthklpkmdmkgjiaaGreatFWireVLAccount
import Derived.Test.YthklpkmdmkgjiaaGreatJO
import Derived.Test.YthklpkmdmkgjiaaGreatFWireXLAccount
import Derived.Test.YthklpkmdmkgjiaaGreatJQ
import Derived.Test.YthklpkmdmkgjiaaGreatJK
import Derived.Test.YthklpkmdmkgjiaaGreatFWireStateVal
namespace Go.Proofs.YthklpkmdmkgjiaaGreat
open Go.ChangeShapes Go.WideShapes Go.ChangeAt Go.RowKit B8 Cm Wm
set_option linter.unusedVariables false

theorem splitTwo {xs : List Atom} (h : xs.map Atom.k = [3, 3]) : ∃ y1 y2, xs = y1 ++ y2 ∧ y1.map Atom.k = [3] ∧ y2.map Atom.k = [3] := by
  obtain ⟨y1, y2, e1, k1, k2⟩ := List.map_eq_append_iff.1 (show _ = [3] ++ [3] from h)
  exact ⟨y1, y2, e1, k1, k2⟩
set_option maxHeartbeats 2000000 in
theorem vState_any {w : World} {B W L : Nat} {fs : List Fld} {M o : Nat} {x : Sta} (h : VS w B W L fs) (hB : B ≤ w.heap.size) (hL : L ≤ 1000000) (hx : StaAt w (Out (Wown W) M w) M o x) (hk : StaK x) (hr : Room w M o 29) (hS : ¬ Wown W w M) (hM : M < w.heap.size) (hn1 : x.acs.length ≤ 140737488355328) (hnh : ∀ a ∈ x.acs, a.hs.length ≤ 140737488355328) (hn2 : x.ms.length ≤ 140737488355328) (hn3 : x.ws.length ≤ 140737488355328) (hn4 : x.ds.length ≤ 140737488355328) (hn5 : x.es.length ≤ 140737488355328) :
    Calls Tryz.prog 15 #[.pointer (some ⟨W, 0, none⟩), .pointer (some ⟨M, o, none⟩)] w fun e w' => e = .returned (.tuple #[]) ∧ (∃ L', VS w' B W L' (fs ++ x.flds)) ∧ Stp (Wown W) M o (o + 29) w w' := by
  obtain ⟨a1, n1, c1, hc1, hl1⟩ := hx.acs
  obtain ⟨a2, n2, c2, hc2, hl2⟩ := hx.ms
  obtain ⟨a3, n3, c3, hc3, hl3⟩ := hx.ws
  obtain ⟨a4, n4, c4, hc4, hl4⟩ := hx.ds
  obtain ⟨a5, n5, c5, hc5, hl5⟩ := hx.es
  obtain ⟨y1, y2, y33, y4, ey, k1, k2, k33, k4⟩ := splitA hk.k0
  obtain ⟨y3, y3b, ey3, k3, k3b⟩ := splitTwo k33
  obtain ⟨z1, z2, z3, z4, ez, j1, j2, j3, j4⟩ := splitB hk.k1
  have ly1 : y1.length = 2 := by have := congrArg List.length k1; simpa using this
  have ly2 : y2.length = 1 := by have := congrArg List.length k2; simpa using this
  have ly3 : y3.length = 1 := by have := congrArg List.length k3; simpa using this
  have ly3b : y3b.length = 1 := by have := congrArg List.length k3b; simpa using this
  have lz1 : z1.length = 7 := by have := congrArg List.length j1; simpa using this
  have lz2 : z2.length = 7 := by have := congrArg List.length j2; simpa using this
  have lz3 : z3.length = 1 := by have := congrArg List.length j3; simpa using this
  have fy := hx.f0'
  rw [ey, ey3, List.append_assoc] at fy
  have fy1 := fy.left
  have t2 := fy.right
  rw [ly1] at t2
  have fy2 := t2.left
  have t3 := t2.right
  rw [ly2, Nat.add_assoc] at t3
  have fy3 := t3.left
  have t4 := t3.right
  rw [ly3, Nat.add_assoc] at t4
  have fy3b := t4.left
  have fy4 := t4.right
  rw [ly3b, Nat.add_assoc] at fy4
  have fz := hx.f1'
  rw [ez] at fz
  have fz1 := fz.left
  have t5 := fz.right
  rw [lz1, Nat.add_assoc] at t5
  have fz2 := t5.left
  have t6 := t5.right
  rw [lz2, Nat.add_assoc] at t6
  have fz3 := t6.left
  have fz4 := t6.right
  rw [lz3, Nat.add_assoc] at fz4
  have hn1' : n1 ≤ 140737488355328 := by rw [← hl1.length]; exact hn1
  have hn2' : n2 ≤ 140737488355328 := by rw [← hl2.length]; exact hn2
  have hn3' : n3 ≤ 140737488355328 := by rw [← hl3.length]; exact hn3
  have hn4' : n4 ≤ 140737488355328 := by rw [← hl4.length]; exact hn4
  have hn5' : n5 ≤ 140737488355328 := by rw [← hl5.length]; exact hn5
  refine (doc_State (M := M) (o := o) (W := W)
    (R0 := fun u => (∃ L', L' ≤ 1000000 ∧ VS u B W L' fs) ∧ Stp (Wown W) M o (o + 0) w u)
    (R1 := fun u => (∃ L', L' ≤ 1000020 ∧ VS u B W L' (fs ++ flds y1)) ∧ Stp (Wown W) M o (o + 2) w u)
    (R2 := fun u => (∃ L', L' ≤ 1000030 ∧ VS u B W L' (fs ++ flds y1 ++ flds y2)) ∧ Stp (Wown W) M o (o + 3) w u)
    (R3 := fun u => (∃ L', L' ≤ 1070030 ∧ VS u B W L' (fs ++ flds y1 ++ flds y2 ++ flds y3)) ∧ Stp (Wown W) M o (o + 4) w u)
    (R4 := fun u => (∃ L', L' ≤ 1140030 ∧ VS u B W L' (fs ++ flds y1 ++ flds y2 ++ flds y3 ++ flds y3b)) ∧ Stp (Wown W) M o (o + 5) w u)
    (R5 := fun u => (∃ L', L' ≤ 1140040 ∧ VS u B W L' (fs ++ flds y1 ++ flds y2 ++ flds y3 ++ flds y3b ++ flds y4)) ∧ Stp (Wown W) M o (o + 6) w u)
    (R6 := fun u => (∃ L', L' ≤ 114855250 ∧ VS u B W L' (fs ++ flds y1 ++ flds y2 ++ flds y3 ++ flds y3b ++ flds y4 ++ listF Acc.flds x.acs)) ∧ Stp (Wown W) M o (o + 7) w u)
    (R7 := fun u => (∃ L', L' ≤ 114926940 ∧ VS u B W L' (fs ++ flds y1 ++ flds y2 ++ flds y3 ++ flds y3b ++ flds y4 ++ listF Acc.flds x.acs ++ listF flds x.ms)) ∧ Stp (Wown W) M o (o + 8) w u)
    (R8 := fun u => (∃ L', L' ≤ 258379110 ∧ VS u B W L' (fs ++ flds y1 ++ flds y2 ++ flds y3 ++ flds y3b ++ flds y4 ++ listF Acc.flds x.acs ++ listF flds x.ms ++ listF flds x.ws)) ∧ Stp (Wown W) M o (o + 9) w u)
    (R9 := fun u => (∃ L', L' ≤ 401800560 ∧ VS u B W L' (fs ++ flds y1 ++ flds y2 ++ flds y3 ++ flds y3b ++ flds y4 ++ listF Acc.flds x.acs ++ listF flds x.ms ++ listF flds x.ws ++ listF flds x.ds)) ∧ Stp (Wown W) M o (o + 10) w u)
    (R10 := fun u => (∃ L', L' ≤ 401821050 ∧ VS u B W L' (fs ++ flds y1 ++ flds y2 ++ flds y3 ++ flds y3b ++ flds y4 ++ listF Acc.flds x.acs ++ listF flds x.ms ++ listF flds x.ws ++ listF flds x.ds ++ listF flds x.es)) ∧ Stp (Wown W) M o (o + 11) w u)
    (R11 := fun u => (∃ L', L' ≤ 401961100 ∧ VS u B W L' (fs ++ flds y1 ++ flds y2 ++ flds y3 ++ flds y3b ++ flds y4 ++ listF Acc.flds x.acs ++ listF flds x.ms ++ listF flds x.ws ++ listF flds x.ds ++ listF flds x.es ++ flds z1)) ∧ Stp (Wown W) M o (o + 18) w u)
    (R12 := fun u => (∃ L', L' ≤ 402101150 ∧ VS u B W L' (fs ++ flds y1 ++ flds y2 ++ flds y3 ++ flds y3b ++ flds y4 ++ listF Acc.flds x.acs ++ listF flds x.ms ++ listF flds x.ws ++ listF flds x.ds ++ listF flds x.es ++ flds z1 ++ flds z2)) ∧ Stp (Wown W) M o (o + 25) w u)
    (R13 := fun u => (∃ L', L' ≤ 402171150 ∧ VS u B W L' (fs ++ flds y1 ++ flds y2 ++ flds y3 ++ flds y3b ++ flds y4 ++ listF Acc.flds x.acs ++ listF flds x.ms ++ listF flds x.ws ++ listF flds x.ds ++ listF flds x.es ++ flds z1 ++ flds z2 ++ flds z3)) ∧ Stp (Wown W) M o (o + 26) w u)
    (R14 := fun u => (∃ L', L' ≤ 402171180 ∧ VS u B W L' (fs ++ flds y1 ++ flds y2 ++ flds y3 ++ flds y3b ++ flds y4 ++ listF Acc.flds x.acs ++ listF flds x.ms ++ listF flds x.ws ++ listF flds x.ds ++ listF flds x.es ++ flds z1 ++ flds z2 ++ flds z3 ++ flds z4)) ∧ Stp (Wown W) M o (o + 29) w u)
    (fun u hu => by
      obtain ⟨⟨L', hL', hv⟩, hs⟩ := hu
      exact (vnums_call (n := 2) hv (Nat.le_trans hB hs.size) (by omega) (fy1.step hs (.inl (by omega))) ((hr.part (a := 0) (m := 2) (by omega)).step hs (.inl (Nat.le_refl _))) k1 (Nat.lt_of_lt_of_le hM hs.size) (hs.keep hM hS) #[.pointer (some ⟨M, o, none⟩), .pointer (some ⟨M, o + 1, none⟩)] 82 (fun j hj => match j, hj with | 0, _ => rfl | 1, _ => rfl)).mono fun e w' ⟨h1, h2, h3⟩ => ⟨h1, ⟨_, by omega, h2⟩, (hs.wider (Nat.le_refl _) (by omega)).trans (h3.wider (by omega) (by omega))⟩)
    (fun u hu => by
      obtain ⟨⟨L', hL', hv⟩, hs⟩ := hu
      exact (vflag_call hv (Nat.le_trans hB hs.size) (by omega) (fy2.step hs (.inl (by omega))) ((hr.part (a := 2) (m := 1) (by omega)).step hs (.inl (Nat.le_refl _))) k2 (Nat.lt_of_lt_of_le hM hs.size) (hs.keep hM hS)).mono fun e w' ⟨h1, h2, h3⟩ => ⟨h1, ⟨_, by omega, h2⟩, (hs.wider (Nat.le_refl _) (by omega)).trans (h3.wider (by omega) (by omega))⟩)
    (fun u hu => by
      obtain ⟨⟨L', hL', hv⟩, hs⟩ := hu
      exact (vtext_call hv (Nat.le_trans hB hs.size) (by omega) (fy3.step hs (.inl (by omega))) ((hr.part (a := 3) (m := 1) (by omega)).step hs (.inl (Nat.le_refl _))) k3 (Nat.lt_of_lt_of_le hM hs.size) (hs.keep hM hS)).mono fun e w' ⟨h1, h2, h3⟩ => ⟨h1, ⟨_, by omega, h2⟩, (hs.wider (Nat.le_refl _) (by omega)).trans (h3.wider (by omega) (by omega))⟩)
    (fun u hu => by
      obtain ⟨⟨L', hL', hv⟩, hs⟩ := hu
      exact (vtext_call hv (Nat.le_trans hB hs.size) (by omega) (fy3b.step hs (.inl (by omega))) ((hr.part (a := 4) (m := 1) (by omega)).step hs (.inl (Nat.le_refl _))) k3b (Nat.lt_of_lt_of_le hM hs.size) (hs.keep hM hS)).mono fun e w' ⟨h1, h2, h3⟩ => ⟨h1, ⟨_, by omega, h2⟩, (hs.wider (Nat.le_refl _) (by omega)).trans (h3.wider (by omega) (by omega))⟩)
    (fun u hu => by
      obtain ⟨⟨L', hL', hv⟩, hs⟩ := hu
      exact (vnum_call hv (Nat.le_trans hB hs.size) (by omega) (fy4.step hs (.inl (by omega))) ((hr.part (a := 5) (m := 1) (by omega)).step hs (.inl (Nat.le_refl _))) k4 (Nat.lt_of_lt_of_le hM hs.size) (hs.keep hM hS)).mono fun e w' ⟨h1, h2, h3⟩ => ⟨h1, ⟨_, by omega, h2⟩, (hs.wider (Nat.le_refl _) (by omega)).trans (h3.wider (by omega) (by omega))⟩)
    (fun u hu => by
      obtain ⟨⟨L', hL', hv⟩, hs⟩ := hu
      exact (vlist_accounts hv (Nat.le_trans hB hs.size) (by omega) ((hs.cell (o + 6) (by omega)).trans hc1) (hl1.stp hk.ka hs) hk.ka hnh (hs.keep hM hS) hn1').mono fun e w' ⟨h1, h2, h3⟩ => ⟨h1, ⟨_, by omega, h2⟩, (hs.wider (Nat.le_refl _) (by omega)).trans (h3.to (Nat.lt_of_lt_of_le hM hs.size) (hs.keep hM hS) _ _)⟩)
    (fun u hu => by
      obtain ⟨⟨L', hL', hv⟩, hs⟩ := hu
      exact (vlist_marks hv (Nat.le_trans hB hs.size) (by omega) ((hs.cell (o + 7) (by omega)).trans hc2) (hl2.stp hs) hk.km (hs.keep hM hS) hn2').mono fun e w' ⟨h1, h2, h3⟩ => ⟨h1, ⟨_, by omega, h2⟩, (hs.wider (Nat.le_refl _) (by omega)).trans (h3.to (Nat.lt_of_lt_of_le hM hs.size) (hs.keep hM hS) _ _)⟩)
    (fun u hu => by
      obtain ⟨⟨L', hL', hv⟩, hs⟩ := hu
      exact (vlist_waits hv (Nat.le_trans hB hs.size) (by omega) ((hs.cell (o + 8) (by omega)).trans hc3) (hl3.stp hs) hk.kw (hs.keep hM hS) hn3').mono fun e w' ⟨h1, h2, h3⟩ => ⟨h1, ⟨_, by omega, h2⟩, (hs.wider (Nat.le_refl _) (by omega)).trans (h3.to (Nat.lt_of_lt_of_le hM hs.size) (hs.keep hM hS) _ _)⟩)
    (fun u hu => by
      obtain ⟨⟨L', hL', hv⟩, hs⟩ := hu
      exact (vlist_deals hv (Nat.le_trans hB hs.size) (by omega) ((hs.cell (o + 9) (by omega)).trans hc4) (hl4.stp hs) hk.kd (hs.keep hM hS) hn4').mono fun e w' ⟨h1, h2, h3⟩ => ⟨h1, ⟨_, by omega, h2⟩, (hs.wider (Nat.le_refl _) (by omega)).trans (h3.to (Nat.lt_of_lt_of_le hM hs.size) (hs.keep hM hS) _ _)⟩)
    (fun u hu => by
      obtain ⟨⟨L', hL', hv⟩, hs⟩ := hu
      exact (vlist_ends hv (Nat.le_trans hB hs.size) (by omega) ((hs.cell (o + 10) (by omega)).trans hc5) (hl5.stp hs) hk.ke (hs.keep hM hS) hn5').mono fun e w' ⟨h1, h2, h3⟩ => ⟨h1, ⟨_, by omega, h2⟩, (hs.wider (Nat.le_refl _) (by omega)).trans (h3.to (Nat.lt_of_lt_of_le hM hs.size) (hs.keep hM hS) _ _)⟩)
    (fun u hu => by
      obtain ⟨⟨L', hL', hv⟩, hs⟩ := hu
      exact (vplan_any hv (Nat.le_trans hB hs.size) (by omega) (fz1.step hs (.inl (by omega))) ((hr.part (a := 11) (m := 7) (by omega)).step hs (.inl (Nat.le_refl _))) j1 (Nat.lt_of_lt_of_le hM hs.size) (hs.keep hM hS)).mono fun e w' ⟨h1, h2, h3⟩ => ⟨h1, ⟨_, by omega, h2⟩, (hs.wider (Nat.le_refl _) (by omega)).trans (h3.wider (by omega) (by omega))⟩)
    (fun u hu => by
      obtain ⟨⟨L', hL', hv⟩, hs⟩ := hu
      exact (vplan_any hv (Nat.le_trans hB hs.size) (by omega) (fz2.step hs (.inl (by omega))) ((hr.part (a := 18) (m := 7) (by omega)).step hs (.inl (Nat.le_refl _))) j2 (Nat.lt_of_lt_of_le hM hs.size) (hs.keep hM hS)).mono fun e w' ⟨h1, h2, h3⟩ => ⟨h1, ⟨_, by omega, h2⟩, (hs.wider (Nat.le_refl _) (by omega)).trans (h3.wider (by omega) (by omega))⟩)
    (fun u hu => by
      obtain ⟨⟨L', hL', hv⟩, hs⟩ := hu
      exact (vbytes_call hv (Nat.le_trans hB hs.size) (by omega) (fz3.step hs (.inl (by omega))) ((hr.part (a := 25) (m := 1) (by omega)).step hs (.inl (Nat.le_refl _))) j3 (Nat.lt_of_lt_of_le hM hs.size) (hs.keep hM hS)).mono fun e w' ⟨h1, h2, h3⟩ => ⟨h1, ⟨_, by omega, h2⟩, (hs.wider (Nat.le_refl _) (by omega)).trans (h3.wider (by omega) (by omega))⟩)
    (fun u hu => by
      obtain ⟨⟨L', hL', hv⟩, hs⟩ := hu
      exact (vnums_call (n := 3) hv (Nat.le_trans hB hs.size) (by omega) (fz4.step hs (.inl (by omega))) ((hr.part (a := 26) (m := 3) (by omega)).step hs (.inl (Nat.le_refl _))) j4 (Nat.lt_of_lt_of_le hM hs.size) (hs.keep hM hS) #[.pointer (some ⟨M, o + 26, none⟩), .pointer (some ⟨M, o + 27, none⟩), .pointer (some ⟨M, o + 28, none⟩)] 82 (fun j hj => match j, hj with | 0, _ => rfl | 1, _ => rfl | 2, _ => rfl)).mono fun e w' ⟨h1, h2, h3⟩ => ⟨h1, ⟨_, by omega, h2⟩, (hs.wider (Nat.le_refl _) (by omega)).trans (h3.wider (by omega) (by omega))⟩)
    w ⟨⟨L, hL, h⟩, Stp.refl _ _ _ _ _⟩).mono fun e w' ⟨h1, h2, h3⟩ => ⟨h1, ?_, h3⟩
  obtain ⟨L', hL', h2⟩ := h2
  refine ⟨L', ?_⟩
  unfold Sta.flds
  rw [ey, ey3, ez, flds_append, flds_append, flds_append, flds_append, flds_append, flds_append, flds_append]
  simpa only [List.append_assoc] using h2

set_option maxHeartbeats 2000000 in
theorem xState_any {B W R : Nat} {a : Option Addr} {n cp : Nat} {bs : List Int} {s : St} {M : Nat} {w : World} (h : XS w B W R a n cp bs s) (hF : Far W R a M) (hM : M < w.heap.size) (hr : Room w M 0 29) (hc : ∀ q, 6 ≤ q → q ≤ 10 → w.cell? ⟨M, q, none⟩ = some (.slice none 0 0)) :
    Calls Tryz.prog 15 #[.pointer (some ⟨W, 0, none⟩), .pointer (some ⟨M, 0, none⟩)] w fun e w' => e = .returned (.tuple #[]) ∧ XS w' B W R a n cp bs (stateA bs s).s ∧ ((stateA bs s).s.err = 0 → StaAt w' (OutB B (Rown W R) M w') M 0 (stateA bs s).v) ∧ Stp (Rown W R) M 0 29 w w' := by
  have zz : ∀ q, q < 29 → w.frozen? ⟨M, q, none⟩ = false := fun q hq => by have := (hr q hq).2; rw [Nat.zero_add] at this; exact this
  obtain ⟨r0, e0⟩ : ∃ r, r = sta0 bs s := ⟨_, rfl⟩
  obtain ⟨ra, ea⟩ : ∃ r, r = staA bs s := ⟨_, rfl⟩
  obtain ⟨rm, em⟩ : ∃ r, r = staM bs s := ⟨_, rfl⟩
  obtain ⟨rw_, ew⟩ : ∃ r, r = staW bs s := ⟨_, rfl⟩
  obtain ⟨rd, ed⟩ : ∃ r, r = staD bs s := ⟨_, rfl⟩
  obtain ⟨re, ee⟩ : ∃ r, r = staE bs s := ⟨_, rfl⟩
  obtain ⟨r1, e1⟩ : ∃ r, r = sta1 bs s := ⟨_, rfl⟩
  have ec : stateA bs s = ⟨⟨r0.v, ra.v, rm.v, rw_.v, rd.v, re.v, r1.v⟩, r1.s⟩ := by unfold stateA; rw [← e0, ← ea, ← em, ← ew, ← ed, ← ee, ← e1]
  have fa : ra = listA bs (accA bs) r0.s := by rw [ea, e0]; rfl
  have fm : rm = listA bs (flatA bs [0, 0, 2, 0, 0, 0, 0]) ra.s := by rw [em, ea]; rfl
  have fw : rw_ = listA bs (flatA bs [0, 0, 0, 0, 0, 0, 3, 3, 0, 0, 0]) rm.s := by rw [ew, em]; rfl
  have fd : rd = listA bs (flatA bs [0, 0, 3, 3, 0, 0, 0, 0]) rw_.s := by rw [ed, ew]; rfl
  have fe : re = listA bs (flatA bs [0, 0]) rd.s := by rw [ee, ed]; rfl
  have f1 : r1 = flatA bs [0, 0, 0, 3, 3, 0, 0, 0, 0, 0, 3, 3, 0, 0, 4, 0, 0, 0] re.s := by rw [e1, ee]; rfl
  have f0 : r0 = flatA bs [0, 0, 2, 3, 3, 0] s := e0
  have kA : ∀ x ∈ ra.v, AccK x := by rw [fa]; exact timesA_all (Q := AccK) _ (fun s => accK_A bs s) _ _
  have l0 : r0.v.length = 6 := by rw [f0]; exact flatA_length bs _ s
  have b1 : rm.s.err = 0 → ra.s.err = 0 := fun h5 => err_back (listA bs (flatA bs [0, 0, 2, 0, 0, 0, 0])) (fun s hs => listA_stuck bs _ s hs) _ (by rw [← fm]; exact h5)
  have b2 : rw_.s.err = 0 → rm.s.err = 0 := fun h5 => err_back (listA bs (flatA bs [0, 0, 0, 0, 0, 0, 3, 3, 0, 0, 0])) (fun s hs => listA_stuck bs _ s hs) _ (by rw [← fw]; exact h5)
  have b3 : rd.s.err = 0 → rw_.s.err = 0 := fun h5 => err_back (listA bs (flatA bs [0, 0, 3, 3, 0, 0, 0, 0])) (fun s hs => listA_stuck bs _ s hs) _ (by rw [← fd]; exact h5)
  have b4 : re.s.err = 0 → rd.s.err = 0 := fun h5 => err_back (listA bs (flatA bs [0, 0])) (fun s hs => listA_stuck bs _ s hs) _ (by rw [← fe]; exact h5)
  have b5 : ∀ ks, (flatA bs ks re.s).s.err = 0 → re.s.err = 0 := fun ks h5 => err_back (flatA bs ks) (fun s hs => flatA_stuck bs ks s hs) _ h5
  rw [ec]
  clear ec e0 ea em ew ed ee e1
  refine (doc_State (M := M) (o := 0) (W := W)
    (R0 := XI B W R a n cp bs s M 0 w [])
    (R1 := XI B W R a n cp bs s M 0 w [0, 0])
    (R2 := XI B W R a n cp bs s M 0 w [0, 0, 2])
    (R3 := XI B W R a n cp bs s M 0 w [0, 0, 2, 3])
    (R4 := XI B W R a n cp bs s M 0 w [0, 0, 2, 3, 3])
    (R5 := XI B W R a n cp bs s M 0 w [0, 0, 2, 3, 3, 0])
    (R6 := fun u => XS u B W R a n cp bs ra.s ∧ (ra.s.err = 0 → RsA B W R M 0 r0.v ra.v u) ∧ Stp (Rown W R) M 0 7 w u)
    (R7 := fun u => XS u B W R a n cp bs rm.s ∧ (rm.s.err = 0 → RsA B W R M 0 r0.v ra.v u ∧ RsL B W R M 7 7 rm.v u) ∧ Stp (Rown W R) M 0 8 w u)
    (R8 := fun u => XS u B W R a n cp bs rw_.s ∧ (rw_.s.err = 0 → RsA B W R M 0 r0.v ra.v u ∧ RsL B W R M 7 7 rm.v u ∧ RsL B W R M 8 11 rw_.v u) ∧ Stp (Rown W R) M 0 9 w u)
    (R9 := fun u => XS u B W R a n cp bs rd.s ∧ (rd.s.err = 0 → RsA B W R M 0 r0.v ra.v u ∧ RsL B W R M 7 7 rm.v u ∧ RsL B W R M 8 11 rw_.v u ∧ RsL B W R M 9 8 rd.v u) ∧ Stp (Rown W R) M 0 10 w u)
    (R10 := fun u => XS u B W R a n cp bs re.s ∧ (re.s.err = 0 → RsA B W R M 0 r0.v ra.v u ∧ RsL B W R M 7 7 rm.v u ∧ RsL B W R M 8 11 rw_.v u ∧ RsL B W R M 9 8 rd.v u ∧ RsL B W R M 10 2 re.v u) ∧ Stp (Rown W R) M 0 11 w u)
    (R11 := fun u => ∃ v, (XS v B W R a n cp bs re.s ∧ (re.s.err = 0 → RsA B W R M 0 r0.v ra.v v ∧ RsL B W R M 7 7 rm.v v ∧ RsL B W R M 8 11 rw_.v v ∧ RsL B W R M 9 8 rd.v v ∧ RsL B W R M 10 2 re.v v) ∧ Stp (Rown W R) M 0 11 w v) ∧ XI B W R a n cp bs re.s M 11 v [0, 0, 0, 3, 3, 0, 0] u)
    (R12 := fun u => ∃ v, (XS v B W R a n cp bs re.s ∧ (re.s.err = 0 → RsA B W R M 0 r0.v ra.v v ∧ RsL B W R M 7 7 rm.v v ∧ RsL B W R M 8 11 rw_.v v ∧ RsL B W R M 9 8 rd.v v ∧ RsL B W R M 10 2 re.v v) ∧ Stp (Rown W R) M 0 11 w v) ∧ XI B W R a n cp bs re.s M 11 v [0, 0, 0, 3, 3, 0, 0, 0, 0, 0, 3, 3, 0, 0] u)
    (R13 := fun u => ∃ v, (XS v B W R a n cp bs re.s ∧ (re.s.err = 0 → RsA B W R M 0 r0.v ra.v v ∧ RsL B W R M 7 7 rm.v v ∧ RsL B W R M 8 11 rw_.v v ∧ RsL B W R M 9 8 rd.v v ∧ RsL B W R M 10 2 re.v v) ∧ Stp (Rown W R) M 0 11 w v) ∧ XI B W R a n cp bs re.s M 11 v [0, 0, 0, 3, 3, 0, 0, 0, 0, 0, 3, 3, 0, 0, 4] u)
    (R14 := fun u => ∃ v, (XS v B W R a n cp bs re.s ∧ (re.s.err = 0 → RsA B W R M 0 r0.v ra.v v ∧ RsL B W R M 7 7 rm.v v ∧ RsL B W R M 8 11 rw_.v v ∧ RsL B W R M 9 8 rd.v v ∧ RsL B W R M 10 2 re.v v) ∧ Stp (Rown W R) M 0 11 w v) ∧ XI B W R a n cp bs re.s M 11 v [0, 0, 0, 3, 3, 0, 0, 0, 0, 0, 3, 3, 0, 0, 4, 0, 0, 0] u)
    (fun u hu => (xnums_call (k := 2) hu.1 hF (hu.lt hM) (hu.room hr (show 0 + 2 ≤ 29 by omega)) #[.pointer (some ⟨M, 0, none⟩), .pointer (some ⟨M, 0 + 1, none⟩)] 82 (fun j hj => match j, hj with | 0, _ => rfl | 1, _ => rfl)).mono fun e w' ⟨h1, h2⟩ => ⟨h1, hu.more h2⟩)
    (fun u hu => (xflag_call hu.1 hF (hu.lt hM) (hu.room hr (show 2 + 1 ≤ 29 by omega))).mono fun e w' ⟨h1, h2⟩ => ⟨h1, hu.more h2⟩)
    (fun u hu => (xtext_call hu.1 hF (hu.lt hM) (hu.room hr (show 3 + 1 ≤ 29 by omega))).mono fun e w' ⟨h1, h2⟩ => ⟨h1, hu.more h2⟩)
    (fun u hu => (xtext_call hu.1 hF (hu.lt hM) (hu.room hr (show 4 + 1 ≤ 29 by omega))).mono fun e w' ⟨h1, h2⟩ => ⟨h1, hu.more h2⟩)
    (fun u hu => (xnum_call hu.1 hF (hu.lt hM) (hu.room hr (show 5 + 1 ≤ 29 by omega))).mono fun e w' ⟨h1, h2⟩ => ⟨h1, hu.more h2⟩)
    (fun u hu => by
      have hu0 : XS u B W R a n cp bs r0.s ∧ FlatAt u (OutB B (Rown W R) M u) M 0 r0.v ∧ Stp (Rown W R) M 0 6 w u := by rw [f0]; exact hu
      exact (xlist_accounts hu0.1 hF ⟨_, _, _, (hu0.2.2.cell 6 (by omega)).trans (hc 6 (by omega) (by omega))⟩ ((hu0.2.2.frozen 6).trans (zz 6 (by omega)))).mono fun e w' ⟨h1, h2, h3, h4⟩ => ⟨h1, by rw [fa]; exact h2, fun h5 => by
        obtain ⟨ad, k, c, h6, h7⟩ := h3 (by rw [← fa]; exact h5)
        rw [fa]
        exact ⟨hu0.2.1.stepB h4 (.inr (by omega)), ad, k, c, h6, h7⟩, (hu0.2.2.wider (Nat.le_refl _) (by omega)).trans (h4.wider (by omega) (Nat.le_refl _))⟩)
    (fun u hu => (xlist_marks hu.1 hF ⟨_, _, _, (hu.2.2.cell 7 (by omega)).trans (hc 7 (by omega) (by omega))⟩ ((hu.2.2.frozen 7).trans (zz 7 (by omega)))).mono fun e w' ⟨h1, h2, h3, h4⟩ => ⟨h1, by rw [fm]; exact h2, fun h5 => by
        obtain ⟨ad, k, c, h6, h7⟩ := h3 (by rw [← fm]; exact h5)
        have qq := hu.2.1 (b1 h5)
        have last : RsL B W R M 7 7 rm.v w' := ⟨ad, k, c, h6, by rw [fm]; exact h7⟩
        exact ⟨qq.step kA h4 (by omega) l0, last⟩, (hu.2.2.wider (Nat.le_refl _) (by omega)).trans (h4.wider (by omega) (Nat.le_refl _))⟩)
    (fun u hu => (xlist_waits hu.1 hF ⟨_, _, _, (hu.2.2.cell 8 (by omega)).trans (hc 8 (by omega) (by omega))⟩ ((hu.2.2.frozen 8).trans (zz 8 (by omega)))).mono fun e w' ⟨h1, h2, h3, h4⟩ => ⟨h1, by rw [fw]; exact h2, fun h5 => by
        obtain ⟨ad, k, c, h6, h7⟩ := h3 (by rw [← fw]; exact h5)
        have qq := hu.2.1 (b2 h5)
        have last : RsL B W R M 8 11 rw_.v w' := ⟨ad, k, c, h6, by rw [fw]; exact h7⟩
        exact ⟨qq.1.step kA h4 (by omega) l0, qq.2.step h4 (by omega), last⟩, (hu.2.2.wider (Nat.le_refl _) (by omega)).trans (h4.wider (by omega) (Nat.le_refl _))⟩)
    (fun u hu => (xlist_deals hu.1 hF ⟨_, _, _, (hu.2.2.cell 9 (by omega)).trans (hc 9 (by omega) (by omega))⟩ ((hu.2.2.frozen 9).trans (zz 9 (by omega)))).mono fun e w' ⟨h1, h2, h3, h4⟩ => ⟨h1, by rw [fd]; exact h2, fun h5 => by
        obtain ⟨ad, k, c, h6, h7⟩ := h3 (by rw [← fd]; exact h5)
        have qq := hu.2.1 (b3 h5)
        have last : RsL B W R M 9 8 rd.v w' := ⟨ad, k, c, h6, by rw [fd]; exact h7⟩
        exact ⟨qq.1.step kA h4 (by omega) l0, qq.2.1.step h4 (by omega), qq.2.2.step h4 (by omega), last⟩, (hu.2.2.wider (Nat.le_refl _) (by omega)).trans (h4.wider (by omega) (Nat.le_refl _))⟩)
    (fun u hu => (xlist_ends hu.1 hF ⟨_, _, _, (hu.2.2.cell 10 (by omega)).trans (hc 10 (by omega) (by omega))⟩ ((hu.2.2.frozen 10).trans (zz 10 (by omega)))).mono fun e w' ⟨h1, h2, h3, h4⟩ => ⟨h1, by rw [fe]; exact h2, fun h5 => by
        obtain ⟨ad, k, c, h6, h7⟩ := h3 (by rw [← fe]; exact h5)
        have qq := hu.2.1 (b4 h5)
        have last : RsL B W R M 10 2 re.v w' := ⟨ad, k, c, h6, by rw [fe]; exact h7⟩
        exact ⟨qq.1.step kA h4 (by omega) l0, qq.2.1.step h4 (by omega), qq.2.2.1.step h4 (by omega), qq.2.2.2.step h4 (by omega), last⟩, (hu.2.2.wider (Nat.le_refl _) (by omega)).trans (h4.wider (by omega) (Nat.le_refl _))⟩)
    (fun u hu => (xplan_any hu.1 hF (Nat.lt_of_lt_of_le hM hu.2.2.size) ((hr.part (a := 11) (m := 7) (by omega)).step hu.2.2 (.inl (Nat.le_refl _)))).mono fun e w' ⟨h1, h2⟩ => ⟨h1, u, hu, (XI.start hu.1).more h2⟩)
    (fun u hu => by
      obtain ⟨v, hv, hu⟩ := hu
      have rm18 : Room v M 11 18 := (hr.part (a := 11) (m := 18) (by omega)).step hv.2.2 (.inl (Nat.le_refl _))
      have hMv : M < v.heap.size := Nat.lt_of_lt_of_le hM hv.2.2.size
      exact (xplan_any hu.1 hF (hu.lt hMv) (hu.room rm18 (show 7 + 7 ≤ 18 by omega))).mono fun e w' ⟨h1, h2⟩ => ⟨h1, v, hv, hu.more h2⟩)
    (fun u hu => by
      obtain ⟨v, hv, hu⟩ := hu
      have rm18 : Room v M 11 18 := (hr.part (a := 11) (m := 18) (by omega)).step hv.2.2 (.inl (Nat.le_refl _))
      have hMv : M < v.heap.size := Nat.lt_of_lt_of_le hM hv.2.2.size
      exact (xbytes_call hu.1 hF (hu.lt hMv) (hu.room rm18 (show 14 + 1 ≤ 18 by omega))).mono fun e w' ⟨h1, h2⟩ => ⟨h1, v, hv, hu.more h2⟩)
    (fun u hu => by
      obtain ⟨v, hv, hu⟩ := hu
      have rm18 : Room v M 11 18 := (hr.part (a := 11) (m := 18) (by omega)).step hv.2.2 (.inl (Nat.le_refl _))
      have hMv : M < v.heap.size := Nat.lt_of_lt_of_le hM hv.2.2.size
      exact (xnums_call (k := 3) hu.1 hF (hu.lt hMv) (hu.room rm18 (show 15 + 3 ≤ 18 by omega)) #[.pointer (some ⟨M, 0 + 26, none⟩), .pointer (some ⟨M, 0 + 27, none⟩), .pointer (some ⟨M, 0 + 28, none⟩)] 82 (fun j hj => match j, hj with | 0, _ => rfl | 1, _ => rfl | 2, _ => rfl)).mono fun e w' ⟨h1, h2⟩ => ⟨h1, v, hv, hu.more h2⟩)
    w (XI.start h)).mono fun e w' ⟨h1, h2⟩ => ⟨h1, ?_⟩
  obtain ⟨v, ⟨hv1, hv2, hv3⟩, hu⟩ := h2
  have hs : Stp (Rown W R) M 11 29 v w' := hu.2.2
  refine ⟨by rw [f1]; exact hu.1, fun h5 => ?_, (hv3.wider (Nat.le_refl _) (by omega)).trans (hs.wider (Nat.zero_le _) (Nat.le_refl _))⟩
  have h5' : (flatA bs [0, 0, 0, 3, 3, 0, 0, 0, 0, 0, 3, 3, 0, 0, 4, 0, 0, 0] re.s).s.err = 0 := by rw [← f1]; exact h5
  obtain ⟨qA, qm, qw, qd, qe⟩ := hv2 (b5 _ h5')
  have qA' := qA.step kA hs (by omega) l0
  obtain ⟨am, nm, cm, cm1, cm2⟩ := qm.step hs (by omega)
  obtain ⟨aw, nw, cw, cw1, cw2⟩ := qw.step hs (by omega)
  obtain ⟨ad, nd, cd, cd1, cd2⟩ := qd.step hs (by omega)
  obtain ⟨ae, ne, ce, ce1, ce2⟩ := qe.step hs (by omega)
  obtain ⟨aa, na, ca, ca1, ca2⟩ := qA'.2
  have fl := hu.2.1
  refine ⟨qA'.1, ⟨aa, na, ca, ca1, ca2⟩, ⟨am, nm, cm, by rw [Nat.zero_add]; exact cm1, cm2⟩, ⟨aw, nw, cw, by rw [Nat.zero_add]; exact cw1, cw2⟩, ⟨ad, nd, cd, by rw [Nat.zero_add]; exact cd1, cd2⟩, ⟨ae, ne, ce, by rw [Nat.zero_add]; exact ce1, ce2⟩, fun j y hy => ?_⟩
  rw [f1] at hy
  obtain ⟨v, g1, g2⟩ := fl j y hy
  exact ⟨v, by rw [Nat.zero_add]; exact g1, g2⟩
end Go.Proofs.YthklpkmdmkgjiaaGreat
