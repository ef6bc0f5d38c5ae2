/- An account in memory: its plain fields, and the list of its holders; how the landed writer and reader go over it. No condition but the size. -/
import Derived.Test.YthklpkmdmkgjiaaGreatFWireListsAccount
import Derived.Test.YthklpkmdmkgjiaaGreatFWireGoAccount
import Derived.Test.YthklpkmdmkgjiaaGreatFWireLsMore
namespace Go.Proofs.YthklpkmdmkgjiaaGreat
open Go.ChangeShapes Go.WideShapes Go.ChangeAt Go.RowKit B8 Cm Wm
set_option linter.unusedVariables false

/-- an account: its plain fields ahead of its holders, them, the plain fields behind them -/
structure Acc where
  x0 : List Atom
  hs : List (List Atom)
  x1 : List Atom
structure AccK (x : Acc) : Prop where
  k0 : x.x0.map Atom.k = [3, 0, 0, 0, 0]
  kh : ∀ xs ∈ x.hs, xs.map Atom.k = [0, 0, 0, 0]
  k1 : x.x1.map Atom.k = [0, 0, 0, 0]
def Acc.flds (x : Acc) : List Fld := Wm.flds x.x0 ++ listF Wm.flds x.hs ++ Wm.flds x.x1
theorem AccK.l0 {x : Acc} (h : AccK x) : x.x0.length = 5 := by have := congrArg List.length h.k0; simpa using this
theorem AccK.l1 {x : Acc} (h : AccK x) : x.x1.length = 4 := by have := congrArg List.length h.k1; simpa using this
/-- ten cells hold an account -/
structure AccC (w : World) (P : Nat → Prop) (c : Nat → Option Value) (x : Acc) : Prop where
  f0 : ∀ (j : Nat) (y : Atom), x.x0[j]? = some y → ∃ v, c j = some v ∧ AtomV w P v y
  hs : ∃ a n cp, c 5 = some (.slice a n cp) ∧ Ls w P a n cp 4 x.hs
  f1 : ∀ (j : Nat) (y : Atom), x.x1[j]? = some y → ∃ v, c (6 + j) = some v ∧ AtomV w P v y
def AccAt (w : World) (P : Nat → Prop) (M o : Nat) (x : Acc) : Prop := AccC w P (fun j => w.cell? ⟨M, o + j, none⟩) x
section
variable {w w1 : World} {P P' : Nat → Prop} {c c' : Nat → Option Value} {x : Acc} {M o : Nat}
theorem AccC.same (h : AccC w P c x) (hc : ∀ j, j < 10 → c' j = c j) (hk : AccK x) (hb : ∀ b, P b → P' b ∧ w1.heap[b]? = w.heap[b]?) : AccC w1 P' c' x := by
  obtain ⟨a, n, cp, p1, p2⟩ := h.hs
  refine ⟨fun j y hy => ?_, ⟨a, n, cp, (hc 5 (by omega)).trans p1, p2.same hb⟩, fun j y hy => ?_⟩
  · obtain ⟨v, h1, h2⟩ := h.f0 j y hy
    have hj : j < 5 := by rw [← hk.l0]; exact (List.getElem?_eq_some_iff.1 hy).1
    exact ⟨v, (hc j (by omega)).trans h1, h2.same hb⟩
  · obtain ⟨v, h1, h2⟩ := h.f1 j y hy
    have hj : j < 4 := by rw [← hk.l1]; exact (List.getElem?_eq_some_iff.1 hy).1
    exact ⟨v, (hc (6 + j) (by omega)).trans h1, h2.same hb⟩
theorem AccC.cell (h : AccC w P c x) (hk : AccK x) (j : Nat) (hj : j < 10) : ∃ v, c j = some v ∧ v.oneCell' = true := by
  by_cases e0 : j < 5
  · obtain ⟨v, h1, h2⟩ := h.f0 j _ (List.getElem?_eq_getElem (by rw [hk.l0]; omega))
    exact ⟨v, h1, atomV_one h2⟩
  · by_cases e1 : j = 5
    · obtain ⟨a, n, cp, p1, _⟩ := h.hs
      exact ⟨_, by rw [e1]; exact p1, rfl⟩
    · obtain ⟨v, h1, h2⟩ := h.f1 (j - 6) _ (List.getElem?_eq_getElem (by rw [hk.l1]; omega))
      rw [show 6 + (j - 6) = j by omega] at h1
      exact ⟨v, h1, atomV_one h2⟩
theorem AccAt.f0' (h : AccAt w P M o x) : FlatAt w P M o x.x0 := fun j y hy => h.f0 j y hy
theorem AccAt.f1' (h : AccAt w P M o x) : FlatAt w P M (o + 6) x.x1 := fun j y hy => by
  obtain ⟨v, h1, h2⟩ := h.f1 j y hy
  exact ⟨v, by rw [Nat.add_assoc]; exact h1, h2⟩
theorem AccAt.mk' (h0 : FlatAt w P M o x.x0) (hs : ∃ a n cp, w.cell? ⟨M, o + 5, none⟩ = some (.slice a n cp) ∧ Ls w P a n cp 4 x.hs) (h1 : FlatAt w P M (o + 6) x.x1) : AccAt w P M o x := ⟨h0, hs, fun j y hy => by
  obtain ⟨v, e1, e2⟩ := h1 j y hy
  exact ⟨v, by rw [← Nat.add_assoc]; exact e1, e2⟩⟩
end

set_option maxHeartbeats 1000000 in
theorem waccount_any {w : World} {B W : Nat} {fs : List Fld} {M o : Nat} {x : Acc} (h : WS w B W fs) (hB : B ≤ w.heap.size) (hx : AccAt w (Out (Wown W) M w) M o x) (hk : AccK x) (hz1 : w.frozen? ⟨M, o + 5, none⟩ = false) (hS : ¬ Wown W w M) :
    Calls Tryz.prog 30 #[.iface 76 (.pointer (some ⟨W, 0, none⟩)), .pointer (some ⟨M, o, none⟩)] w fun e w' => e = .returned (.tuple #[]) ∧ WS w' B W (fs ++ x.flds) ∧ Stp (Wown W) M o (o + 10) w w' := by
  obtain ⟨a1, n1, c1, hc1, hl1⟩ := hx.hs
  have hM : M < w.heap.size := World.block_lt_of_cell? w _ hc1
  obtain ⟨y1, y2, e1, k1, k2⟩ := List.map_eq_append_iff.1 (show _ = [3] ++ [0, 0, 0, 0] from hk.k0)
  have ly1 : y1.length = 1 := by have := congrArg List.length k1; simpa using this
  have ly2 : y2.length = 4 := by have := congrArg List.length k2; simpa using this
  have fy := hx.f0'
  rw [e1] at fy
  have fy1 := fy.left
  have fy2 := fy.right
  rw [ly1] at fy2
  have fp := hx.f1'
  have hb0 : Below w.heap.size w (w.alloc (.cells #[.iface 76 (.pointer (some ⟨W, 0, none⟩))] 80)) := below_alloc (Below.refl _ _) _
  have st0 : Stq (Wown W) w (w.alloc (.cells #[.iface 76 (.pointer (some ⟨W, 0, none⟩))] 80)) := wq_below h hb0
  have hC0 : (w.alloc (.cells #[.iface 76 (.pointer (some ⟨W, 0, none⟩))] 80)).cell? ⟨w.heap.size, 0, none⟩ = some (.iface 76 (.pointer (some ⟨W, 0, none⟩))) := by simp
  have nC0 : ¬ Wown W (w.alloc (.cells #[.iface 76 (.pointer (some ⟨W, 0, none⟩))] 80)) w.heap.size := fun hk => by have := (h.base _ (wown_of_below h hb0 hk)).2; omega
  generalize hw0 : w.alloc (.cells #[.iface 76 (.pointer (some ⟨W, 0, none⟩))] 80) = w0 at *
  have hlt0 : w.heap.size < w0.heap.size := World.block_lt_of_cell? w0 _ hC0
  have KC : ∀ {u : World} {lo hi : Nat}, Stp (Wown W) M lo hi w0 u → u.cell? ⟨w.heap.size, 0, none⟩ = some (.iface 76 (.pointer (some ⟨W, 0, none⟩))) := fun g => (World.cell?_of_block (w := w0) (a := ⟨w.heap.size, 0, none⟩) (g.block _ hlt0 nC0 (Nat.ne_of_gt hM))).trans hC0
  have hM0 : M < w0.heap.size := by omega
  have nM0 : ¬ Wown W w0 M := st0.keep hM hS
  have B0 : B ≤ w0.heap.size := Nat.le_trans hB st0.size
  have g1 := fy1.stq st0 hM hS
  have g2 := fy2.stq st0 hM hS
  have gp := fp.stq st0 hM hS
  have L1 := hl1.stq st0
  have eM := st0.block M hM hS
  have q1 : w0.cell? ⟨M, o + 5, none⟩ = some (.slice a1 n1 c1) := (World.cell?_of_block (w := w) (a := ⟨M, o + 5, none⟩) eM).trans hc1
  have z1 : w0.frozen? ⟨M, o + 5, none⟩ = false := (World.frozen?_of_block (w := w) (a := ⟨M, o + 5, none⟩) eM).trans hz1
  have bd : ∀ u : World, Below u.heap.size u u.drew := fun u => ⟨rfl, rfl, rfl, Nat.le_refl _, fun _ _ => rfl⟩
  have qd : ∀ {u : World}, Stq (Wown W) w0 u → Stq (Wown W) w0 u.drew := fun hu => ⟨hu.os, hu.tape, hu.output, hu.size, hu.block, hu.own⟩
  refine (go_account (D := 76) (W := W) (M := M) (o := o) (C := w.heap.size) nilw_texts methw_texts callw_texts nilw_ints methw_ints callw_ints
    (R0 := fun u => u = w0)
    (R1 := fun u => WS u B W (fs ++ flds y1) ∧ Stq (Wown W) w0 u)
    (R2 := fun u => WS u B W (fs ++ flds y1 ++ flds y2) ∧ Stq (Wown W) w0 u)
    (R3 := fun u => WS u B W (fs ++ flds y1 ++ flds y2 ++ listF flds x.hs) ∧ Stp (Wown W) M (o + 5) (o + 6) w0 u)
    (R4 := fun u => WS u B W (fs ++ flds y1 ++ flds y2 ++ listF flds x.hs ++ flds x.x1) ∧ Stp (Wown W) M (o + 5) (o + 6) w0 u)
    (fun u hu => by
      rcases hu with hu | hu | hu | hu | hu
      · subst hu; exact hC0
      · exact KC (hu.2.to hM0 nM0 0 0)
      · exact KC (hu.2.to hM0 nM0 0 0)
      · exact KC hu.2
      · exact KC hu.2)
    (fun u hu => by
      subst hu
      exact (wtexts_call (n := 1) (h.below hb0) B0 g1 (by intro y hy; have := List.mem_map_of_mem (f := Atom.k) hy; rw [k1] at this; simpa using this) ly1 hM0 nM0 #[.pointer (some ⟨M, o, none⟩)] 86 (fun j hj => match j, hj with | 0, _ => rfl)).mono fun e w' ⟨h1, h2, h3⟩ => ⟨h1, h2, h3⟩)
    (fun u hu => (wints_call (n := 4) hu.1 (Nat.le_trans B0 hu.2.size) (g2.stq hu.2 hM0 nM0) (kinds_all k2 (by simp)) ly2 (Nat.lt_of_lt_of_le hM0 hu.2.size) (hu.2.keep hM0 nM0) #[.pointer (some ⟨M, o + 1, none⟩), .pointer (some ⟨M, o + 2, none⟩), .pointer (some ⟨M, o + 3, none⟩), .pointer (some ⟨M, o + 4, none⟩)] 82 (fun j hj => match j, hj with | 0, _ => rfl | 1, _ => rfl | 2, _ => rfl | 3, _ => rfl)).mono fun e w' ⟨h1, h2, h3⟩ => ⟨h1, h2, hu.2.trans h3⟩)
    (fun u hu => by
      have hud := qd hu.2
      have eu := hud.block M hM0 nM0
      exact (wlist_account1 (C := w.heap.size) ⟨hu.1.below (bd u), Nat.le_trans B0 hud.size, (World.cell?_of_block (w := w0) (a := ⟨M, o + 5, none⟩) eu).trans q1, (World.frozen?_of_block (w := w0) (a := ⟨M, o + 5, none⟩) eu).trans z1, L1.stq hud, hud.keep hM0 nM0, by omega⟩ hk.kh (KC (hud.to hM0 nM0 0 0)) (hud.keep hlt0 nC0)).mono fun e w' ⟨h1, h2, h3⟩ => ⟨h1, h2, (hud.to hM0 nM0 _ _).trans h3⟩)
    (fun u hu => (wints_call (n := 4) hu.1 (Nat.le_trans B0 hu.2.size) (gp.step hu.2 (.inl (Nat.le_refl _))) (kinds_all hk.k1 (by simp)) hk.l1 (Nat.lt_of_lt_of_le hM0 hu.2.size) (hu.2.keep hM0 nM0) #[.pointer (some ⟨M, o + 6, none⟩), .pointer (some ⟨M, o + 7, none⟩), .pointer (some ⟨M, o + 8, none⟩), .pointer (some ⟨M, o + 9, none⟩)] 82 (fun j hj => match j, hj with | 0, _ => rfl | 1, _ => rfl | 2, _ => rfl | 3, _ => rfl)).mono fun e w' ⟨h1, h2, h3⟩ => ⟨h1, h2, hu.2.trans (h3.to (Nat.lt_of_lt_of_le hM0 hu.2.size) (hu.2.keep hM0 nM0) _ _)⟩)
    w rfl hw0).mono fun e w' ⟨h1, h2, h3⟩ => ⟨h1, ?_, ((st0.to hM hS _ _).trans (h3.wider (by omega) (by omega)))⟩
  unfold Acc.flds
  rw [e1, flds_append]
  simpa only [List.append_assoc] using h2

/-- what bytes are read as, as an account -/
def accA (bs : List Int) (s : St) : Ans Acc :=
  ⟨⟨(flatA bs [3, 0, 0, 0, 0] s).v, (listA bs (flatA bs [0, 0, 0, 0]) (flatA bs [3, 0, 0, 0, 0] s).s).v, (flatA bs [0, 0, 0, 0] (listA bs (flatA bs [0, 0, 0, 0]) (flatA bs [3, 0, 0, 0, 0] s).s).s).v⟩,
   (flatA bs [0, 0, 0, 0] (listA bs (flatA bs [0, 0, 0, 0]) (flatA bs [3, 0, 0, 0, 0] s).s).s).s⟩
theorem accA_stuck (bs : List Int) (s : St) (h : ¬ s.err = 0) : (accA bs s).s = s := by
  have e1 := flatA_stuck bs [3, 0, 0, 0, 0] s h
  have e2 := listA_stuck bs (flatA bs [0, 0, 0, 0]) s h
  have e3 := flatA_stuck bs [0, 0, 0, 0] s h
  show (flatA bs [0, 0, 0, 0] (listA bs (flatA bs [0, 0, 0, 0]) (flatA bs [3, 0, 0, 0, 0] s).s).s).s = s
  rw [e1, e2, e3]
theorem accK_A (bs : List Int) (s : St) : AccK (accA bs s).v := ⟨flatA_kinds bs _ _ (by decide), timesA_all _ (fun s => flatA_kinds bs _ s (by decide)) _ _, flatA_kinds bs _ _ (by decide)⟩
theorem RI.drew' {B RR R : Nat} {a : Option Addr} {n cp : Nat} {bs : List Int} {s : St} {M o : Nat} {w u : World} {pre : List Nat} (h : RI B RR R a n cp bs s M o w pre u) : RI B RR R a n cp bs s M o w pre u.drew :=
  ⟨h.1.below ⟨rfl, rfl, rfl, Nat.le_refl _, fun _ _ => rfl⟩, fun he => (h.2.1 he).same (fun _ _ => rfl) (fun b hb => ⟨hb, rfl⟩), stp_drew h.2.2 (fun k hk => hk)⟩
/-- the plain fields, and the list, have been read -/
def Rac (B RR R M o : Nat) (x0 : List Atom) (hs : List (List Atom)) (u : World) : Prop :=
  FlatAt u (OutB B (Rown RR R) M u) M o x0 ∧ ∃ ad n cp, u.cell? ⟨M, o + 5, none⟩ = some (.slice ad n cp) ∧ Ls u (OutB B (Rown RR R) M u) ad n cp 4 hs
theorem Rac.step {B RR R M o lo hi : Nat} {x0 : List Atom} {hs : List (List Atom)} {u u' : World} (h : Rac B RR R M o x0 hs u) (g : Stp (Rown RR R) M lo hi u u') (hl : o + 6 ≤ lo) (h0 : x0.length = 5) : Rac B RR R M o x0 hs u' := by
  obtain ⟨h1, ad, n, cp, h2, h3⟩ := h
  exact ⟨h1.stepB g (.inr (by omega)), ad, n, cp, (g.cell (o + 5) (by omega)).trans h2, h3.stpB g⟩
set_option maxHeartbeats 1000000 in
theorem raccount_any {B RR R : Nat} {a : Option Addr} {n cp : Nat} {bs : List Int} {s : St} {M o : Nat} {w : World} (h : RS w B RR R a n cp bs s) (hF : Far RR R a M) (hMB : M < B) (hM : M < w.heap.size) (hr : Room w M o 10) (hc1 : w.cell? ⟨M, o + 5, none⟩ = some (.slice none 0 0)) :
    Calls Tryz.prog 30 #[.iface 131 (.pointer (some ⟨RR, 0, none⟩)), .pointer (some ⟨M, o, none⟩)] w fun e w' => e = .returned (.tuple #[]) ∧ RS w' B RR R a n cp bs (accA bs s).s ∧ ((accA bs s).s.err = 0 → AccAt w' (OutB B (Rown RR R) M w') M o (accA bs s).v) ∧ Stp (Rown RR R) M o (o + 10) w w' := by
  have hb0 : Below w.heap.size w (w.alloc (.cells #[.iface 131 (.pointer (some ⟨RR, 0, none⟩))] 80)) := below_alloc (Below.refl _ _) _
  have st0 : Stq (Rown RR R) w (w.alloc (.cells #[.iface 131 (.pointer (some ⟨RR, 0, none⟩))] 80)) := rq_below RR R hb0
  have hC0 : (w.alloc (.cells #[.iface 131 (.pointer (some ⟨RR, 0, none⟩))] 80)).cell? ⟨w.heap.size, 0, none⟩ = some (.iface 131 (.pointer (some ⟨RR, 0, none⟩))) := by simp
  generalize hw0 : w.alloc (.cells #[.iface 131 (.pointer (some ⟨RR, 0, none⟩))] 80) = w0 at *
  have nC : ∀ u : World, ¬ Rown RR R u w.heap.size := fun u hk => by have := h.lt; rcases hk with hk | hk <;> omega
  have hlt0 : w.heap.size < w0.heap.size := World.block_lt_of_cell? w0 _ hC0
  have KC : ∀ {u : World} {lo hi : Nat}, Stp (Rown RR R) M lo hi w0 u → u.cell? ⟨w.heap.size, 0, none⟩ = some (.iface 131 (.pointer (some ⟨RR, 0, none⟩))) := fun g => (World.cell?_of_block (w := w0) (a := ⟨w.heap.size, 0, none⟩) (g.block _ hlt0 (nC _) (Nat.ne_of_gt hM))).trans hC0
  have hM0 : M < w0.heap.size := by omega
  have eM := st0.block M hM (far_own hF w)
  have hr0 : Room w0 M o 10 := room_stq hr st0 hM (far_own hF w)
  have q1 : w0.cell? ⟨M, o + 5, none⟩ = some (.slice none 0 0) := (World.cell?_of_block (w := w) (a := ⟨M, o + 5, none⟩) eM).trans hc1
  have z1 : w0.frozen? ⟨M, o + 5, none⟩ = false := (hr0 5 (by omega)).2
  have bd : ∀ u : World, Below u.heap.size u u.drew := fun u => ⟨rfl, rfl, rfl, Nat.le_refl _, fun _ _ => rfl⟩
  have dr : ∀ {u : World} {lo hi : Nat}, Stp (Rown RR R) M lo hi w0 u → Stp (Rown RR R) M lo hi w0 u.drew := fun g => stp_drew g (fun k hk => hk)
  have du : ∀ u : World, Stp (Rown RR R) M 0 0 u u.drew := fun u => stp_drew (Stp.refl _ _ _ _ _) (fun k hk => hk)
  obtain ⟨r0, e0⟩ : ∃ r, r = flatA bs [3, 0, 0, 0, 0] s := ⟨_, rfl⟩
  obtain ⟨rv, ev⟩ : ∃ r, r = listA bs (flatA bs [0, 0, 0, 0]) r0.s := ⟨_, rfl⟩
  obtain ⟨r1, e1⟩ : ∃ r, r = flatA bs [0, 0, 0, 0] rv.s := ⟨_, rfl⟩
  have ec : accA bs s = ⟨⟨r0.v, rv.v, r1.v⟩, r1.s⟩ := by unfold accA; rw [← e0, ← ev, ← e1]
  have l0 : r0.v.length = 5 := by rw [e0]; exact flatA_length bs _ s
  have b1 : rv.s.err = 0 → r0.s.err = 0 := fun h5 => err_back (listA bs (flatA bs [0, 0, 0, 0])) (fun s hs => listA_stuck bs _ s hs) _ (by rw [← ev]; exact h5)
  have b3 : r1.s.err = 0 → rv.s.err = 0 := fun h5 => err_back (flatA bs [0, 0, 0, 0]) (fun s hs => flatA_stuck bs _ s hs) _ (by rw [← e1]; exact h5)
  rw [ec]
  refine (go_account (D := 131) (W := RR) (M := M) (o := o) (C := w.heap.size) nilr_texts methr_texts callr_texts nilr_ints methr_ints callr_ints
    (R0 := fun u => u = w0)
    (R1 := RI B RR R a n cp bs s M o w0 [3])
    (R2 := RI B RR R a n cp bs s M o w0 [3, 0, 0, 0, 0])
    (R3 := fun u => RS u B RR R a n cp bs rv.s ∧ (rv.s.err = 0 → Rac B RR R M o r0.v rv.v u) ∧ Stp (Rown RR R) M o (o + 6) w0 u)
    (R4 := fun u => RS u B RR R a n cp bs r1.s ∧ (r1.s.err = 0 → AccAt u (OutB B (Rown RR R) M u) M o ⟨r0.v, rv.v, r1.v⟩) ∧ Stp (Rown RR R) M o (o + 10) w0 u)
    (fun u hu => by
      rcases hu with hu | hu | hu | hu | hu
      · subst hu; exact hC0
      · exact KC hu.2.2
      · exact KC hu.2.2
      · exact KC hu.2.2
      · exact KC hu.2.2)
    (fun u hu => by
      subst hu
      exact (rtexts_call (k := 1) (h.below hb0) hF hM0 (hr0.left (by omega)) #[.pointer (some ⟨M, o, none⟩)] 86 (fun j hj => match j, hj with | 0, _ => rfl)).mono fun e w' ⟨h1, h2⟩ => ⟨h1, h2⟩)
    (fun u hu => (rints_call (k := 4) hu.1 hF (hu.lt hM0) (hu.room hr0 (show 1 + 4 ≤ 10 by omega)) #[.pointer (some ⟨M, o + 1, none⟩), .pointer (some ⟨M, o + 2, none⟩), .pointer (some ⟨M, o + 3, none⟩), .pointer (some ⟨M, o + 4, none⟩)] 82 (fun j hj => match j, hj with | 0, _ => rfl | 1, _ => rfl | 2, _ => rfl | 3, _ => rfl)).mono fun e w' ⟨h1, h2⟩ => ⟨h1, hu.more h2⟩)
    (fun u hu => by
      have hu0 : RS u B RR R a n cp bs r0.s ∧ (r0.s.err = 0 → FlatAt u (OutF B (Rown RR R) M u) M o r0.v) ∧ Stp (Rown RR R) M o (o + 5) w0 u := by rw [e0]; exact hu
      have hud := dr hu0.2.2
      exact (rlist_account1 (C := w.heap.size) ⟨hu0.1.below (bd u), (hud.cell (o + 5) (by omega)).trans q1, (hud.frozen (o + 5)).trans z1, hF, hMB, by decide⟩ (KC hud) (nC _)).mono fun e w' ⟨h1, h2, h3, h4⟩ => ⟨h1, by rw [ev]; exact h2, fun h5 => by
        obtain ⟨ad, k, h6, h7⟩ := h3 (by rw [← ev]; exact h5)
        rw [ev]
        refine ⟨((hu0.2.1 (b1 h5)).toB.stepB (du u) (.inl (Nat.zero_le _))).stepB h4 (.inr (by omega)), ad, k, k, h6, h7⟩, (hud.wider (Nat.le_refl _) (by omega)).trans (h4.wider (by omega) (Nat.le_refl _))⟩)
    (fun u hu => (rints_call (k := 4) hu.1 hF (Nat.lt_of_lt_of_le hM0 hu.2.2.size) ((hr0.part (a := 6) (m := 4) (by omega)).step hu.2.2 (.inl (Nat.le_refl _))) #[.pointer (some ⟨M, o + 6, none⟩), .pointer (some ⟨M, o + 7, none⟩), .pointer (some ⟨M, o + 8, none⟩), .pointer (some ⟨M, o + 9, none⟩)] 82 (fun j hj => match j, hj with | 0, _ => rfl | 1, _ => rfl | 2, _ => rfl | 3, _ => rfl)).mono fun e w' ⟨h1, h2, h3, h4⟩ => ⟨h1, by rw [e1]; exact h2, fun h5 => by
        have h9 := (hu.2.1 (b3 h5)).step h4 (by omega) l0
        exact AccAt.mk' h9.1 h9.2 (by rw [e1] at h5 ⊢; exact (h3 h5).toB), (hu.2.2.wider (Nat.le_refl _) (by omega)).trans (h4.wider (by omega) (Nat.le_refl _))⟩)
    w rfl hw0).mono fun e w' ⟨h1, h2, h3, h4⟩ => ⟨h1, h2, h3, (st0.to hM (far_own hF w) _ _).trans h4⟩
end Go.Proofs.YthklpkmdmkgjiaaGreat
