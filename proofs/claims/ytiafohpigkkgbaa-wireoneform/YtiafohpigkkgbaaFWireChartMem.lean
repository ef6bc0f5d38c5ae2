/- A chart in memory: its plain fields, and its two lists; how the landed writer and reader go over it. No condition but the size. -/
import Derived.Test.YtiafohpigkkgbaaFWireListsChart
import Derived.Test.YtiafohpigkkgbaaFWireGoChart
import Derived.Test.YtiafohpigkkgbaaFWireLsMore
namespace Go.Proofs.Ytiafohpigkkgbaa
open Go.ChangeShapes Go.WideShapes Go.ChangeAt Go.RowKit B8 Cm Wm
set_option linter.unusedVariables false

/-- a chart: its number, its places, its plain fields behind them, its marks -/
structure Cht where
  x0 : List Atom
  ps : List (List Atom)
  x1 : List Atom
  ms : List (List Atom)
structure ChtK (x : Cht) : Prop where
  k0 : x.x0.map Atom.k = [0]
  kp : ∀ xs ∈ x.ps, xs.map Atom.k = [0, 3, 0]
  k1 : x.x1.map Atom.k = [0, 0, 0, 0, 0, 3, 3, 0, 0]
  km : ∀ xs ∈ x.ms, xs.map Atom.k = [0, 0, 2, 0, 0, 0, 0]
def Cht.flds (x : Cht) : List Fld := Wm.flds x.x0 ++ listF Wm.flds x.ps ++ Wm.flds x.x1 ++ listF Wm.flds x.ms
/-- the chart lies at M, from o on -/
structure ChtAt (w : World) (P : Nat → Prop) (M o : Nat) (x : Cht) : Prop where
  f0 : FlatAt w P M o x.x0
  ps : ∃ a n cp, w.cell? ⟨M, o + 1, none⟩ = some (.slice a n cp) ∧ Ls w P a n cp 3 x.ps
  f1 : FlatAt w P M (o + 2) x.x1
  ms : ∃ a n cp, w.cell? ⟨M, o + 11, none⟩ = some (.slice a n cp) ∧ Ls w P a n cp 7 x.ms

set_option maxHeartbeats 1000000 in
theorem wchart_any {w : World} {B W : Nat} {fs : List Fld} {M o : Nat} {x : Cht} (h : WS w B W fs) (hB : B ≤ w.heap.size) (hx : ChtAt w (Out (Wown W) M w) M o x) (hk : ChtK x) (hz1 : w.frozen? ⟨M, o + 1, none⟩ = false) (hz2 : w.frozen? ⟨M, o + 11, none⟩ = false) (hS : ¬ Wown W w M) :
    Calls Try.prog 25 #[.iface 99 (.pointer (some ⟨W, 0, none⟩)), .pointer (some ⟨M, o, none⟩)] w fun e w' => e = .returned (.tuple #[]) ∧ WS w' B W (fs ++ x.flds) ∧ Stp (Wown W) M o (o + 12) w w' := by
  obtain ⟨a1, n1, c1, hc1, hl1⟩ := hx.ps
  obtain ⟨a2, n2, c2, hc2, hl2⟩ := hx.ms
  have hM : M < w.heap.size := World.block_lt_of_cell? w _ hc1
  obtain ⟨y1, y2, e1, k1, k2⟩ := List.map_eq_append_iff.1 (show _ = [0, 0] ++ [0, 0, 0, 3, 3, 0, 0] from hk.k1)
  have ly1 : y1.length = 2 := by have := congrArg List.length k1; simpa using this
  have fy := hx.f1
  rw [e1] at fy
  have fy1 := fy.left
  have fy2 := fy.right
  rw [ly1] at fy2
  -- the block that holds the clerk
  have hb0 : Below w.heap.size w (w.alloc (.cells #[.iface 99 (.pointer (some ⟨W, 0, none⟩))] 86)) := below_alloc (Below.refl _ _) _
  have st0 : Stq (Wown W) w (w.alloc (.cells #[.iface 99 (.pointer (some ⟨W, 0, none⟩))] 86)) := wq_below h hb0
  have hC0 : (w.alloc (.cells #[.iface 99 (.pointer (some ⟨W, 0, none⟩))] 86)).cell? ⟨w.heap.size, 0, none⟩ = some (.iface 99 (.pointer (some ⟨W, 0, none⟩))) := by simp
  have nC0 : ¬ Wown W (w.alloc (.cells #[.iface 99 (.pointer (some ⟨W, 0, none⟩))] 86)) w.heap.size := fun hk => by have := (h.base _ (wown_of_below h hb0 hk)).2; omega
  generalize hw0 : w.alloc (.cells #[.iface 99 (.pointer (some ⟨W, 0, none⟩))] 86) = w0 at *
  have hlt0 : w.heap.size < w0.heap.size := World.block_lt_of_cell? w0 _ hC0
  have dn : ∀ {u : World} {k : Nat}, Wown W u.drew k → Wown W u k := fun hk => hk
  have KC : ∀ {u : World} {lo hi : Nat}, Stp (Wown W) M lo hi w0 u → u.cell? ⟨w.heap.size, 0, none⟩ = some (.iface 99 (.pointer (some ⟨W, 0, none⟩))) := fun g => (World.cell?_of_block (w := w0) (a := ⟨w.heap.size, 0, none⟩) (g.block _ hlt0 nC0 (Nat.ne_of_gt hM))).trans hC0
  have hM0 : M < w0.heap.size := by omega
  have nM0 : ¬ Wown W w0 M := st0.keep hM hS
  have B0 : B ≤ w0.heap.size := Nat.le_trans hB st0.size
  have g0 := hx.f0.stq st0 hM hS
  have g1 := fy1.stq st0 hM hS
  have g2 := fy2.stq st0 hM hS
  have L1 := hl1.stq st0
  have L2 := hl2.stq st0
  have eM := st0.block M hM hS
  have q1 : w0.cell? ⟨M, o + 1, none⟩ = some (.slice a1 n1 c1) := (World.cell?_of_block (w := w) (a := ⟨M, o + 1, none⟩) eM).trans hc1
  have q2 : w0.cell? ⟨M, o + 11, none⟩ = some (.slice a2 n2 c2) := (World.cell?_of_block (w := w) (a := ⟨M, o + 11, none⟩) eM).trans hc2
  have z1 : w0.frozen? ⟨M, o + 1, none⟩ = false := (World.frozen?_of_block (w := w) (a := ⟨M, o + 1, none⟩) eM).trans hz1
  have z2 : w0.frozen? ⟨M, o + 11, none⟩ = false := (World.frozen?_of_block (w := w) (a := ⟨M, o + 11, none⟩) eM).trans hz2
  have l0 : x.x0.length = 1 := by have := congrArg List.length hk.k0; simpa using this
  have ly2 : y2.length = 7 := by have := congrArg List.length k2; simpa using this
  have bd : ∀ u : World, Below u.heap.size u u.drew := fun u => ⟨rfl, rfl, rfl, Nat.le_refl _, fun _ _ => rfl⟩
  refine (go_chart (D := 99) (W := W) (M := M) (o := o) (C := w.heap.size) nilw_ints methw_ints callw_ints
    (R0 := fun u => u = w0)
    (R1 := fun u => WS u B W (fs ++ flds x.x0) ∧ Stq (Wown W) w0 u)
    (R2 := fun u => WS u B W (fs ++ flds x.x0 ++ listF flds x.ps) ∧ Stp (Wown W) M (o + 1) (o + 2) w0 u)
    (R3 := fun u => WS u B W (fs ++ flds x.x0 ++ listF flds x.ps ++ flds y1) ∧ Stp (Wown W) M (o + 1) (o + 2) w0 u)
    (R4 := fun u => WS u B W (fs ++ flds x.x0 ++ listF flds x.ps ++ flds y1 ++ flds y2) ∧ Stp (Wown W) M (o + 1) (o + 2) w0 u)
    (R5 := fun u => WS u B W (fs ++ flds x.x0 ++ listF flds x.ps ++ flds y1 ++ flds y2 ++ listF flds x.ms) ∧ Stp (Wown W) M (o + 1) (o + 12) w0 u)
    (fun u hu => by
      rcases hu with hu | hu | hu | hu | hu | hu
      · subst hu; exact hC0
      · exact KC (hu.2.to hM0 nM0 0 0)
      · exact KC hu.2
      · exact KC hu.2
      · exact KC hu.2
      · exact KC hu.2)
    (fun u hu => by
      subst hu
      exact (wints_call (h.below hb0) B0 g0 (kinds_all hk.k0 (by simp)) l0 hM0 nM0 #[.pointer (some ⟨M, o, none⟩)] 88 (fun j hj => match j, hj with | 0, _ => rfl)).mono fun e w' ⟨h1, h2, h3⟩ => ⟨h1, h2, h3⟩)
    (fun u hu => by
      have hud : Stq (Wown W) w0 u.drew := ⟨hu.2.os, hu.2.tape, hu.2.output, hu.2.size, hu.2.block, hu.2.own⟩
      have eu := hud.block M hM0 nM0
      exact (wlist_chart1 (C := w.heap.size) ⟨hu.1.below (bd u), Nat.le_trans B0 hud.size, (World.cell?_of_block (w := w0) (a := ⟨M, o + 1, none⟩) eu).trans q1, (World.frozen?_of_block (w := w0) (a := ⟨M, o + 1, none⟩) eu).trans z1, L1.stq hud, hud.keep hM0 nM0, by omega⟩ hk.kp (KC (hud.to hM0 nM0 0 0)) (hud.keep hlt0 nC0)).mono fun e w' ⟨h1, h2, h3⟩ => ⟨h1, h2, (hud.to hM0 nM0 _ _).trans h3⟩)
    (fun u hu => (wints_call hu.1 (Nat.le_trans B0 hu.2.size) (g1.step hu.2 (.inl (Nat.le_refl _))) (kinds_all k1 (by simp)) ly1 (Nat.lt_of_lt_of_le hM0 hu.2.size) (hu.2.keep hM0 nM0) #[.pointer (some ⟨M, o + 2, none⟩), .pointer (some ⟨M, o + 3, none⟩)] 88 (fun j hj => match j, hj with | 0, _ => rfl | 1, _ => rfl)).mono fun e w' ⟨h1, h2, h3⟩ => ⟨h1, h2, hu.2.trans (h3.to (Nat.lt_of_lt_of_le hM0 hu.2.size) (hu.2.keep hM0 nM0) _ _)⟩)
    (fun u hu => by
      have hud := stp_drew hu.2 (fun k hk => dn hk)
      exact (wplan_any (hu.1.below (bd u)) (Nat.le_trans B0 hud.size) (g2.step hud (.inl (by omega))) k2 (Nat.lt_of_lt_of_le hM0 hud.size) (hud.keep hM0 nM0)).mono fun e w' ⟨h1, h2, h3⟩ => ⟨h1, h2, hud.trans (h3.to (Nat.lt_of_lt_of_le hM0 hud.size) (hud.keep hM0 nM0) _ _)⟩)
    (fun u hu => by
      have hud := stp_drew hu.2 (fun k hk => dn hk)
      exact (wlist_chart2 (C := w.heap.size) ⟨hu.1.below (bd u), Nat.le_trans B0 hud.size, (hud.cell (o + 11) (by omega)).trans q2, (hud.frozen (o + 11)).trans z2, L2.stp hud, hud.keep hM0 nM0, by omega⟩ hk.km (KC hud) (hud.keep hlt0 nC0)).mono fun e w' ⟨h1, h2, h3⟩ => ⟨h1, h2, (hud.wider (Nat.le_refl _) (by omega)).trans (h3.wider (by omega) (by omega))⟩)
    w rfl hw0).mono fun e w' ⟨h1, h2, h3⟩ => ⟨h1, ?_, ((st0.to hM hS _ _).trans (h3.wider (by omega) (Nat.le_refl _)))⟩
  unfold Cht.flds
  rw [e1, flds_append]
  simpa only [List.append_assoc] using h2

/-- what bytes are read as, as a chart -/
def chtA (bs : List Int) (s : St) : Ans Cht :=
  ⟨⟨(flatA bs [0] s).v, (listA bs (flatA bs [0, 3, 0]) (flatA bs [0] s).s).v, (flatA bs [0, 0, 0, 0, 0, 3, 3, 0, 0] (listA bs (flatA bs [0, 3, 0]) (flatA bs [0] s).s).s).v, (listA bs (flatA bs [0, 0, 2, 0, 0, 0, 0]) (flatA bs [0, 0, 0, 0, 0, 3, 3, 0, 0] (listA bs (flatA bs [0, 3, 0]) (flatA bs [0] s).s).s).s).v⟩,
   (listA bs (flatA bs [0, 0, 2, 0, 0, 0, 0]) (flatA bs [0, 0, 0, 0, 0, 3, 3, 0, 0] (listA bs (flatA bs [0, 3, 0]) (flatA bs [0] s).s).s).s).s⟩
/-- the first field, and the first list, have been read -/
def Rc1 (B RR R M o : Nat) (x0 : List Atom) (ps : List (List Atom)) (u : World) : Prop :=
  FlatAt u (OutB B (Rown RR R) M u) M o x0 ∧ ∃ ad n cp, u.cell? ⟨M, o + 1, none⟩ = some (.slice ad n cp) ∧ Ls u (OutB B (Rown RR R) M u) ad n cp 3 ps
theorem Rc1.step {B RR R M o lo hi : Nat} {x0 : List Atom} {ps : List (List Atom)} {u u' : World} (h : Rc1 B RR R M o x0 ps u) (g : Stp (Rown RR R) M lo hi u u') (hl : o + 2 ≤ lo) (h0 : x0.length = 1) : Rc1 B RR R M o x0 ps u' := by
  obtain ⟨h1, ad, n, cp, h2, h3⟩ := h
  exact ⟨h1.stepB g (.inr (by omega)), ad, n, cp, (g.cell (o + 1) (by omega)).trans h2, h3.stpB g⟩

theorem Rc1.drew {B RR R M o : Nat} {x0 : List Atom} {ps : List (List Atom)} {u : World} (h : Rc1 B RR R M o x0 ps u) : Rc1 B RR R M o x0 ps u.drew := by
  obtain ⟨h1, ad, n, cp, h2, h3⟩ := h
  exact ⟨h1.same (fun _ _ => rfl) (fun b hb => ⟨hb, rfl⟩), ad, n, cp, h2, h3.same (fun b hb => ⟨hb, rfl⟩)⟩
set_option maxHeartbeats 1000000 in
theorem rchart_any {B RR R : Nat} {a : Option Addr} {n cp : Nat} {bs : List Int} {s : St} {M o : Nat} {w : World} (h : RS w B RR R a n cp bs s) (hF : Far RR R a M) (hMB : M < B) (hM : M < w.heap.size) (hr : Room w M o 12) (hc1 : w.cell? ⟨M, o + 1, none⟩ = some (.slice none 0 0)) (hc2 : w.cell? ⟨M, o + 11, none⟩ = some (.slice none 0 0)) :
    Calls Try.prog 25 #[.iface 78 (.pointer (some ⟨RR, 0, none⟩)), .pointer (some ⟨M, o, none⟩)] w fun e w' => e = .returned (.tuple #[]) ∧ RS w' B RR R a n cp bs (chtA bs s).s ∧ ((chtA bs s).s.err = 0 → ChtAt w' (OutB B (Rown RR R) M w') M o (chtA bs s).v) ∧ Stp (Rown RR R) M o (o + 12) w w' := by
  have hb0 : Below w.heap.size w (w.alloc (.cells #[.iface 78 (.pointer (some ⟨RR, 0, none⟩))] 86)) := below_alloc (Below.refl _ _) _
  have st0 : Stq (Rown RR R) w (w.alloc (.cells #[.iface 78 (.pointer (some ⟨RR, 0, none⟩))] 86)) := rq_below RR R hb0
  have hC0 : (w.alloc (.cells #[.iface 78 (.pointer (some ⟨RR, 0, none⟩))] 86)).cell? ⟨w.heap.size, 0, none⟩ = some (.iface 78 (.pointer (some ⟨RR, 0, none⟩))) := by simp
  generalize hw0 : w.alloc (.cells #[.iface 78 (.pointer (some ⟨RR, 0, none⟩))] 86) = w0 at *
  have nC : ∀ u : World, ¬ Rown RR R u w.heap.size := fun u hk => by have := h.lt; rcases hk with hk | hk <;> omega
  have hlt0 : w.heap.size < w0.heap.size := World.block_lt_of_cell? w0 _ hC0
  have KC : ∀ {u : World} {lo hi : Nat}, Stp (Rown RR R) M lo hi w0 u → u.cell? ⟨w.heap.size, 0, none⟩ = some (.iface 78 (.pointer (some ⟨RR, 0, none⟩))) := fun g => (World.cell?_of_block (w := w0) (a := ⟨w.heap.size, 0, none⟩) (g.block _ hlt0 (nC _) (Nat.ne_of_gt hM))).trans hC0
  have hM0 : M < w0.heap.size := by omega
  have eM := st0.block M hM (far_own hF w)
  have hr0 : Room w0 M o 12 := room_stq hr st0 hM (far_own hF w)
  have q1 : w0.cell? ⟨M, o + 1, none⟩ = some (.slice none 0 0) := (World.cell?_of_block (w := w) (a := ⟨M, o + 1, none⟩) eM).trans hc1
  have q2 : w0.cell? ⟨M, o + 11, none⟩ = some (.slice none 0 0) := (World.cell?_of_block (w := w) (a := ⟨M, o + 11, none⟩) eM).trans hc2
  have z1 : w0.frozen? ⟨M, o + 1, none⟩ = false := (hr0 1 (by omega)).2
  have z2 : w0.frozen? ⟨M, o + 11, none⟩ = false := (hr0 11 (by omega)).2
  have bd : ∀ u : World, Below u.heap.size u u.drew := fun u => ⟨rfl, rfl, rfl, Nat.le_refl _, fun _ _ => rfl⟩
  have dr : ∀ {u : World} {lo hi : Nat}, Stp (Rown RR R) M lo hi w0 u → Stp (Rown RR R) M lo hi w0 u.drew := fun g => stp_drew g (fun k hk => hk)
  have du : ∀ u : World, Stp (Rown RR R) M 0 0 u u.drew := fun u => stp_drew (Stp.refl _ _ _ _ _) (fun k hk => hk)
  obtain ⟨r0, e0⟩ : ∃ r, r = flatA bs [0] s := ⟨_, rfl⟩
  obtain ⟨rp, ep⟩ : ∃ r, r = listA bs (flatA bs [0, 3, 0]) r0.s := ⟨_, rfl⟩
  obtain ⟨r1, e1⟩ : ∃ r, r = flatA bs [0, 0, 0, 0, 0, 3, 3, 0, 0] rp.s := ⟨_, rfl⟩
  obtain ⟨rm, em⟩ : ∃ r, r = listA bs (flatA bs [0, 0, 2, 0, 0, 0, 0]) r1.s := ⟨_, rfl⟩
  have ec : chtA bs s = ⟨⟨r0.v, rp.v, r1.v, rm.v⟩, rm.s⟩ := by unfold chtA; rw [← e0, ← ep, ← e1, ← em]
  have l0 : r0.v.length = 1 := by rw [e0]; exact flatA_length bs [0] s
  have b1 : rp.s.err = 0 → r0.s.err = 0 := fun h5 => err_back (listA bs (flatA bs [0, 3, 0])) (fun s hs => listA_stuck bs _ s hs) _ (by rw [← ep]; exact h5)
  have b2 : (flatA bs [0, 0] rp.s).s.err = 0 → rp.s.err = 0 := fun h5 => err_back (flatA bs [0, 0]) (fun s hs => flatA_stuck bs _ s hs) _ h5
  have e1' : r1 = ⟨(flatA bs [0, 0] rp.s).v ++ (flatA bs [0, 0, 0, 3, 3, 0, 0] (flatA bs [0, 0] rp.s).s).v, (flatA bs [0, 0, 0, 3, 3, 0, 0] (flatA bs [0, 0] rp.s).s).s⟩ := by rw [e1]; exact flatA_append bs [0, 0] [0, 0, 0, 3, 3, 0, 0] rp.s
  have b3 : r1.s.err = 0 → (flatA bs [0, 0] rp.s).s.err = 0 := fun h5 => err_back (flatA bs [0, 0, 0, 3, 3, 0, 0]) (fun s hs => flatA_stuck bs _ s hs) _ (by rw [e1'] at h5; exact h5)
  have b4 : rm.s.err = 0 → r1.s.err = 0 := fun h5 => err_back (listA bs (flatA bs [0, 0, 2, 0, 0, 0, 0])) (fun s hs => listA_stuck bs _ s hs) _ (by rw [← em]; exact h5)
  have l2 : (flatA bs [0, 0] rp.s).v.length = 2 := flatA_length bs [0, 0] _
  have l7 : r1.v.length = 9 := by rw [e1]; exact flatA_length bs _ _
  rw [ec]
  refine (go_chart (D := 78) (W := RR) (M := M) (o := o) (C := w.heap.size) nilr_ints methr_ints callr_ints
    (R0 := fun u => u = w0)
    (R1 := fun u => RS u B RR R a n cp bs r0.s ∧ (r0.s.err = 0 → FlatAt u (OutB B (Rown RR R) M u) M o r0.v) ∧ Stp (Rown RR R) M o (o + 1) w0 u)
    (R2 := fun u => RS u B RR R a n cp bs rp.s ∧ (rp.s.err = 0 → Rc1 B RR R M o r0.v rp.v u) ∧ Stp (Rown RR R) M o (o + 2) w0 u)
    (R3 := fun u => RS u B RR R a n cp bs (flatA bs [0, 0] rp.s).s ∧ ((flatA bs [0, 0] rp.s).s.err = 0 → Rc1 B RR R M o r0.v rp.v u ∧ FlatAt u (OutB B (Rown RR R) M u) M (o + 2) (flatA bs [0, 0] rp.s).v) ∧ Stp (Rown RR R) M o (o + 4) w0 u)
    (R4 := fun u => RS u B RR R a n cp bs r1.s ∧ (r1.s.err = 0 → Rc1 B RR R M o r0.v rp.v u ∧ FlatAt u (OutB B (Rown RR R) M u) M (o + 2) r1.v) ∧ Stp (Rown RR R) M o (o + 11) w0 u)
    (R5 := fun u => RS u B RR R a n cp bs rm.s ∧ (rm.s.err = 0 → ChtAt u (OutB B (Rown RR R) M u) M o ⟨r0.v, rp.v, r1.v, rm.v⟩) ∧ Stp (Rown RR R) M o (o + 12) w0 u)
    (fun u hu => by
      rcases hu with hu | hu | hu | hu | hu | hu
      · subst hu; exact hC0
      · exact KC hu.2.2
      · exact KC hu.2.2
      · exact KC hu.2.2
      · exact KC hu.2.2
      · exact KC hu.2.2)
    (fun u hu => by
      subst hu
      exact (rints_call (k := 1) (h.below hb0) hF hM0 (hr0.left (by omega)) #[.pointer (some ⟨M, o, none⟩)] 88 (fun j hj => match j, hj with | 0, _ => rfl)).mono fun e w' ⟨h1, h2, h3, h4⟩ => ⟨h1, by rw [e0]; exact h2, fun h5 => by rw [e0] at h5 ⊢; exact (h3 h5).toB, h4⟩)
    (fun u hu => by
      have hud := dr hu.2.2
      exact (rlist_chart1 (C := w.heap.size) ⟨hu.1.below (bd u), (hud.cell (o + 1) (by omega)).trans q1, (hud.frozen (o + 1)).trans z1, hF, hMB, by decide⟩ (KC hud) (nC _)).mono fun e w' ⟨h1, h2, h3, h4⟩ => ⟨h1, by rw [ep]; exact h2, fun h5 => by
        obtain ⟨ad, k, h6, h7⟩ := h3 (by rw [← ep]; exact h5)
        rw [ep]
        refine ⟨((hu.2.1 (b1 h5)).stepB (du u) (.inl (Nat.zero_le _))).stepB h4 (.inr (by omega)), ad, k, k, h6, h7⟩, (hud.wider (Nat.le_refl _) (by omega)).trans (h4.wider (by omega) (Nat.le_refl _))⟩)
    (fun u hu => (rints_call (k := 2) hu.1 hF (Nat.lt_of_lt_of_le hM0 hu.2.2.size) ((hr0.part (a := 2) (m := 2) (by omega)).step hu.2.2 (.inl (Nat.le_refl _))) #[.pointer (some ⟨M, o + 2, none⟩), .pointer (some ⟨M, o + 3, none⟩)] 88 (fun j hj => match j, hj with | 0, _ => rfl | 1, _ => rfl)).mono fun e w' ⟨h1, h2, h3, h4⟩ => ⟨h1, h2, fun h5 => ⟨(hu.2.1 (b2 h5)).step h4 (Nat.le_refl _) l0, (h3 h5).toB⟩, (hu.2.2.wider (Nat.le_refl _) (by omega)).trans (h4.wider (by omega) (Nat.le_refl _))⟩)
    (fun u hu => by
      have hud := dr hu.2.2
      exact (rplan_any (hu.1.below (bd u)) hF (Nat.lt_of_lt_of_le hM0 hud.size) ((hr0.part (a := 4) (m := 7) (by omega)).step hud (.inl (Nat.le_refl _)))).mono fun e w' ⟨h1, h2, h3, h4⟩ => ⟨h1, by rw [e1']; exact h2, fun h5 => by
        have h6 := hu.2.1 (b3 h5)
        refine ⟨h6.1.drew.step h4 (by omega) l0, ?_⟩
        rw [e1']
        exact ((h6.2.stepB (du u) (.inl (Nat.zero_le _))).stepB h4 (.inr (by omega))).append (by rw [l2]; exact (h3 (by rw [e1'] at h5; exact h5)).toB), (hud.wider (Nat.le_refl _) (by omega)).trans (h4.wider (by omega) (Nat.le_refl _))⟩)
    (fun u hu => by
      have hud := dr hu.2.2
      exact (rlist_chart2 (C := w.heap.size) ⟨hu.1.below (bd u), (hud.cell (o + 11) (by omega)).trans q2, (hud.frozen (o + 11)).trans z2, hF, hMB, by decide⟩ (KC hud) (nC _)).mono fun e w' ⟨h1, h2, h3, h4⟩ => ⟨h1, by rw [em]; exact h2, fun h5 => by
        obtain ⟨ad, k, h6, h7⟩ := h3 (by rw [← em]; exact h5)
        have h8 := hu.2.1 (b4 h5)
        have h9 := h8.1.drew.step h4 (by omega) l0
        refine ⟨h9.1, h9.2, (h8.2.stepB (du u) (.inl (Nat.zero_le _))).stepB h4 (.inr (by omega)), ad, k, k, h6, by rw [em]; exact h7⟩, (hud.wider (Nat.le_refl _) (by omega)).trans (h4.wider (by omega) (Nat.le_refl _))⟩)
    w rfl hw0).mono fun e w' ⟨h1, h2, h3, h4⟩ => ⟨h1, h2, h3, (st0.to hM (far_own hF w) _ _).trans h4⟩
end Go.Proofs.Ytiafohpigkkgbaa
