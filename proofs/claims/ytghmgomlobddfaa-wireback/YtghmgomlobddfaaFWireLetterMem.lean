/- A letter in memory: its plain fields, and its two lists; how the landed writer and reader go over it, and over a letter behind its group. No condition but the size. -/
import Derived.Test.YtghmgomlobddfaaFWireListsLetter
import Derived.Test.YtghmgomlobddfaaFWireGoLetter
import Derived.Test.YtghmgomlobddfaaFWireGoMailed
import Derived.Test.YtghmgomlobddfaaFWireLsMore
namespace Go.Proofs.Ytghmgomlobddfaa
open Go.ChangeShapes Go.WideShapes Go.ChangeAt Go.RowKit B8 Cm Wm
set_option linter.unusedVariables false

/-- a letter: its plain fields (behind its group, if that stands ahead), its votes, its entries, its piece -/
structure Let where
  x0 : List Atom
  vs : List (List Atom)
  es : List (List Atom)
  x1 : List Atom
structure LetK (m : Nat) (x : Let) : Prop where
  k0 : x.x0.map Atom.k = List.replicate m 0
  kv : ∀ xs ∈ x.vs, xs.map Atom.k = [0, 0, 0, 4]
  ke : ∀ xs ∈ x.es, xs.map Atom.k = [0, 4]
  k1 : x.x1.map Atom.k = [0, 0, 1, 4]
def Let.flds (x : Let) : List Fld := Wm.flds x.x0 ++ listF Wm.flds x.vs ++ listF Wm.flds x.es ++ Wm.flds x.x1
/-- the letter lies at M, from o on, behind m numbers -/
structure LetAt (m : Nat) (w : World) (P : Nat → Prop) (M o : Nat) (x : Let) : Prop where
  f0 : FlatAt w P M o x.x0
  vs : ∃ a n cp, w.cell? ⟨M, o + m, none⟩ = some (.slice a n cp) ∧ Ls w P a n cp 4 x.vs
  es : ∃ a n cp, w.cell? ⟨M, o + m + 1, none⟩ = some (.slice a n cp) ∧ Ls w P a n cp 2 x.es
  f1 : FlatAt w P M (o + m + 2) x.x1
theorem LetK.len {m : Nat} {x : Let} (h : LetK m x) : x.x0.length = m := by have := congrArg List.length h.k0; simpa using this
theorem LetK.len1 {m : Nat} {x : Let} (h : LetK m x) : x.x1.length = 4 := by have := congrArg List.length h.k1; simpa using this
theorem split3 {xs : List Atom} (h : xs.map Atom.k = List.replicate 7 0) : ∃ y1 y2 y3, xs = y1 ++ (y2 ++ y3) ∧ y1.map Atom.k = [0, 0, 0] ∧ y2.map Atom.k = [0, 0] ∧ y3.map Atom.k = [0, 0] := by
  obtain ⟨y1, r, e1, k1, k2⟩ := List.map_eq_append_iff.1 (show _ = [0, 0, 0] ++ [0, 0, 0, 0] from h)
  obtain ⟨y2, y3, e2, k3, k4⟩ := List.map_eq_append_iff.1 (show _ = [0, 0] ++ [0, 0] from k2)
  exact ⟨y1, y2, y3, by rw [e1, e2], k1, k3, k4⟩

set_option maxHeartbeats 1000000 in
theorem wletter_any {w : World} {B W : Nat} {fs : List Fld} {M o : Nat} {x : Let} (h : WS w B W fs) (hB : B ≤ w.heap.size) (hx : LetAt 7 w (Out (Wown W) M w) M o x) (hk : LetK 7 x) (hz1 : w.frozen? ⟨M, o + 7, none⟩ = false) (hz2 : w.frozen? ⟨M, o + 8, none⟩ = false) (hS : ¬ Wown W w M) :
    Calls Try.prog 39 #[.iface 80 (.pointer (some ⟨W, 0, none⟩)), .pointer (some ⟨M, o, none⟩)] w fun e w' => e = .returned (.tuple #[]) ∧ WS w' B W (fs ++ x.flds) ∧ Stp (Wown W) M o (o + 13) w w' := by
  obtain ⟨a1, n1, c1, hc1, hl1⟩ := hx.vs
  obtain ⟨a2, n2, c2, hc2, hl2⟩ := hx.es
  have hM : M < w.heap.size := World.block_lt_of_cell? w _ hc1
  obtain ⟨y1, y2, y3, e1, k1, k2, k3⟩ := split3 hk.k0
  have ly1 : y1.length = 3 := by have := congrArg List.length k1; simpa using this
  have ly2 : y2.length = 2 := by have := congrArg List.length k2; simpa using this
  have ly3 : y3.length = 2 := by have := congrArg List.length k3; simpa using this
  have fy := hx.f0
  rw [e1] at fy
  have fy1 := fy.left
  have fr := fy.right
  rw [ly1] at fr
  have fy2 := fr.left
  have fy3 := fr.right
  rw [ly2, Nat.add_assoc] at fy3
  have fp := hx.f1
  -- the block that holds the clerk
  have hb0 : Below w.heap.size w (w.alloc (.cells #[.iface 80 (.pointer (some ⟨W, 0, none⟩))] 86)) := below_alloc (Below.refl _ _) _
  have st0 : Stq (Wown W) w (w.alloc (.cells #[.iface 80 (.pointer (some ⟨W, 0, none⟩))] 86)) := wq_below h hb0
  have hC0 : (w.alloc (.cells #[.iface 80 (.pointer (some ⟨W, 0, none⟩))] 86)).cell? ⟨w.heap.size, 0, none⟩ = some (.iface 80 (.pointer (some ⟨W, 0, none⟩))) := by simp
  have nC0 : ¬ Wown W (w.alloc (.cells #[.iface 80 (.pointer (some ⟨W, 0, none⟩))] 86)) w.heap.size := fun hk => by have := (h.base _ (wown_of_below h hb0 hk)).2; omega
  generalize hw0 : w.alloc (.cells #[.iface 80 (.pointer (some ⟨W, 0, none⟩))] 86) = w0 at *
  have hlt0 : w.heap.size < w0.heap.size := World.block_lt_of_cell? w0 _ hC0
  have dn : ∀ {u : World} {k : Nat}, Wown W u.drew k → Wown W u k := fun hk => hk
  have KC : ∀ {u : World} {lo hi : Nat}, Stp (Wown W) M lo hi w0 u → u.cell? ⟨w.heap.size, 0, none⟩ = some (.iface 80 (.pointer (some ⟨W, 0, none⟩))) := fun g => (World.cell?_of_block (w := w0) (a := ⟨w.heap.size, 0, none⟩) (g.block _ hlt0 nC0 (Nat.ne_of_gt hM))).trans hC0
  have hM0 : M < w0.heap.size := by omega
  have nM0 : ¬ Wown W w0 M := st0.keep hM hS
  have B0 : B ≤ w0.heap.size := Nat.le_trans hB st0.size
  have g1 := fy1.stq st0 hM hS
  have g2 := fy2.stq st0 hM hS
  have g3 := fy3.stq st0 hM hS
  have gp := fp.stq st0 hM hS
  have L1 := hl1.stq st0
  have L2 := hl2.stq st0
  have eM := st0.block M hM hS
  have q1 : w0.cell? ⟨M, o + 7, none⟩ = some (.slice a1 n1 c1) := (World.cell?_of_block (w := w) (a := ⟨M, o + 7, none⟩) eM).trans hc1
  have q2 : w0.cell? ⟨M, o + 8, none⟩ = some (.slice a2 n2 c2) := (World.cell?_of_block (w := w) (a := ⟨M, o + 8, none⟩) eM).trans hc2
  have z1 : w0.frozen? ⟨M, o + 7, none⟩ = false := (World.frozen?_of_block (w := w) (a := ⟨M, o + 7, none⟩) eM).trans hz1
  have z2 : w0.frozen? ⟨M, o + 8, none⟩ = false := (World.frozen?_of_block (w := w) (a := ⟨M, o + 8, none⟩) eM).trans hz2
  have bd : ∀ u : World, Below u.heap.size u u.drew := fun u => ⟨rfl, rfl, rfl, Nat.le_refl _, fun _ _ => rfl⟩
  have qd : ∀ {u : World}, Stq (Wown W) w0 u → Stq (Wown W) w0 u.drew := fun hu => ⟨hu.os, hu.tape, hu.output, hu.size, hu.block, hu.own⟩
  refine (go_letter (D := 80) (W := W) (M := M) (o := o) (C := w.heap.size) nilw_ints methw_ints callw_ints
    (R0 := fun u => u = w0)
    (R1 := fun u => WS u B W (fs ++ flds y1) ∧ Stq (Wown W) w0 u)
    (R2 := fun u => WS u B W (fs ++ flds y1 ++ flds y2) ∧ Stq (Wown W) w0 u)
    (R3 := fun u => WS u B W (fs ++ flds y1 ++ flds y2 ++ flds y3) ∧ Stq (Wown W) w0 u)
    (R4 := fun u => WS u B W (fs ++ flds y1 ++ flds y2 ++ flds y3 ++ listF flds x.vs) ∧ Stp (Wown W) M (o + 7) (o + 8) w0 u)
    (R5 := fun u => WS u B W (fs ++ flds y1 ++ flds y2 ++ flds y3 ++ listF flds x.vs ++ listF flds x.es) ∧ Stp (Wown W) M (o + 7) (o + 9) w0 u)
    (R6 := fun u => WS u B W (fs ++ flds y1 ++ flds y2 ++ flds y3 ++ listF flds x.vs ++ listF flds x.es ++ flds x.x1) ∧ Stp (Wown W) M (o + 7) (o + 9) w0 u)
    (fun u hu => by
      rcases hu with hu | hu | hu | hu | hu | hu | hu
      · subst hu; exact hC0
      · exact KC (hu.2.to hM0 nM0 0 0)
      · exact KC (hu.2.to hM0 nM0 0 0)
      · exact KC (hu.2.to hM0 nM0 0 0)
      · exact KC hu.2
      · exact KC hu.2
      · exact KC hu.2)
    (fun u hu => by
      subst hu
      exact (wints_call (h.below hb0) B0 g1 (kinds_all k1 (by simp)) ly1 hM0 nM0 #[.pointer (some ⟨M, o, none⟩), .pointer (some ⟨M, o + 1, none⟩), .pointer (some ⟨M, o + 2, none⟩)] 88 (fun j hj => match j, hj with | 0, _ => rfl | 1, _ => rfl | 2, _ => rfl)).mono fun e w' ⟨h1, h2, h3⟩ => ⟨h1, h2, h3⟩)
    (fun u hu => by
      have hud := qd hu.2
      exact (wballot_any (hu.1.below (bd u)) (Nat.le_trans B0 hud.size) (g2.stq hud hM0 nM0) k2 (Nat.lt_of_lt_of_le hM0 hud.size) (hud.keep hM0 nM0)).mono fun e w' ⟨h1, h2, h3⟩ => ⟨h1, h2, hud.trans h3⟩)
    (fun u hu => (wints_call hu.1 (Nat.le_trans B0 hu.2.size) (g3.stq hu.2 hM0 nM0) (kinds_all k3 (by simp)) ly3 (Nat.lt_of_lt_of_le hM0 hu.2.size) (hu.2.keep hM0 nM0) #[.pointer (some ⟨M, o + 5, none⟩), .pointer (some ⟨M, o + 6, none⟩)] 88 (fun j hj => match j, hj with | 0, _ => rfl | 1, _ => rfl)).mono fun e w' ⟨h1, h2, h3⟩ => ⟨h1, h2, hu.2.trans h3⟩)
    (fun u hu => by
      have hud := qd hu.2
      have eu := hud.block M hM0 nM0
      exact (wlist_letter1 (C := w.heap.size) ⟨hu.1.below (bd u), Nat.le_trans B0 hud.size, (World.cell?_of_block (w := w0) (a := ⟨M, o + 7, none⟩) eu).trans q1, (World.frozen?_of_block (w := w0) (a := ⟨M, o + 7, none⟩) eu).trans z1, L1.stq hud, hud.keep hM0 nM0, by omega⟩ hk.kv (KC (hud.to hM0 nM0 0 0)) (hud.keep hlt0 nC0)).mono fun e w' ⟨h1, h2, h3⟩ => ⟨h1, h2, (hud.to hM0 nM0 _ _).trans h3⟩)
    (fun u hu => by
      have hud := stp_drew hu.2 (fun k hk => dn hk)
      exact (wlist_letter2 (C := w.heap.size) ⟨hu.1.below (bd u), Nat.le_trans B0 hud.size, (hud.cell (o + 8) (by omega)).trans q2, (hud.frozen (o + 8)).trans z2, L2.stp hud, hud.keep hM0 nM0, by omega⟩ hk.ke (KC hud) (hud.keep hlt0 nC0)).mono fun e w' ⟨h1, h2, h3⟩ => ⟨h1, h2, (hud.wider (Nat.le_refl _) (by omega)).trans (h3.wider (by omega) (by omega))⟩)
    (fun u hu => by
      have hud := stp_drew hu.2 (fun k hk => dn hk)
      exact (wpiece_any (hu.1.below (bd u)) (Nat.le_trans B0 hud.size) (gp.step hud (.inl (by omega))) hk.k1 (Nat.lt_of_lt_of_le hM0 hud.size) (hud.keep hM0 nM0)).mono fun e w' ⟨h1, h2, h3⟩ => ⟨h1, h2, hud.trans (h3.to (Nat.lt_of_lt_of_le hM0 hud.size) (hud.keep hM0 nM0) _ _)⟩)
    w rfl hw0).mono fun e w' ⟨h1, h2, h3⟩ => ⟨h1, ?_, ((st0.to hM hS _ _).trans (h3.wider (by omega) (by omega)))⟩
  unfold Let.flds
  rw [e1, flds_append, flds_append]
  simpa only [List.append_assoc] using h2

/-- what bytes are read as, as a letter behind numbers of these kinds -/
def letB (K : List Nat) (bs : List Int) (s : St) : Ans Let :=
  ⟨⟨(flatA bs K s).v, (listA bs (flatA bs [0, 0, 0, 4]) (flatA bs K s).s).v, (listA bs (flatA bs [0, 4]) (listA bs (flatA bs [0, 0, 0, 4]) (flatA bs K s).s).s).v, (flatA bs [0, 0, 1, 4] (listA bs (flatA bs [0, 4]) (listA bs (flatA bs [0, 0, 0, 4]) (flatA bs K s).s).s).s).v⟩,
   (flatA bs [0, 0, 1, 4] (listA bs (flatA bs [0, 4]) (listA bs (flatA bs [0, 0, 0, 4]) (flatA bs K s).s).s).s).s⟩
def letA (m : Nat) (bs : List Int) (s : St) : Ans Let := letB (List.replicate m 0) bs s
theorem letB_cons (K : List Nat) (bs : List Int) (s : St) : letB (0 :: K) bs s = ⟨⟨(atomA bs 0 s).v :: (letB K bs (atomA bs 0 s).s).v.x0, (letB K bs (atomA bs 0 s).s).v.vs, (letB K bs (atomA bs 0 s).s).v.es, (letB K bs (atomA bs 0 s).s).v.x1⟩, (letB K bs (atomA bs 0 s).s).s⟩ := by
  have e1 : (flatA bs (0 :: K) s).s = (flatA bs K (atomA bs 0 s).s).s := rfl
  have e2 : (flatA bs (0 :: K) s).v = (atomA bs 0 s).v :: (flatA bs K (atomA bs 0 s).s).v := rfl
  unfold letB
  rw [e1, e2]
theorem RI.drew {B RR R : Nat} {a : Option Addr} {n cp : Nat} {bs : List Int} {s : St} {M o : Nat} {w u : World} {pre : List Nat} (h : RI B RR R a n cp bs s M o w pre u) : RI B RR R a n cp bs s M o w pre u.drew :=
  ⟨h.1.below ⟨rfl, rfl, rfl, Nat.le_refl _, fun _ _ => rfl⟩, fun he => (h.2.1 he).same (fun _ _ => rfl) (fun b hb => ⟨hb, rfl⟩), stp_drew h.2.2 (fun k hk => hk)⟩
/-- the plain fields, and the first list, have been read -/
def Rm1 (m : Nat) (B RR R M o : Nat) (x0 : List Atom) (vs : List (List Atom)) (u : World) : Prop :=
  FlatAt u (OutB B (Rown RR R) M u) M o x0 ∧ ∃ ad n cp, u.cell? ⟨M, o + m, none⟩ = some (.slice ad n cp) ∧ Ls u (OutB B (Rown RR R) M u) ad n cp 4 vs
theorem Rm1.step {m B RR R M o lo hi : Nat} {x0 : List Atom} {vs : List (List Atom)} {u u' : World} (h : Rm1 m B RR R M o x0 vs u) (g : Stp (Rown RR R) M lo hi u u') (hl : o + m + 1 ≤ lo) (h0 : x0.length = m) : Rm1 m B RR R M o x0 vs u' := by
  obtain ⟨h1, ad, n, cp, h2, h3⟩ := h
  exact ⟨h1.stepB g (.inr (by omega)), ad, n, cp, (g.cell (o + m) (by omega)).trans h2, h3.stpB g⟩
theorem Rm1.drew {m B RR R M o : Nat} {x0 : List Atom} {vs : List (List Atom)} {u : World} (h : Rm1 m B RR R M o x0 vs u) : Rm1 m B RR R M o x0 vs u.drew := by
  obtain ⟨h1, ad, n, cp, h2, h3⟩ := h
  exact ⟨h1.same (fun _ _ => rfl) (fun b hb => ⟨hb, rfl⟩), ad, n, cp, h2, h3.same (fun b hb => ⟨hb, rfl⟩)⟩
def Rm2 (m : Nat) (B RR R M o : Nat) (x0 : List Atom) (vs es : List (List Atom)) (u : World) : Prop :=
  Rm1 m B RR R M o x0 vs u ∧ ∃ ad n cp, u.cell? ⟨M, o + m + 1, none⟩ = some (.slice ad n cp) ∧ Ls u (OutB B (Rown RR R) M u) ad n cp 2 es
theorem Rm2.step {m B RR R M o lo hi : Nat} {x0 : List Atom} {vs es : List (List Atom)} {u u' : World} (h : Rm2 m B RR R M o x0 vs es u) (g : Stp (Rown RR R) M lo hi u u') (hl : o + m + 2 ≤ lo) (h0 : x0.length = m) : Rm2 m B RR R M o x0 vs es u' := by
  obtain ⟨h1, ad, n, cp, h2, h3⟩ := h
  exact ⟨h1.step g (by omega) h0, ad, n, cp, (g.cell (o + m + 1) (by omega)).trans h2, h3.stpB g⟩
theorem Rm2.drew {m B RR R M o : Nat} {x0 : List Atom} {vs es : List (List Atom)} {u : World} (h : Rm2 m B RR R M o x0 vs es u) : Rm2 m B RR R M o x0 vs es u.drew := by
  obtain ⟨h1, ad, n, cp, h2, h3⟩ := h
  exact ⟨h1.drew, ad, n, cp, h2, h3.same (fun b hb => ⟨hb, rfl⟩)⟩
set_option maxHeartbeats 1000000 in
theorem rletter_any {B RR R : Nat} {a : Option Addr} {n cp : Nat} {bs : List Int} {s : St} {M o : Nat} {w : World} (h : RS w B RR R a n cp bs s) (hF : Far RR R a M) (hMB : M < B) (hM : M < w.heap.size) (hr : Room w M o 13) (hc1 : w.cell? ⟨M, o + 7, none⟩ = some (.slice none 0 0)) (hc2 : w.cell? ⟨M, o + 8, none⟩ = some (.slice none 0 0)) :
    Calls Try.prog 39 #[.iface 99 (.pointer (some ⟨RR, 0, none⟩)), .pointer (some ⟨M, o, none⟩)] w fun e w' => e = .returned (.tuple #[]) ∧ RS w' B RR R a n cp bs (letA 7 bs s).s ∧ ((letA 7 bs s).s.err = 0 → LetAt 7 w' (OutB B (Rown RR R) M w') M o (letA 7 bs s).v) ∧ Stp (Rown RR R) M o (o + 13) w w' := by
  have hb0 : Below w.heap.size w (w.alloc (.cells #[.iface 99 (.pointer (some ⟨RR, 0, none⟩))] 86)) := below_alloc (Below.refl _ _) _
  have st0 : Stq (Rown RR R) w (w.alloc (.cells #[.iface 99 (.pointer (some ⟨RR, 0, none⟩))] 86)) := rq_below RR R hb0
  have hC0 : (w.alloc (.cells #[.iface 99 (.pointer (some ⟨RR, 0, none⟩))] 86)).cell? ⟨w.heap.size, 0, none⟩ = some (.iface 99 (.pointer (some ⟨RR, 0, none⟩))) := by simp
  generalize hw0 : w.alloc (.cells #[.iface 99 (.pointer (some ⟨RR, 0, none⟩))] 86) = w0 at *
  have nC : ∀ u : World, ¬ Rown RR R u w.heap.size := fun u hk => by have := h.lt; rcases hk with hk | hk <;> omega
  have hlt0 : w.heap.size < w0.heap.size := World.block_lt_of_cell? w0 _ hC0
  have KC : ∀ {u : World} {lo hi : Nat}, Stp (Rown RR R) M lo hi w0 u → u.cell? ⟨w.heap.size, 0, none⟩ = some (.iface 99 (.pointer (some ⟨RR, 0, none⟩))) := fun g => (World.cell?_of_block (w := w0) (a := ⟨w.heap.size, 0, none⟩) (g.block _ hlt0 (nC _) (Nat.ne_of_gt hM))).trans hC0
  have hM0 : M < w0.heap.size := by omega
  have eM := st0.block M hM (far_own hF w)
  have hr0 : Room w0 M o 13 := room_stq hr st0 hM (far_own hF w)
  have q1 : w0.cell? ⟨M, o + 7, none⟩ = some (.slice none 0 0) := (World.cell?_of_block (w := w) (a := ⟨M, o + 7, none⟩) eM).trans hc1
  have q2 : w0.cell? ⟨M, o + 8, none⟩ = some (.slice none 0 0) := (World.cell?_of_block (w := w) (a := ⟨M, o + 8, none⟩) eM).trans hc2
  have z1 : w0.frozen? ⟨M, o + 7, none⟩ = false := (hr0 7 (by omega)).2
  have z2 : w0.frozen? ⟨M, o + 8, none⟩ = false := (hr0 8 (by omega)).2
  have bd : ∀ u : World, Below u.heap.size u u.drew := fun u => ⟨rfl, rfl, rfl, Nat.le_refl _, fun _ _ => rfl⟩
  have dr : ∀ {u : World} {lo hi : Nat}, Stp (Rown RR R) M lo hi w0 u → Stp (Rown RR R) M lo hi w0 u.drew := fun g => stp_drew g (fun k hk => hk)
  have du : ∀ u : World, Stp (Rown RR R) M 0 0 u u.drew := fun u => stp_drew (Stp.refl _ _ _ _ _) (fun k hk => hk)
  obtain ⟨r0, e0⟩ : ∃ r, r = flatA bs [0, 0, 0, 0, 0, 0, 0] s := ⟨_, rfl⟩
  obtain ⟨rv, ev⟩ : ∃ r, r = listA bs (flatA bs [0, 0, 0, 4]) r0.s := ⟨_, rfl⟩
  obtain ⟨re, ee⟩ : ∃ r, r = listA bs (flatA bs [0, 4]) rv.s := ⟨_, rfl⟩
  obtain ⟨r1, e1⟩ : ∃ r, r = flatA bs [0, 0, 1, 4] re.s := ⟨_, rfl⟩
  have ec : letA 7 bs s = ⟨⟨r0.v, rv.v, re.v, r1.v⟩, r1.s⟩ := by
    unfold letA letB
    rw [show List.replicate 7 0 = [0, 0, 0, 0, 0, 0, 0] from rfl, ← e0, ← ev, ← ee, ← e1]
  have l0 : r0.v.length = 7 := by rw [e0]; exact flatA_length bs _ s
  have b1 : rv.s.err = 0 → r0.s.err = 0 := fun h5 => err_back (listA bs (flatA bs [0, 0, 0, 4])) (fun s hs => listA_stuck bs _ s hs) _ (by rw [← ev]; exact h5)
  have b2 : re.s.err = 0 → rv.s.err = 0 := fun h5 => err_back (listA bs (flatA bs [0, 4])) (fun s hs => listA_stuck bs _ s hs) _ (by rw [← ee]; exact h5)
  have b3 : r1.s.err = 0 → re.s.err = 0 := fun h5 => err_back (flatA bs [0, 0, 1, 4]) (fun s hs => flatA_stuck bs _ s hs) _ (by rw [← e1]; exact h5)
  rw [ec]
  refine (go_letter (D := 99) (W := RR) (M := M) (o := o) (C := w.heap.size) nilr_ints methr_ints callr_ints
    (R0 := fun u => u = w0)
    (R1 := RI B RR R a n cp bs s M o w0 [0, 0, 0])
    (R2 := RI B RR R a n cp bs s M o w0 [0, 0, 0, 0, 0])
    (R3 := RI B RR R a n cp bs s M o w0 [0, 0, 0, 0, 0, 0, 0])
    (R4 := fun u => RS u B RR R a n cp bs rv.s ∧ (rv.s.err = 0 → Rm1 7 B RR R M o r0.v rv.v u) ∧ Stp (Rown RR R) M o (o + 8) w0 u)
    (R5 := fun u => RS u B RR R a n cp bs re.s ∧ (re.s.err = 0 → Rm2 7 B RR R M o r0.v rv.v re.v u) ∧ Stp (Rown RR R) M o (o + 9) w0 u)
    (R6 := fun u => RS u B RR R a n cp bs r1.s ∧ (r1.s.err = 0 → LetAt 7 u (OutB B (Rown RR R) M u) M o ⟨r0.v, rv.v, re.v, r1.v⟩) ∧ Stp (Rown RR R) M o (o + 13) w0 u)
    (fun u hu => by
      rcases hu with hu | hu | hu | hu | hu | hu | hu
      · subst hu; exact hC0
      · exact KC hu.2.2
      · exact KC hu.2.2
      · exact KC hu.2.2
      · exact KC hu.2.2
      · exact KC hu.2.2
      · exact KC hu.2.2)
    (fun u hu => by
      subst hu
      exact (rints_call (k := 3) (h.below hb0) hF hM0 (hr0.left (by omega)) #[.pointer (some ⟨M, o, none⟩), .pointer (some ⟨M, o + 1, none⟩), .pointer (some ⟨M, o + 2, none⟩)] 88 (fun j hj => match j, hj with | 0, _ => rfl | 1, _ => rfl | 2, _ => rfl)).mono fun e w' ⟨h1, h2⟩ => ⟨h1, h2⟩)
    (fun u hu => (rballot_any hu.drew.1 hF (hu.drew.lt hM0) (hu.drew.room hr0 (show 3 + 2 ≤ 13 by omega))).mono fun e w' ⟨h1, h2⟩ => ⟨h1, hu.drew.more h2⟩)
    (fun u hu => (rints_call (k := 2) hu.1 hF (hu.lt hM0) (hu.room hr0 (show 5 + 2 ≤ 13 by omega)) #[.pointer (some ⟨M, o + 5, none⟩), .pointer (some ⟨M, o + 6, none⟩)] 88 (fun j hj => match j, hj with | 0, _ => rfl | 1, _ => rfl)).mono fun e w' ⟨h1, h2⟩ => ⟨h1, hu.more h2⟩)
    (fun u hu => by
      have hu0 : RS u B RR R a n cp bs r0.s ∧ (r0.s.err = 0 → FlatAt u (OutF B (Rown RR R) M u) M o r0.v) ∧ Stp (Rown RR R) M o (o + 7) w0 u := by rw [e0]; exact hu
      have hud := dr hu0.2.2
      exact (rlist_letter1 (C := w.heap.size) ⟨hu0.1.below (bd u), (hud.cell (o + 7) (by omega)).trans q1, (hud.frozen (o + 7)).trans z1, hF, hMB, by decide⟩ (KC hud) (nC _)).mono fun e w' ⟨h1, h2, h3, h4⟩ => ⟨h1, by rw [ev]; exact h2, fun h5 => by
        obtain ⟨ad, k, h6, h7⟩ := h3 (by rw [← ev]; exact h5)
        rw [ev]
        refine ⟨((hu0.2.1 (b1 h5)).toB.stepB (du u) (.inl (Nat.zero_le _))).stepB h4 (.inr (by omega)), ad, k, k, h6, h7⟩, (hud.wider (Nat.le_refl _) (by omega)).trans (h4.wider (by omega) (Nat.le_refl _))⟩)
    (fun u hu => by
      have hud := dr hu.2.2
      exact (rlist_letter2 (C := w.heap.size) ⟨hu.1.below (bd u), (hud.cell (o + 8) (by omega)).trans q2, (hud.frozen (o + 8)).trans z2, hF, hMB, by decide⟩ (KC hud) (nC _)).mono fun e w' ⟨h1, h2, h3, h4⟩ => ⟨h1, by rw [ee]; exact h2, fun h5 => by
        obtain ⟨ad, k, h6, h7⟩ := h3 (by rw [← ee]; exact h5)
        rw [ee]
        exact ⟨(hu.2.1 (b2 h5)).drew.step h4 (by omega) l0, ad, k, k, h6, h7⟩, (hud.wider (Nat.le_refl _) (by omega)).trans (h4.wider (by omega) (Nat.le_refl _))⟩)
    (fun u hu => by
      have hud := dr hu.2.2
      exact (rpiece_any (hu.1.below (bd u)) hF (Nat.lt_of_lt_of_le hM0 hud.size) ((hr0.part (a := 9) (m := 4) (by omega)).step hud (.inl (Nat.le_refl _)))).mono fun e w' ⟨h1, h2, h3, h4⟩ => ⟨h1, by rw [e1]; exact h2, fun h5 => by
        have h9 := (hu.2.1 (b3 h5)).drew.step h4 (by omega) l0
        exact ⟨h9.1.1, h9.1.2, h9.2, by rw [e1] at h5 ⊢; exact (h3 h5).toB⟩, (hud.wider (Nat.le_refl _) (by omega)).trans (h4.wider (by omega) (Nat.le_refl _))⟩)
    w rfl hw0).mono fun e w' ⟨h1, h2, h3, h4⟩ => ⟨h1, h2, h3, (st0.to hM (far_own hF w) _ _).trans h4⟩

/-- a letter behind its group is a letter behind eight numbers -/
theorem LetAt.tail {w : World} {P : Nat → Prop} {M o : Nat} {g : Atom} {x0 : List Atom} {vs es : List (List Atom)} {x1 : List Atom} (h : LetAt 8 w P M o ⟨g :: x0, vs, es, x1⟩) : FlatAt w P M o [g] ∧ LetAt 7 w P M (o + 1) ⟨x0, vs, es, x1⟩ := by
  have f := h.f0
  rw [show (⟨g :: x0, vs, es, x1⟩ : Let).x0 = [g] ++ x0 from rfl] at f
  have e7 : o + 1 + 7 = o + 8 := by omega
  exact ⟨f.left, ⟨f.right, by rw [e7]; exact h.vs, by rw [e7]; exact h.es, by rw [e7]; exact h.f1⟩⟩
theorem LetAt.head {w : World} {P : Nat → Prop} {M o : Nat} {g : Atom} {x : Let} (hg : FlatAt w P M o [g]) (h : LetAt 7 w P M (o + 1) x) : LetAt 8 w P M o ⟨g :: x.x0, x.vs, x.es, x.x1⟩ := by
  have e7 : o + 1 + 7 = o + 8 := by omega
  exact ⟨hg.append h.f0, by have := h.vs; rw [e7] at this; exact this, by have := h.es; rw [e7] at this; exact this, by have := h.f1; rw [e7] at this; exact this⟩
theorem LetK.tail {g : Atom} {x0 : List Atom} {vs es : List (List Atom)} {x1 : List Atom} (h : LetK 8 ⟨g :: x0, vs, es, x1⟩) : g.k = 0 ∧ LetK 7 ⟨x0, vs, es, x1⟩ := by
  have k := h.k0
  rw [show List.replicate 8 0 = 0 :: List.replicate 7 0 from rfl] at k
  simp only [List.map_cons, List.cons.injEq] at k
  exact ⟨k.1, k.2, h.kv, h.ke, h.k1⟩
theorem wmailed_any {w : World} {B W : Nat} {fs : List Fld} {M o : Nat} {x : Let} (h : WS w B W fs) (hB : B ≤ w.heap.size) (hx : LetAt 8 w (Out (Wown W) M w) M o x) (hk : LetK 8 x) (hz1 : w.frozen? ⟨M, o + 8, none⟩ = false) (hz2 : w.frozen? ⟨M, o + 9, none⟩ = false) (hS : ¬ Wown W w M) :
    Calls Try.prog 24 #[.iface 80 (.pointer (some ⟨W, 0, none⟩)), .pointer (some ⟨M, o, none⟩)] w fun e w' => e = .returned (.tuple #[]) ∧ WS w' B W (fs ++ x.flds) ∧ Stp (Wown W) M o (o + 14) w w' := by
  obtain ⟨x0, vs, es, x1⟩ := x
  match x0, hk, hx with
  | [], hk, hx => exact absurd hk.len (by simp)
  | g :: x0, hk, hx =>
    obtain ⟨fg, hl⟩ := hx.tail
    obtain ⟨kg, kl⟩ := hk.tail
    have hM : M < w.heap.size := by obtain ⟨a1, n1, c1, hc1, _⟩ := hx.vs; exact World.block_lt_of_cell? w _ hc1
    refine (go_mailed (D := 80) (W := W) (M := M) (o := o) nilw_ints methw_ints callw_ints
      (R0 := fun u => u = w)
      (R1 := fun u => WS u B W (fs ++ flds [g]) ∧ Stq (Wown W) w u)
      (R2 := fun u => WS u B W (fs ++ flds [g] ++ Let.flds ⟨x0, vs, es, x1⟩) ∧ Stp (Wown W) M o (o + 14) w u)
      (fun u hu => by
        subst hu
        exact (wints_call (n := 1) h hB fg (fun y hy => (List.mem_singleton.1 hy) ▸ kg) rfl hM hS #[.pointer (some ⟨M, o, none⟩)] 88 (fun j hj => match j, hj with | 0, _ => rfl)).mono fun e w' ⟨h1, h2, h3⟩ => ⟨h1, h2, h3⟩)
      (fun u hu => by
        have eu := hu.2.block M hM hS
        have hl' : LetAt 7 u (Out (Wown W) M u) M (o + 1) ⟨x0, vs, es, x1⟩ := by
          obtain ⟨a1, n1, c1, hc1, hl1⟩ := hl.vs
          obtain ⟨a2, n2, c2, hc2, hl2⟩ := hl.es
          exact ⟨hl.f0.stq hu.2 hM hS, ⟨a1, n1, c1, (World.cell?_of_block (w := w) eu).trans hc1, hl1.stq hu.2⟩, ⟨a2, n2, c2, (World.cell?_of_block (w := w) eu).trans hc2, hl2.stq hu.2⟩, hl.f1.stq hu.2 hM hS⟩
        exact (wletter_any hu.1 (Nat.le_trans hB hu.2.size) hl' kl ((World.frozen?_of_block (w := w) eu).trans (by rw [show o + 1 + 7 = o + 8 by omega]; exact hz1)) ((World.frozen?_of_block (w := w) eu).trans (by rw [show o + 1 + 8 = o + 9 by omega]; exact hz2)) (hu.2.keep hM hS)).mono fun e w' ⟨h1, h2, h3⟩ => ⟨h1, h2, (hu.2.to hM hS _ _).trans (h3.wider (by omega) (by omega))⟩)
      w rfl).mono fun e w' ⟨h1, h2, h3⟩ => ⟨h1, ?_, h3⟩
    rw [List.append_assoc] at h2
    exact h2
theorem letA_cons (bs : List Int) (s : St) : letA 8 bs s = ⟨⟨(atomA bs 0 s).v :: (letA 7 bs (atomA bs 0 s).s).v.x0, (letA 7 bs (atomA bs 0 s).s).v.vs, (letA 7 bs (atomA bs 0 s).s).v.es, (letA 7 bs (atomA bs 0 s).s).v.x1⟩, (letA 7 bs (atomA bs 0 s).s).s⟩ := by
  unfold letA
  rw [show List.replicate 8 0 = 0 :: List.replicate 7 0 from rfl]
  exact letB_cons _ bs s
theorem letA_stuck (m : Nat) (bs : List Int) (s : St) (h : ¬ s.err = 0) : (letA m bs s).s = s := by
  have e1 := flatA_stuck bs (List.replicate m 0) s h
  have e2 := listA_stuck bs (flatA bs [0, 0, 0, 4]) s h
  have e3 := listA_stuck bs (flatA bs [0, 4]) s h
  have e4 := flatA_stuck bs [0, 0, 1, 4] s h
  show (flatA bs [0, 0, 1, 4] (listA bs (flatA bs [0, 4]) (listA bs (flatA bs [0, 0, 0, 4]) (flatA bs (List.replicate m 0) s).s).s).s).s = s
  rw [e1, e2, e3, e4]
theorem rmailed_any {B RR R : Nat} {a : Option Addr} {n cp : Nat} {bs : List Int} {s : St} {M o : Nat} {w : World} (h : RS w B RR R a n cp bs s) (hF : Far RR R a M) (hMB : M < B) (hM : M < w.heap.size) (hr : Room w M o 14) (hc1 : w.cell? ⟨M, o + 8, none⟩ = some (.slice none 0 0)) (hc2 : w.cell? ⟨M, o + 9, none⟩ = some (.slice none 0 0)) :
    Calls Try.prog 24 #[.iface 99 (.pointer (some ⟨RR, 0, none⟩)), .pointer (some ⟨M, o, none⟩)] w fun e w' => e = .returned (.tuple #[]) ∧ RS w' B RR R a n cp bs (letA 8 bs s).s ∧ ((letA 8 bs s).s.err = 0 → LetAt 8 w' (OutB B (Rown RR R) M w') M o (letA 8 bs s).v) ∧ Stp (Rown RR R) M o (o + 14) w w' := by
  rw [letA_cons]
  obtain ⟨y, ey⟩ : ∃ y, y = letA 7 bs (atomA bs 0 s).s := ⟨_, rfl⟩
  rw [← ey]
  have b1 : y.s.err = 0 → (atomA bs 0 s).s.err = 0 := fun h5 => err_back (letA 7 bs) (fun s hs => letA_stuck 7 bs s hs) _ (by rw [← ey]; exact h5)
  exact go_mailed (D := 99) (W := RR) (M := M) (o := o) nilr_ints methr_ints callr_ints
    (R0 := fun u => u = w)
    (R1 := fun u => RS u B RR R a n cp bs (atomA bs 0 s).s ∧ ((atomA bs 0 s).s.err = 0 → FlatAt u (OutB B (Rown RR R) M u) M o [(atomA bs 0 s).v]) ∧ Stp (Rown RR R) M o (o + 1) w u)
    (R2 := fun u => RS u B RR R a n cp bs y.s ∧ (y.s.err = 0 → LetAt 8 u (OutB B (Rown RR R) M u) M o ⟨(atomA bs 0 s).v :: y.v.x0, y.v.vs, y.v.es, y.v.x1⟩) ∧ Stp (Rown RR R) M o (o + 14) w u)
    (fun u hu => by
      subst hu
      exact (rints_call (k := 1) h hF hM (hr.left (by omega)) #[.pointer (some ⟨M, o, none⟩)] 88 (fun j hj => match j, hj with | 0, _ => rfl)).mono fun e w' ⟨h1, h2, h3, h4⟩ => ⟨h1, h2, fun h5 => (h3 h5).toB, h4⟩)
    (fun u hu => (rletter_any hu.1 hF hMB (Nat.lt_of_lt_of_le hM hu.2.2.size) ((hr.part (a := 1) (m := 13) (by omega)).step hu.2.2 (.inl (Nat.le_refl _))) (by rw [show o + 1 + 7 = o + 8 by omega]; exact (hu.2.2.cell (o + 8) (by omega)).trans hc1) (by rw [show o + 1 + 8 = o + 9 by omega]; exact (hu.2.2.cell (o + 9) (by omega)).trans hc2)).mono fun e w' ⟨h1, h2, h3, h4⟩ => ⟨h1, by rw [ey]; exact h2, fun h5 => by
        rw [ey]
        exact LetAt.head ((hu.2.1 (b1 h5)).stepB h4 (.inr (by simp))) (h3 (by rw [← ey]; exact h5)), (hu.2.2.wider (Nat.le_refl _) (by omega)).trans (h4.wider (by omega) (by omega))⟩)
    w rfl
end Go.Proofs.Ytghmgomlobddfaa
