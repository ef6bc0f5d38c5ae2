/- A state in memory: its plain fields, and its five lists; how the landed writer and reader go over it. No condition but the size. -/
import Derived.Test.YthklpkmdmkgjiaaGreatFWireLa
import Derived.Test.YthklpkmdmkgjiaaGreatFWireListsState
import Derived.Test.YthklpkmdmkgjiaaGreatFWireGoState
namespace Go.Proofs.YthklpkmdmkgjiaaGreat
open Go.ChangeShapes Go.WideShapes Go.ChangeAt Go.RowKit B8 Cm Wm
set_option linter.unusedVariables false

/-- a state: its plain fields ahead, its accounts, marks, waits, deals, ends, its plain fields behind -/
structure Sta where
  x0 : List Atom
  acs : List Acc
  ms : List (List Atom)
  ws : List (List Atom)
  ds : List (List Atom)
  es : List (List Atom)
  x1 : List Atom
structure StaK (x : Sta) : Prop where
  k0 : x.x0.map Atom.k = [0, 0, 2, 3, 3, 0]
  ka : ∀ a ∈ x.acs, AccK a
  km : ∀ xs ∈ x.ms, xs.map Atom.k = [0, 0, 2, 0, 0, 0, 0]
  kw : ∀ xs ∈ x.ws, xs.map Atom.k = [0, 0, 0, 0, 0, 0, 3, 3, 0, 0, 0]
  kd : ∀ xs ∈ x.ds, xs.map Atom.k = [0, 0, 3, 3, 0, 0, 0, 0]
  ke : ∀ xs ∈ x.es, xs.map Atom.k = [0, 0]
  k1 : x.x1.map Atom.k = [0, 0, 0, 3, 3, 0, 0, 0, 0, 0, 3, 3, 0, 0, 4, 0, 0, 0]
def Sta.flds (x : Sta) : List Fld := Wm.flds x.x0 ++ listF Acc.flds x.acs ++ listF Wm.flds x.ms ++ listF Wm.flds x.ws ++ listF Wm.flds x.ds ++ listF Wm.flds x.es ++ Wm.flds x.x1
theorem StaK.l0 {x : Sta} (h : StaK x) : x.x0.length = 6 := by have := congrArg List.length h.k0; simpa using this
theorem StaK.l1 {x : Sta} (h : StaK x) : x.x1.length = 18 := by have := congrArg List.length h.k1; simpa using this
/-- twenty-nine cells hold a state -/
structure StaC (w : World) (P : Nat → Prop) (c : Nat → Option Value) (x : Sta) : Prop where
  f0 : ∀ (j : Nat) (y : Atom), x.x0[j]? = some y → ∃ v, c j = some v ∧ AtomV w P v y
  acs : ∃ a n cp, c 6 = some (.slice a n cp) ∧ La w P a n cp x.acs
  ms : ∃ a n cp, c 7 = some (.slice a n cp) ∧ Ls w P a n cp 7 x.ms
  ws : ∃ a n cp, c 8 = some (.slice a n cp) ∧ Ls w P a n cp 11 x.ws
  ds : ∃ a n cp, c 9 = some (.slice a n cp) ∧ Ls w P a n cp 8 x.ds
  es : ∃ a n cp, c 10 = some (.slice a n cp) ∧ Ls w P a n cp 2 x.es
  f1 : ∀ (j : Nat) (y : Atom), x.x1[j]? = some y → ∃ v, c (11 + j) = some v ∧ AtomV w P v y
def StaAt (w : World) (P : Nat → Prop) (M o : Nat) (x : Sta) : Prop := StaC w P (fun j => w.cell? ⟨M, o + j, none⟩) x
section
variable {w w1 : World} {P P' : Nat → Prop} {c c' : Nat → Option Value} {x : Sta} {M o : Nat}
theorem StaC.same (h : StaC w P c x) (hc : ∀ j, j < 29 → c' j = c j) (hk : StaK x) (hb : ∀ b, P b → P' b ∧ w1.heap[b]? = w.heap[b]?) : StaC w1 P' c' x := by
  obtain ⟨a1, n1, c1, p1, q1⟩ := h.acs
  obtain ⟨a2, n2, c2, p2, q2⟩ := h.ms
  obtain ⟨a3, n3, c3, p3, q3⟩ := h.ws
  obtain ⟨a4, n4, c4, p4, q4⟩ := h.ds
  obtain ⟨a5, n5, c5, p5, q5⟩ := h.es
  refine ⟨fun j y hy => ?_, ⟨a1, n1, c1, (hc 6 (by omega)).trans p1, q1.same hk.ka hb⟩, ⟨a2, n2, c2, (hc 7 (by omega)).trans p2, q2.same hb⟩, ⟨a3, n3, c3, (hc 8 (by omega)).trans p3, q3.same hb⟩, ⟨a4, n4, c4, (hc 9 (by omega)).trans p4, q4.same hb⟩, ⟨a5, n5, c5, (hc 10 (by omega)).trans p5, q5.same hb⟩, fun j y hy => ?_⟩
  · obtain ⟨v, h1, h2⟩ := h.f0 j y hy
    have hj : j < 6 := by rw [← hk.l0]; exact (List.getElem?_eq_some_iff.1 hy).1
    exact ⟨v, (hc j (by omega)).trans h1, h2.same hb⟩
  · obtain ⟨v, h1, h2⟩ := h.f1 j y hy
    have hj : j < 18 := by rw [← hk.l1]; exact (List.getElem?_eq_some_iff.1 hy).1
    exact ⟨v, (hc (11 + j) (by omega)).trans h1, h2.same hb⟩
theorem StaC.cell (h : StaC w P c x) (hk : StaK x) (j : Nat) (hj : j < 29) : ∃ v, c j = some v ∧ v.oneCell' = true := by
  by_cases e0 : j < 6
  · obtain ⟨v, h1, h2⟩ := h.f0 j _ (List.getElem?_eq_getElem (by rw [hk.l0]; omega))
    exact ⟨v, h1, atomV_one h2⟩
  · by_cases e2 : 11 ≤ j
    · obtain ⟨v, h1, h2⟩ := h.f1 (j - 11) _ (List.getElem?_eq_getElem (by rw [hk.l1]; omega))
      rw [show 11 + (j - 11) = j by omega] at h1
      exact ⟨v, h1, atomV_one h2⟩
    · obtain ⟨a1, n1, c1, p1, q1⟩ := h.acs
      obtain ⟨a2, n2, c2, p2, q2⟩ := h.ms
      obtain ⟨a3, n3, c3, p3, q3⟩ := h.ws
      obtain ⟨a4, n4, c4, p4, q4⟩ := h.ds
      obtain ⟨a5, n5, c5, p5, q5⟩ := h.es
      have : j = 6 ∨ j = 7 ∨ j = 8 ∨ j = 9 ∨ j = 10 := by omega
      rcases this with rfl | rfl | rfl | rfl | rfl
      · exact ⟨_, p1, rfl⟩
      · exact ⟨_, p2, rfl⟩
      · exact ⟨_, p3, rfl⟩
      · exact ⟨_, p4, rfl⟩
      · exact ⟨_, p5, rfl⟩
theorem StaAt.f0' (h : StaAt w P M o x) : FlatAt w P M o x.x0 := fun j y hy => h.f0 j y hy
theorem StaAt.f1' (h : StaAt w P M o x) : FlatAt w P M (o + 11) x.x1 := fun j y hy => by
  obtain ⟨v, h1, h2⟩ := h.f1 j y hy
  exact ⟨v, by rw [Nat.add_assoc]; exact h1, h2⟩
end
theorem La.stq {S : World → Nat → Prop} {w w1 : World} {M : Nat} {a : Option Addr} {n cp : Nat} {xs : List Acc} (h : La w (Out S M w) a n cp xs) (hk : ∀ x ∈ xs, AccK x) (g : Stq S w w1) : La w1 (Out S M w1) a n cp xs :=
  h.same hk (fun b hb => ⟨⟨Nat.lt_of_lt_of_le hb.1 g.size, g.keep hb.1 hb.2.1, hb.2.2⟩, g.block b hb.1 hb.2.1⟩)
theorem La.stp {S : World → Nat → Prop} {w w1 : World} {M lo hi : Nat} {a : Option Addr} {n cp : Nat} {xs : List Acc} (h : La w (Out S M w) a n cp xs) (hk : ∀ x ∈ xs, AccK x) (g : Stp S M lo hi w w1) : La w1 (Out S M w1) a n cp xs :=
  h.same hk (fun b hb => g.out hb)
theorem La.stpB {B : Nat} {S : World → Nat → Prop} {w w1 : World} {M lo hi : Nat} {a : Option Addr} {n cp : Nat} {xs : List Acc} (h : La w (OutB B S M w) a n cp xs) (hk : ∀ x ∈ xs, AccK x) (g : Stp S M lo hi w w1) : La w1 (OutB B S M w1) a n cp xs :=
  h.same hk (fun b hb => g.outB hb)
theorem splitA {xs : List Atom} (h : xs.map Atom.k = [0, 0, 2, 3, 3, 0]) : ∃ y1 y2 y3 y4, xs = y1 ++ (y2 ++ (y3 ++ y4)) ∧ y1.map Atom.k = [0, 0] ∧ y2.map Atom.k = [2] ∧ y3.map Atom.k = [3, 3] ∧ y4.map Atom.k = [0] := by
  obtain ⟨y1, r1, e1, k1, h1⟩ := List.map_eq_append_iff.1 (show _ = [0, 0] ++ [2, 3, 3, 0] from h)
  obtain ⟨y2, r2, e2, k2, h2⟩ := List.map_eq_append_iff.1 (show _ = [2] ++ [3, 3, 0] from h1)
  obtain ⟨y3, y4, e3, k3, k4⟩ := List.map_eq_append_iff.1 (show _ = [3, 3] ++ [0] from h2)
  exact ⟨y1, y2, y3, y4, by rw [e1, e2, e3], k1, k2, k3, k4⟩
theorem splitB {xs : List Atom} (h : xs.map Atom.k = [0, 0, 0, 3, 3, 0, 0, 0, 0, 0, 3, 3, 0, 0, 4, 0, 0, 0]) : ∃ z1 z2 z3 z4, xs = z1 ++ (z2 ++ (z3 ++ z4)) ∧ z1.map Atom.k = [0, 0, 0, 3, 3, 0, 0] ∧ z2.map Atom.k = [0, 0, 0, 3, 3, 0, 0] ∧ z3.map Atom.k = [4] ∧ z4.map Atom.k = [0, 0, 0] := by
  obtain ⟨y1, r1, e1, k1, h1⟩ := List.map_eq_append_iff.1 (show _ = [0, 0, 0, 3, 3, 0, 0] ++ [0, 0, 0, 3, 3, 0, 0, 4, 0, 0, 0] from h)
  obtain ⟨y2, r2, e2, k2, h2⟩ := List.map_eq_append_iff.1 (show _ = [0, 0, 0, 3, 3, 0, 0] ++ [4, 0, 0, 0] from h1)
  obtain ⟨y3, y4, e3, k3, k4⟩ := List.map_eq_append_iff.1 (show _ = [4] ++ [0, 0, 0] from h2)
  exact ⟨y1, y2, y3, y4, by rw [e1, e2, e3], k1, k2, k3, k4⟩
theorem texts_all {xs : List Atom} {n : Nat} (h : xs.map Atom.k = List.replicate n 3) : ∀ x ∈ xs, x.k = 3 := fun y hy => by
  have := List.mem_map_of_mem (f := Atom.k) hy
  rw [h] at this
  exact (List.mem_replicate.1 this).2


set_option maxHeartbeats 2000000 in
theorem wstate_any {w : World} {B W : Nat} {fs : List Fld} {M o : Nat} {x : Sta} (h : WS w B W fs) (hB : B ≤ w.heap.size) (hx : StaAt w (Out (Wown W) M w) M o x) (hk : StaK x) (hz : ∀ q, w.frozen? ⟨M, q, none⟩ = false) (hS : ¬ Wown W w M) :
    Calls Tryz.prog 13 #[.iface 76 (.pointer (some ⟨W, 0, none⟩)), .pointer (some ⟨M, o, none⟩)] w fun e w' => e = .returned (.tuple #[]) ∧ WS w' B W (fs ++ x.flds) ∧ Stp (Wown W) M o (o + 29) w w' := by
  obtain ⟨a1, n1, c1, hc1, hl1⟩ := hx.acs
  obtain ⟨a2, n2, c2, hc2, hl2⟩ := hx.ms
  obtain ⟨a3, n3, c3, hc3, hl3⟩ := hx.ws
  obtain ⟨a4, n4, c4, hc4, hl4⟩ := hx.ds
  obtain ⟨a5, n5, c5, hc5, hl5⟩ := hx.es
  have hM : M < w.heap.size := World.block_lt_of_cell? w _ hc1
  obtain ⟨y1, y2, y3, y4, ey, k1, k2, k3, k4⟩ := splitA hk.k0
  obtain ⟨z1, z2, z3, z4, ez, j1, j2, j3, j4⟩ := splitB hk.k1
  have ly1 : y1.length = 2 := by have := congrArg List.length k1; simpa using this
  have ly2 : y2.length = 1 := by have := congrArg List.length k2; simpa using this
  have ly3 : y3.length = 2 := by have := congrArg List.length k3; simpa using this
  have ly4 : y4.length = 1 := by have := congrArg List.length k4; simpa using this
  have lz1 : z1.length = 7 := by have := congrArg List.length j1; simpa using this
  have lz2 : z2.length = 7 := by have := congrArg List.length j2; simpa using this
  have lz3 : z3.length = 1 := by have := congrArg List.length j3; simpa using this
  have lz4 : z4.length = 3 := by have := congrArg List.length j4; simpa using this
  have fy := hx.f0'
  rw [ey] at fy
  have fy1 := fy.left
  have t2 := fy.right
  rw [ly1] at t2
  have fy2 := t2.left
  have t3 := t2.right
  rw [ly2, Nat.add_assoc] at t3
  have fy3 := t3.left
  have fy4 := t3.right
  rw [ly3, Nat.add_assoc] at fy4
  have fz := hx.f1'
  rw [ez] at fz
  have fz1 := fz.left
  have t5 := fz.right
  rw [lz1, Nat.add_assoc] at t5
  have fz2 := t5.left
  have t6 := t5.right
  rw [lz2, Nat.add_assoc] at t6
  have fz3 := t6.left
  have fz4 := t6.right
  rw [lz3, Nat.add_assoc] at fz4
  have hb0 : Below w.heap.size w (w.alloc (.cells #[.iface 76 (.pointer (some ⟨W, 0, none⟩))] 80)) := below_alloc (Below.refl _ _) _
  have st0 : Stq (Wown W) w (w.alloc (.cells #[.iface 76 (.pointer (some ⟨W, 0, none⟩))] 80)) := wq_below h hb0
  have hC0 : (w.alloc (.cells #[.iface 76 (.pointer (some ⟨W, 0, none⟩))] 80)).cell? ⟨w.heap.size, 0, none⟩ = some (.iface 76 (.pointer (some ⟨W, 0, none⟩))) := by simp
  have nC0 : ¬ Wown W (w.alloc (.cells #[.iface 76 (.pointer (some ⟨W, 0, none⟩))] 80)) w.heap.size := fun hk => by have := (h.base _ (wown_of_below h hb0 hk)).2; omega
  generalize hw0 : w.alloc (.cells #[.iface 76 (.pointer (some ⟨W, 0, none⟩))] 80) = w0 at *
  have hlt0 : w.heap.size < w0.heap.size := World.block_lt_of_cell? w0 _ hC0
  have dn : ∀ {u : World} {k : Nat}, Wown W u.drew k → Wown W u k := fun hk => hk
  have KC : ∀ {u : World} {lo hi : Nat}, Stp (Wown W) M lo hi w0 u → u.cell? ⟨w.heap.size, 0, none⟩ = some (.iface 76 (.pointer (some ⟨W, 0, none⟩))) := fun g => (World.cell?_of_block (w := w0) (a := ⟨w.heap.size, 0, none⟩) (g.block _ hlt0 nC0 (Nat.ne_of_gt hM))).trans hC0
  have hM0 : M < w0.heap.size := by omega
  have nM0 : ¬ Wown W w0 M := st0.keep hM hS
  have B0 : B ≤ w0.heap.size := Nat.le_trans hB st0.size
  have eM := st0.block M hM hS
  have g1 := fy1.stq st0 hM hS
  have g2 := fy2.stq st0 hM hS
  have g3 := fy3.stq st0 hM hS
  have g4 := fy4.stq st0 hM hS
  have v1 := fz1.stq st0 hM hS
  have v2 := fz2.stq st0 hM hS
  have v3 := fz3.stq st0 hM hS
  have v4 := fz4.stq st0 hM hS
  have L1 := hl1.stq hk.ka st0
  have L2 := hl2.stq st0
  have L3 := hl3.stq st0
  have L4 := hl4.stq st0
  have L5 := hl5.stq st0
  have cc : ∀ q, w0.cell? ⟨M, q, none⟩ = w.cell? ⟨M, q, none⟩ := fun q => World.cell?_of_block (w := w) (a := ⟨M, q, none⟩) eM
  have zz : ∀ q, w0.frozen? ⟨M, q, none⟩ = false := fun q => (World.frozen?_of_block (w := w) (a := ⟨M, q, none⟩) eM).trans (hz q)
  have bd : ∀ u : World, Below u.heap.size u u.drew := fun u => ⟨rfl, rfl, rfl, Nat.le_refl _, fun _ _ => rfl⟩
  have dr : ∀ {u : World} {lo hi : Nat}, Stp (Wown W) M lo hi w0 u → Stp (Wown W) M lo hi w0 u.drew := fun g => stp_drew g (fun k hk => dn hk)
  refine (go_state (D := 76) (W := W) (M := M) (o := o) (C := w.heap.size) nilw_ints methw_ints callw_ints nilw_flag methw_flag callw_flag nilw_texts methw_texts callw_texts nilw_bytes methw_bytes callw_bytes
    (R0 := fun u => u = w0)
    (R1 := fun u => WS u B W (fs ++ flds y1) ∧ Stp (Wown W) M (o + 6) (o + 6) w0 u)
    (R2 := fun u => WS u B W (fs ++ flds y1 ++ flds y2) ∧ Stp (Wown W) M (o + 6) (o + 6) w0 u)
    (R3 := fun u => WS u B W (fs ++ flds y1 ++ flds y2 ++ flds y3) ∧ Stp (Wown W) M (o + 6) (o + 6) w0 u)
    (R4 := fun u => WS u B W (fs ++ flds y1 ++ flds y2 ++ flds y3 ++ flds y4) ∧ Stp (Wown W) M (o + 6) (o + 6) w0 u)
    (R5 := fun u => WS u B W (fs ++ flds y1 ++ flds y2 ++ flds y3 ++ flds y4 ++ listF Acc.flds x.acs) ∧ Stp (Wown W) M (o + 6) (o + 7) w0 u)
    (R6 := fun u => WS u B W (fs ++ flds y1 ++ flds y2 ++ flds y3 ++ flds y4 ++ listF Acc.flds x.acs ++ listF flds x.ms) ∧ Stp (Wown W) M (o + 6) (o + 8) w0 u)
    (R7 := fun u => WS u B W (fs ++ flds y1 ++ flds y2 ++ flds y3 ++ flds y4 ++ listF Acc.flds x.acs ++ listF flds x.ms ++ listF flds x.ws) ∧ Stp (Wown W) M (o + 6) (o + 9) w0 u)
    (R8 := fun u => WS u B W (fs ++ flds y1 ++ flds y2 ++ flds y3 ++ flds y4 ++ listF Acc.flds x.acs ++ listF flds x.ms ++ listF flds x.ws ++ listF flds x.ds) ∧ Stp (Wown W) M (o + 6) (o + 10) w0 u)
    (R9 := fun u => WS u B W (fs ++ flds y1 ++ flds y2 ++ flds y3 ++ flds y4 ++ listF Acc.flds x.acs ++ listF flds x.ms ++ listF flds x.ws ++ listF flds x.ds ++ listF flds x.es) ∧ Stp (Wown W) M (o + 6) (o + 11) w0 u)
    (R10 := fun u => WS u B W (fs ++ flds y1 ++ flds y2 ++ flds y3 ++ flds y4 ++ listF Acc.flds x.acs ++ listF flds x.ms ++ listF flds x.ws ++ listF flds x.ds ++ listF flds x.es ++ flds z1) ∧ Stp (Wown W) M (o + 6) (o + 11) w0 u)
    (R11 := fun u => WS u B W (fs ++ flds y1 ++ flds y2 ++ flds y3 ++ flds y4 ++ listF Acc.flds x.acs ++ listF flds x.ms ++ listF flds x.ws ++ listF flds x.ds ++ listF flds x.es ++ flds z1 ++ flds z2) ∧ Stp (Wown W) M (o + 6) (o + 11) w0 u)
    (R12 := fun u => WS u B W (fs ++ flds y1 ++ flds y2 ++ flds y3 ++ flds y4 ++ listF Acc.flds x.acs ++ listF flds x.ms ++ listF flds x.ws ++ listF flds x.ds ++ listF flds x.es ++ flds z1 ++ flds z2 ++ flds z3) ∧ Stp (Wown W) M (o + 6) (o + 11) w0 u)
    (R13 := fun u => WS u B W (fs ++ flds y1 ++ flds y2 ++ flds y3 ++ flds y4 ++ listF Acc.flds x.acs ++ listF flds x.ms ++ listF flds x.ws ++ listF flds x.ds ++ listF flds x.es ++ flds z1 ++ flds z2 ++ flds z3 ++ flds z4) ∧ Stp (Wown W) M (o + 6) (o + 11) w0 u)
    (fun u hu => by
      rcases hu with hu | hu | hu | hu | hu | hu | hu | hu | hu | hu | hu | hu | hu | hu
      · subst hu; exact hC0
      · exact KC hu.2
      · exact KC hu.2
      · exact KC hu.2
      · exact KC hu.2
      · exact KC hu.2
      · exact KC hu.2
      · exact KC hu.2
      · exact KC hu.2
      · exact KC hu.2
      · exact KC hu.2
      · exact KC hu.2
      · exact KC hu.2
      · exact KC hu.2)
    (fun u hu => by
      subst hu
      exact (wints_call (n := 2) (h.below hb0) B0 g1 (kinds_all k1 (by simp)) ly1 hM0 nM0 #[.pointer (some ⟨M, o, none⟩), .pointer (some ⟨M, o + 1, none⟩)] 82 (fun j hj => match j, hj with | 0, _ => rfl | 1, _ => rfl)).mono fun e w' ⟨h1, h2, h3⟩ => ⟨h1, h2, h3.to hM0 nM0 _ _⟩)
    (fun u hu => (wflag_call hu.1 (Nat.le_trans B0 hu.2.size) (g2.step hu.2 (.inr (by rw [ly2]; omega))) k2 (Nat.lt_of_lt_of_le hM0 hu.2.size) (hu.2.keep hM0 nM0)).mono fun e w' ⟨h1, h2, h3⟩ => ⟨h1, h2, hu.2.trans (h3.to (Nat.lt_of_lt_of_le hM0 hu.2.size) (hu.2.keep hM0 nM0) _ _)⟩)
    (fun u hu => (wtexts_call (n := 2) hu.1 (Nat.le_trans B0 hu.2.size) (g3.step hu.2 (.inr (by rw [ly3]; omega))) (texts_all (n := 2) k3) ly3 (Nat.lt_of_lt_of_le hM0 hu.2.size) (hu.2.keep hM0 nM0) #[.pointer (some ⟨M, o + 3, none⟩), .pointer (some ⟨M, o + 4, none⟩)] 86 (fun j hj => match j, hj with | 0, _ => rfl | 1, _ => rfl)).mono fun e w' ⟨h1, h2, h3⟩ => ⟨h1, h2, hu.2.trans (h3.to (Nat.lt_of_lt_of_le hM0 hu.2.size) (hu.2.keep hM0 nM0) _ _)⟩)
    (fun u hu => (wints_call (n := 1) hu.1 (Nat.le_trans B0 hu.2.size) (g4.step hu.2 (.inr (by rw [ly4]; omega))) (kinds_all k4 (by simp)) ly4 (Nat.lt_of_lt_of_le hM0 hu.2.size) (hu.2.keep hM0 nM0) #[.pointer (some ⟨M, o + 5, none⟩)] 82 (fun j hj => match j, hj with | 0, _ => rfl)).mono fun e w' ⟨h1, h2, h3⟩ => ⟨h1, h2, hu.2.trans (h3.to (Nat.lt_of_lt_of_le hM0 hu.2.size) (hu.2.keep hM0 nM0) _ _)⟩)
    (fun u hu => by
      have hud := dr hu.2
      exact (wlist_state1 (C := w.heap.size) ⟨hu.1.below (bd u), Nat.le_trans B0 hud.size, ((hud.cell (o + 6) (by omega)).trans (cc _)).trans hc1, (hud.frozen (o + 6)).trans (zz _), L1.stp hk.ka hud, hk.ka, hud.keep hM0 nM0⟩ (KC hud) (hud.keep hlt0 nC0)).mono fun e w' ⟨h1, h2, h3⟩ => ⟨h1, h2, (hud.wider (Nat.le_refl _) (by omega)).trans (h3.wider (by omega) (by omega))⟩)
    (fun u hu => by
      have hud := dr hu.2
      exact (wlist_state2 (C := w.heap.size) ⟨hu.1.below (bd u), Nat.le_trans B0 hud.size, ((hud.cell (o + 7) (by omega)).trans (cc _)).trans hc2, (hud.frozen (o + 7)).trans (zz _), L2.stp hud, hud.keep hM0 nM0, by omega⟩ hk.km (KC hud) (hud.keep hlt0 nC0)).mono fun e w' ⟨h1, h2, h3⟩ => ⟨h1, h2, (hud.wider (Nat.le_refl _) (by omega)).trans (h3.wider (by omega) (by omega))⟩)
    (fun u hu => by
      have hud := dr hu.2
      exact (wlist_state3 (C := w.heap.size) ⟨hu.1.below (bd u), Nat.le_trans B0 hud.size, ((hud.cell (o + 8) (by omega)).trans (cc _)).trans hc3, (hud.frozen (o + 8)).trans (zz _), L3.stp hud, hud.keep hM0 nM0, by omega⟩ hk.kw (KC hud) (hud.keep hlt0 nC0)).mono fun e w' ⟨h1, h2, h3⟩ => ⟨h1, h2, (hud.wider (Nat.le_refl _) (by omega)).trans (h3.wider (by omega) (by omega))⟩)
    (fun u hu => by
      have hud := dr hu.2
      exact (wlist_state4 (C := w.heap.size) ⟨hu.1.below (bd u), Nat.le_trans B0 hud.size, ((hud.cell (o + 9) (by omega)).trans (cc _)).trans hc4, (hud.frozen (o + 9)).trans (zz _), L4.stp hud, hud.keep hM0 nM0, by omega⟩ hk.kd (KC hud) (hud.keep hlt0 nC0)).mono fun e w' ⟨h1, h2, h3⟩ => ⟨h1, h2, (hud.wider (Nat.le_refl _) (by omega)).trans (h3.wider (by omega) (by omega))⟩)
    (fun u hu => by
      have hud := dr hu.2
      exact (wlist_state5 (C := w.heap.size) ⟨hu.1.below (bd u), Nat.le_trans B0 hud.size, ((hud.cell (o + 10) (by omega)).trans (cc _)).trans hc5, (hud.frozen (o + 10)).trans (zz _), L5.stp hud, hud.keep hM0 nM0, by omega⟩ hk.ke (KC hud) (hud.keep hlt0 nC0)).mono fun e w' ⟨h1, h2, h3⟩ => ⟨h1, h2, (hud.wider (Nat.le_refl _) (by omega)).trans (h3.wider (by omega) (by omega))⟩)
    (fun u hu => by
      have hud := dr hu.2
      exact (wplan_any (hu.1.below (bd u)) (Nat.le_trans B0 hud.size) (v1.step hud (.inl (by omega))) j1 (Nat.lt_of_lt_of_le hM0 hud.size) (hud.keep hM0 nM0)).mono fun e w' ⟨h1, h2, h3⟩ => ⟨h1, h2, hud.trans (h3.to (Nat.lt_of_lt_of_le hM0 hud.size) (hud.keep hM0 nM0) _ _)⟩)
    (fun u hu => by
      have hud := dr hu.2
      exact (wplan_any (hu.1.below (bd u)) (Nat.le_trans B0 hud.size) (v2.step hud (.inl (by omega))) j2 (Nat.lt_of_lt_of_le hM0 hud.size) (hud.keep hM0 nM0)).mono fun e w' ⟨h1, h2, h3⟩ => ⟨h1, h2, hud.trans (h3.to (Nat.lt_of_lt_of_le hM0 hud.size) (hud.keep hM0 nM0) _ _)⟩)
    (fun u hu => (wbytes_call hu.1 (Nat.le_trans B0 hu.2.size) (v3.step hu.2 (.inl (by omega))) j3 (Nat.lt_of_lt_of_le hM0 hu.2.size) (hu.2.keep hM0 nM0)).mono fun e w' ⟨h1, h2, h3⟩ => ⟨h1, h2, hu.2.trans (h3.to (Nat.lt_of_lt_of_le hM0 hu.2.size) (hu.2.keep hM0 nM0) _ _)⟩)
    (fun u hu => (wints_call (n := 3) hu.1 (Nat.le_trans B0 hu.2.size) (v4.step hu.2 (.inl (by omega))) (kinds_all j4 (by simp)) lz4 (Nat.lt_of_lt_of_le hM0 hu.2.size) (hu.2.keep hM0 nM0) #[.pointer (some ⟨M, o + 26, none⟩), .pointer (some ⟨M, o + 27, none⟩), .pointer (some ⟨M, o + 28, none⟩)] 82 (fun j hj => match j, hj with | 0, _ => rfl | 1, _ => rfl | 2, _ => rfl)).mono fun e w' ⟨h1, h2, h3⟩ => ⟨h1, h2, hu.2.trans (h3.to (Nat.lt_of_lt_of_le hM0 hu.2.size) (hu.2.keep hM0 nM0) _ _)⟩)
    w rfl hw0).mono fun e w' ⟨h1, h2, h3⟩ => ⟨h1, ?_, ((st0.to hM hS _ _).trans (h3.wider (by omega) (by omega)))⟩
  unfold Sta.flds
  rw [ey, ez, flds_append, flds_append, flds_append, flds_append, flds_append, flds_append]
  simpa only [List.append_assoc] using h2

/-- what bytes are read as, as a state -/
def sta0 (bs : List Int) (s : St) : Ans (List Atom) := flatA bs [0, 0, 2, 3, 3, 0] s
def staA (bs : List Int) (s : St) : Ans (List Acc) := listA bs (accA bs) (sta0 bs s).s
def staM (bs : List Int) (s : St) : Ans (List (List Atom)) := listA bs (flatA bs [0, 0, 2, 0, 0, 0, 0]) (staA bs s).s
def staW (bs : List Int) (s : St) : Ans (List (List Atom)) := listA bs (flatA bs [0, 0, 0, 0, 0, 0, 3, 3, 0, 0, 0]) (staM bs s).s
def staD (bs : List Int) (s : St) : Ans (List (List Atom)) := listA bs (flatA bs [0, 0, 3, 3, 0, 0, 0, 0]) (staW bs s).s
def staE (bs : List Int) (s : St) : Ans (List (List Atom)) := listA bs (flatA bs [0, 0]) (staD bs s).s
def sta1 (bs : List Int) (s : St) : Ans (List Atom) := flatA bs [0, 0, 0, 3, 3, 0, 0, 0, 0, 0, 3, 3, 0, 0, 4, 0, 0, 0] (staE bs s).s
def stateA (bs : List Int) (s : St) : Ans Sta := ⟨⟨(sta0 bs s).v, (staA bs s).v, (staM bs s).v, (staW bs s).v, (staD bs s).v, (staE bs s).v, (sta1 bs s).v⟩, (sta1 bs s).s⟩
theorem listA_kinds (bs : List Int) (ks : List Nat) (s : St) (h : ∀ k ∈ ks, k ≤ 4) : ∀ xs ∈ (listA bs (flatA bs ks) s).v, xs.map Atom.k = ks := timesA_all (Q := fun xs : List Atom => xs.map Atom.k = ks) _ (fun s => flatA_kinds bs ks s h) _ _
theorem listA_acc (bs : List Int) (s : St) : ∀ x ∈ (listA bs (accA bs) s).v, AccK x := timesA_all (Q := AccK) _ (fun s => accK_A bs s) _ _
theorem sta0_k (bs : List Int) (s : St) : (sta0 bs s).v.map Atom.k = [0, 0, 2, 3, 3, 0] := by unfold sta0; exact flatA_kinds bs _ s (by decide)
theorem sta1_k (bs : List Int) (s : St) : (sta1 bs s).v.map Atom.k = [0, 0, 0, 3, 3, 0, 0, 0, 0, 0, 3, 3, 0, 0, 4, 0, 0, 0] := by unfold sta1; exact flatA_kinds bs _ _ (by decide)
theorem staA_k (bs : List Int) (s : St) : ∀ x ∈ (staA bs s).v, AccK x := by unfold staA; exact listA_acc bs _
theorem staM_k (bs : List Int) (s : St) : ∀ xs ∈ (staM bs s).v, xs.map Atom.k = [0, 0, 2, 0, 0, 0, 0] := by unfold staM; exact listA_kinds bs _ _ (by decide)
theorem staW_k (bs : List Int) (s : St) : ∀ xs ∈ (staW bs s).v, xs.map Atom.k = [0, 0, 0, 0, 0, 0, 3, 3, 0, 0, 0] := by unfold staW; exact listA_kinds bs _ _ (by decide)
theorem staD_k (bs : List Int) (s : St) : ∀ xs ∈ (staD bs s).v, xs.map Atom.k = [0, 0, 3, 3, 0, 0, 0, 0] := by unfold staD; exact listA_kinds bs _ _ (by decide)
theorem staE_k (bs : List Int) (s : St) : ∀ xs ∈ (staE bs s).v, xs.map Atom.k = [0, 0] := by unfold staE; exact listA_kinds bs _ _ (by decide)
theorem stateK_A (bs : List Int) (s : St) : StaK (stateA bs s).v := by
  unfold stateA
  have h0 := sta0_k bs s
  have hA := staA_k bs s
  have hM := staM_k bs s
  have hW := staW_k bs s
  have hD := staD_k bs s
  have hE := staE_k bs s
  have h1 := sta1_k bs s
  generalize sta0 bs s = a0 at *
  generalize staA bs s = aA at *
  generalize staM bs s = aM at *
  generalize staW bs s = aW at *
  generalize staD bs s = aD at *
  generalize staE bs s = aE at *
  generalize sta1 bs s = a1 at *
  exact ⟨h0, hA, hM, hW, hD, hE, h1⟩
/-- what has been read so far: the plain fields, and so many of the lists -/
def Rs0 (B RR R M o : Nat) (x0 : List Atom) (u : World) : Prop := FlatAt u (OutB B (Rown RR R) M u) M o x0
def RsA (B RR R M o : Nat) (x0 : List Atom) (acs : List Acc) (u : World) : Prop := Rs0 B RR R M o x0 u ∧ ∃ ad n cp, u.cell? ⟨M, o + 6, none⟩ = some (.slice ad n cp) ∧ La u (OutB B (Rown RR R) M u) ad n cp acs
def RsL (B RR R M p d : Nat) (xs : List (List Atom)) (u : World) : Prop := ∃ ad n cp, u.cell? ⟨M, p, none⟩ = some (.slice ad n cp) ∧ Ls u (OutB B (Rown RR R) M u) ad n cp d xs
section
variable {B RR R M o p d lo hi : Nat} {x0 : List Atom} {acs : List Acc} {xs : List (List Atom)} {u u' : World}
theorem RsA.step (h : RsA B RR R M o x0 acs u) (hk : ∀ x ∈ acs, AccK x) (g : Stp (Rown RR R) M lo hi u u') (hl : o + 7 ≤ lo) (h0 : x0.length = 6) : RsA B RR R M o x0 acs u' := by
  obtain ⟨h1, ad, n, cp, h2, h3⟩ := h
  exact ⟨FlatAt.stepB h1 g (.inr (by omega)), ad, n, cp, (g.cell (o + 6) (by omega)).trans h2, h3.stpB hk g⟩
theorem RsL.step (h : RsL B RR R M p d xs u) (g : Stp (Rown RR R) M lo hi u u') (hl : p + 1 ≤ lo) : RsL B RR R M p d xs u' := by
  obtain ⟨ad, n, cp, h2, h3⟩ := h
  exact ⟨ad, n, cp, (g.cell p (by omega)).trans h2, h3.stpB g⟩
end

set_option maxHeartbeats 2000000 in
theorem rstate_any {B RR R : Nat} {a : Option Addr} {n cp : Nat} {bs : List Int} {s : St} {M : Nat} {w : World} (h : RS w B RR R a n cp bs s) (hF : Far RR R a M) (hMB : M < B) (hM : M < w.heap.size) (hr : Room w M 0 29) (hc : ∀ q, 6 ≤ q → q ≤ 10 → w.cell? ⟨M, q, none⟩ = some (.slice none 0 0)) :
    Calls Tryz.prog 13 #[.iface 131 (.pointer (some ⟨RR, 0, none⟩)), .pointer (some ⟨M, 0, none⟩)] w fun e w' => e = .returned (.tuple #[]) ∧ RS w' B RR R a n cp bs (stateA bs s).s ∧ ((stateA bs s).s.err = 0 → StaAt w' (OutB B (Rown RR R) M w') M 0 (stateA bs s).v) ∧ Stp (Rown RR R) M 0 29 w w' := by
  have hb0 : Below w.heap.size w (w.alloc (.cells #[.iface 131 (.pointer (some ⟨RR, 0, none⟩))] 80)) := below_alloc (Below.refl _ _) _
  have st0 : Stq (Rown RR R) w (w.alloc (.cells #[.iface 131 (.pointer (some ⟨RR, 0, none⟩))] 80)) := rq_below RR R hb0
  have hC0 : (w.alloc (.cells #[.iface 131 (.pointer (some ⟨RR, 0, none⟩))] 80)).cell? ⟨w.heap.size, 0, none⟩ = some (.iface 131 (.pointer (some ⟨RR, 0, none⟩))) := by simp
  generalize hw0 : w.alloc (.cells #[.iface 131 (.pointer (some ⟨RR, 0, none⟩))] 80) = w0 at *
  have nC : ∀ u : World, ¬ Rown RR R u w.heap.size := fun u hk => by have := h.lt; rcases hk with hk | hk <;> omega
  have hlt0 : w.heap.size < w0.heap.size := World.block_lt_of_cell? w0 _ hC0
  have KC : ∀ {u : World} {lo hi : Nat}, Stp (Rown RR R) M lo hi w0 u → u.cell? ⟨w.heap.size, 0, none⟩ = some (.iface 131 (.pointer (some ⟨RR, 0, none⟩))) := fun g => (World.cell?_of_block (w := w0) (a := ⟨w.heap.size, 0, none⟩) (g.block _ hlt0 (nC _) (Nat.ne_of_gt hM))).trans hC0
  have hM0 : M < w0.heap.size := by omega
  have eM := st0.block M hM (far_own hF w)
  have hr0 : Room w0 M 0 29 := room_stq hr st0 hM (far_own hF w)
  have cc : ∀ q, 6 ≤ q → q ≤ 10 → w0.cell? ⟨M, q, none⟩ = some (.slice none 0 0) := fun q h1 h2 => (World.cell?_of_block (w := w) (a := ⟨M, q, none⟩) eM).trans (hc q h1 h2)
  have zz : ∀ q, q < 29 → w0.frozen? ⟨M, q, none⟩ = false := fun q hq => by have := (hr0 q hq).2; rw [Nat.zero_add] at this; exact this
  have bd : ∀ u : World, Below u.heap.size u u.drew := fun u => ⟨rfl, rfl, rfl, Nat.le_refl _, fun _ _ => rfl⟩
  have dr : ∀ {u : World} {lo hi : Nat}, Stp (Rown RR R) M lo hi w0 u → Stp (Rown RR R) M lo hi w0 u.drew := fun g => stp_drew g (fun k hk => hk)
  obtain ⟨r0, e0⟩ : ∃ r, r = sta0 bs s := ⟨_, rfl⟩
  obtain ⟨ra, ea⟩ : ∃ r, r = staA bs s := ⟨_, rfl⟩
  obtain ⟨rm, em⟩ : ∃ r, r = staM bs s := ⟨_, rfl⟩
  obtain ⟨rw_, ew⟩ : ∃ r, r = staW bs s := ⟨_, rfl⟩
  obtain ⟨rd, ed⟩ : ∃ r, r = staD bs s := ⟨_, rfl⟩
  obtain ⟨re, ee⟩ : ∃ r, r = staE bs s := ⟨_, rfl⟩
  obtain ⟨r1, e1⟩ : ∃ r, r = sta1 bs s := ⟨_, rfl⟩
  have ec : stateA bs s = ⟨⟨r0.v, ra.v, rm.v, rw_.v, rd.v, re.v, r1.v⟩, r1.s⟩ := by unfold stateA; rw [← e0, ← ea, ← em, ← ew, ← ed, ← ee, ← e1]
  have fa : ra = listA bs (accA bs) r0.s := by rw [ea, e0]; rfl
  have fm : rm = listA bs (flatA bs [0, 0, 2, 0, 0, 0, 0]) ra.s := by rw [em, ea]; rfl
  have fw : rw_ = listA bs (flatA bs [0, 0, 0, 0, 0, 0, 3, 3, 0, 0, 0]) rm.s := by rw [ew, em]; rfl
  have fd : rd = listA bs (flatA bs [0, 0, 3, 3, 0, 0, 0, 0]) rw_.s := by rw [ed, ew]; rfl
  have fe : re = listA bs (flatA bs [0, 0]) rd.s := by rw [ee, ed]; rfl
  have f1 : r1 = flatA bs [0, 0, 0, 3, 3, 0, 0, 0, 0, 0, 3, 3, 0, 0, 4, 0, 0, 0] re.s := by rw [e1, ee]; rfl
  have f0 : r0 = flatA bs [0, 0, 2, 3, 3, 0] s := e0
  have kA : ∀ x ∈ ra.v, AccK x := by rw [fa]; exact timesA_all (Q := AccK) _ (fun s => accK_A bs s) _ _
  have l0 : r0.v.length = 6 := by rw [f0]; exact flatA_length bs _ s
  have b0 : ra.s.err = 0 → r0.s.err = 0 := fun h5 => err_back (listA bs (accA bs)) (fun s hs => listA_stuck bs _ s hs) _ (by rw [← fa]; exact h5)
  have b1 : rm.s.err = 0 → ra.s.err = 0 := fun h5 => err_back (listA bs (flatA bs [0, 0, 2, 0, 0, 0, 0])) (fun s hs => listA_stuck bs _ s hs) _ (by rw [← fm]; exact h5)
  have b2 : rw_.s.err = 0 → rm.s.err = 0 := fun h5 => err_back (listA bs (flatA bs [0, 0, 0, 0, 0, 0, 3, 3, 0, 0, 0])) (fun s hs => listA_stuck bs _ s hs) _ (by rw [← fw]; exact h5)
  have b3 : rd.s.err = 0 → rw_.s.err = 0 := fun h5 => err_back (listA bs (flatA bs [0, 0, 3, 3, 0, 0, 0, 0])) (fun s hs => listA_stuck bs _ s hs) _ (by rw [← fd]; exact h5)
  have b4 : re.s.err = 0 → rd.s.err = 0 := fun h5 => err_back (listA bs (flatA bs [0, 0])) (fun s hs => listA_stuck bs _ s hs) _ (by rw [← fe]; exact h5)
  have b5 : ∀ ks, (flatA bs ks re.s).s.err = 0 → re.s.err = 0 := fun ks h5 => err_back (flatA bs ks) (fun s hs => flatA_stuck bs ks s hs) _ h5
  rw [ec]
  clear ec e0 ea em ew ed ee e1
  refine (go_state (D := 131) (W := RR) (M := M) (o := 0) (C := w.heap.size) nilr_ints methr_ints callr_ints nilr_flag methr_flag callr_flag nilr_texts methr_texts callr_texts nilr_bytes methr_bytes callr_bytes
    (R0 := fun u => u = w0)
    (R1 := RI B RR R a n cp bs s M 0 w0 [0, 0])
    (R2 := RI B RR R a n cp bs s M 0 w0 [0, 0, 2])
    (R3 := RI B RR R a n cp bs s M 0 w0 [0, 0, 2, 3, 3])
    (R4 := RI B RR R a n cp bs s M 0 w0 [0, 0, 2, 3, 3, 0])
    (R5 := fun u => RS u B RR R a n cp bs ra.s ∧ (ra.s.err = 0 → RsA B RR R M 0 r0.v ra.v u) ∧ Stp (Rown RR R) M 0 7 w0 u)
    (R6 := fun u => RS u B RR R a n cp bs rm.s ∧ (rm.s.err = 0 → RsA B RR R M 0 r0.v ra.v u ∧ RsL B RR R M 7 7 rm.v u) ∧ Stp (Rown RR R) M 0 8 w0 u)
    (R7 := fun u => RS u B RR R a n cp bs rw_.s ∧ (rw_.s.err = 0 → RsA B RR R M 0 r0.v ra.v u ∧ RsL B RR R M 7 7 rm.v u ∧ RsL B RR R M 8 11 rw_.v u) ∧ Stp (Rown RR R) M 0 9 w0 u)
    (R8 := fun u => RS u B RR R a n cp bs rd.s ∧ (rd.s.err = 0 → RsA B RR R M 0 r0.v ra.v u ∧ RsL B RR R M 7 7 rm.v u ∧ RsL B RR R M 8 11 rw_.v u ∧ RsL B RR R M 9 8 rd.v u) ∧ Stp (Rown RR R) M 0 10 w0 u)
    (R9 := fun u => RS u B RR R a n cp bs re.s ∧ (re.s.err = 0 → RsA B RR R M 0 r0.v ra.v u ∧ RsL B RR R M 7 7 rm.v u ∧ RsL B RR R M 8 11 rw_.v u ∧ RsL B RR R M 9 8 rd.v u ∧ RsL B RR R M 10 2 re.v u) ∧ Stp (Rown RR R) M 0 11 w0 u)
    (R10 := fun u => ∃ v, (RS v B RR R a n cp bs re.s ∧ (re.s.err = 0 → RsA B RR R M 0 r0.v ra.v v ∧ RsL B RR R M 7 7 rm.v v ∧ RsL B RR R M 8 11 rw_.v v ∧ RsL B RR R M 9 8 rd.v v ∧ RsL B RR R M 10 2 re.v v) ∧ Stp (Rown RR R) M 0 11 w0 v) ∧ RI B RR R a n cp bs re.s M 11 v [0, 0, 0, 3, 3, 0, 0] u)
    (R11 := fun u => ∃ v, (RS v B RR R a n cp bs re.s ∧ (re.s.err = 0 → RsA B RR R M 0 r0.v ra.v v ∧ RsL B RR R M 7 7 rm.v v ∧ RsL B RR R M 8 11 rw_.v v ∧ RsL B RR R M 9 8 rd.v v ∧ RsL B RR R M 10 2 re.v v) ∧ Stp (Rown RR R) M 0 11 w0 v) ∧ RI B RR R a n cp bs re.s M 11 v [0, 0, 0, 3, 3, 0, 0, 0, 0, 0, 3, 3, 0, 0] u)
    (R12 := fun u => ∃ v, (RS v B RR R a n cp bs re.s ∧ (re.s.err = 0 → RsA B RR R M 0 r0.v ra.v v ∧ RsL B RR R M 7 7 rm.v v ∧ RsL B RR R M 8 11 rw_.v v ∧ RsL B RR R M 9 8 rd.v v ∧ RsL B RR R M 10 2 re.v v) ∧ Stp (Rown RR R) M 0 11 w0 v) ∧ RI B RR R a n cp bs re.s M 11 v [0, 0, 0, 3, 3, 0, 0, 0, 0, 0, 3, 3, 0, 0, 4] u)
    (R13 := fun u => ∃ v, (RS v B RR R a n cp bs re.s ∧ (re.s.err = 0 → RsA B RR R M 0 r0.v ra.v v ∧ RsL B RR R M 7 7 rm.v v ∧ RsL B RR R M 8 11 rw_.v v ∧ RsL B RR R M 9 8 rd.v v ∧ RsL B RR R M 10 2 re.v v) ∧ Stp (Rown RR R) M 0 11 w0 v) ∧ RI B RR R a n cp bs re.s M 11 v [0, 0, 0, 3, 3, 0, 0, 0, 0, 0, 3, 3, 0, 0, 4, 0, 0, 0] u)
    (fun u hu => by
      rcases hu with hu | hu | hu | hu | hu | hu | hu | hu | hu | hu | hu | hu | hu | hu
      · subst hu; exact hC0
      · exact KC hu.2.2
      · exact KC hu.2.2
      · exact KC hu.2.2
      · exact KC hu.2.2
      · exact KC hu.2.2
      · exact KC hu.2.2
      · exact KC hu.2.2
      · exact KC hu.2.2
      · exact KC hu.2.2
      · obtain ⟨v, hv, hu⟩ := hu; exact KC ((hv.2.2.wider (hi' := 29) (Nat.le_refl _) (by omega)).trans (hu.2.2.wider (lo' := 0) (hi' := 29) (Nat.zero_le _) (by simp)))
      · obtain ⟨v, hv, hu⟩ := hu; exact KC ((hv.2.2.wider (hi' := 29) (Nat.le_refl _) (by omega)).trans (hu.2.2.wider (lo' := 0) (hi' := 29) (Nat.zero_le _) (by simp)))
      · obtain ⟨v, hv, hu⟩ := hu; exact KC ((hv.2.2.wider (hi' := 29) (Nat.le_refl _) (by omega)).trans (hu.2.2.wider (lo' := 0) (hi' := 29) (Nat.zero_le _) (by simp)))
      · obtain ⟨v, hv, hu⟩ := hu; exact KC ((hv.2.2.wider (hi' := 29) (Nat.le_refl _) (by omega)).trans (hu.2.2.wider (lo' := 0) (hi' := 29) (Nat.zero_le _) (by simp))))
    (fun u hu => by
      subst hu
      exact (rints_call (k := 2) (h.below hb0) hF hM0 (hr0.left (by omega)) #[.pointer (some ⟨M, 0, none⟩), .pointer (some ⟨M, 0 + 1, none⟩)] 82 (fun j hj => match j, hj with | 0, _ => rfl | 1, _ => rfl)).mono fun e w' ⟨h1, h2⟩ => ⟨h1, h2⟩)
    (fun u hu => (rflag_call hu.1 hF (hu.lt hM0) (hu.room hr0 (show 2 + 1 ≤ 29 by omega))).mono fun e w' ⟨h1, h2⟩ => ⟨h1, hu.more h2⟩)
    (fun u hu => (rtexts_call (k := 2) hu.1 hF (hu.lt hM0) (hu.room hr0 (show 3 + 2 ≤ 29 by omega)) #[.pointer (some ⟨M, 0 + 3, none⟩), .pointer (some ⟨M, 0 + 4, none⟩)] 86 (fun j hj => match j, hj with | 0, _ => rfl | 1, _ => rfl)).mono fun e w' ⟨h1, h2⟩ => ⟨h1, hu.more h2⟩)
    (fun u hu => (rints_call (k := 1) hu.1 hF (hu.lt hM0) (hu.room hr0 (show 5 + 1 ≤ 29 by omega)) #[.pointer (some ⟨M, 0 + 5, none⟩)] 82 (fun j hj => match j, hj with | 0, _ => rfl)).mono fun e w' ⟨h1, h2⟩ => ⟨h1, hu.more h2⟩)
    (fun u hu => by
      have hu0 : RS u B RR R a n cp bs r0.s ∧ (r0.s.err = 0 → FlatAt u (OutF B (Rown RR R) M u) M 0 r0.v) ∧ Stp (Rown RR R) M 0 6 w0 u := by rw [f0]; exact hu
      have hud := dr hu0.2.2
      exact (rlist_state1 (C := w.heap.size) ⟨hu0.1.below (bd u), (hud.cell 6 (by omega)).trans (cc 6 (by omega) (by omega)), (hud.frozen 6).trans (zz 6 (by omega)), hF, hMB, by decide⟩ (KC hud) (nC _)).mono fun e w' ⟨h1, h2, h3, h4⟩ => ⟨h1, by rw [fa]; exact h2, fun h5 => by
        obtain ⟨ad, k, h6, h7⟩ := h3 (by rw [← fa]; exact h5)
        rw [fa]
        exact ⟨(FlatAt.stepB ((hu0.2.1 (b0 h5)).toB) (stp_drew (lo := 0) (hi := 0) (Stp.refl _ _ _ _ _) (fun k hk => hk)) (.inl (Nat.zero_le _))).stepB h4 (.inr (by omega)), ad, k, k, h6, h7⟩, (hud.wider (Nat.le_refl _) (by omega)).trans (h4.wider (by omega) (Nat.le_refl _))⟩)
    (fun u hu => by
      have hud := dr hu.2.2
      exact (rlist_state2 (C := w.heap.size) ⟨hu.1.below (bd u), (hud.cell 7 (by omega)).trans (cc 7 (by omega) (by omega)), (hud.frozen 7).trans (zz 7 (by omega)), hF, hMB, by decide⟩ (KC hud) (nC _)).mono fun e w' ⟨h1, h2, h3, h4⟩ => ⟨h1, by rw [fm]; exact h2, fun h5 => by
        obtain ⟨ad, k, h6, h7⟩ := h3 (by rw [← fm]; exact h5)
        have qq := hu.2.1 (b1 h5)
        have dd : Stp (Rown RR R) M 7 (7 + 1) u w' := (stp_drew (Stp.refl _ _ _ _ u) (fun k hk => hk)).trans h4
        have last : RsL B RR R M 7 7 rm.v w' := ⟨ad, k, k, h6, by rw [fm]; exact h7⟩
        exact ⟨qq.step kA dd (by omega) l0, last⟩, (hud.wider (Nat.le_refl _) (by omega)).trans (h4.wider (by omega) (Nat.le_refl _))⟩)
    (fun u hu => by
      have hud := dr hu.2.2
      exact (rlist_state3 (C := w.heap.size) ⟨hu.1.below (bd u), (hud.cell 8 (by omega)).trans (cc 8 (by omega) (by omega)), (hud.frozen 8).trans (zz 8 (by omega)), hF, hMB, by decide⟩ (KC hud) (nC _)).mono fun e w' ⟨h1, h2, h3, h4⟩ => ⟨h1, by rw [fw]; exact h2, fun h5 => by
        obtain ⟨ad, k, h6, h7⟩ := h3 (by rw [← fw]; exact h5)
        have qq := hu.2.1 (b2 h5)
        have dd : Stp (Rown RR R) M 8 (8 + 1) u w' := (stp_drew (Stp.refl _ _ _ _ u) (fun k hk => hk)).trans h4
        have last : RsL B RR R M 8 11 rw_.v w' := ⟨ad, k, k, h6, by rw [fw]; exact h7⟩
        exact ⟨qq.1.step kA dd (by omega) l0, qq.2.step dd (by omega), last⟩, (hud.wider (Nat.le_refl _) (by omega)).trans (h4.wider (by omega) (Nat.le_refl _))⟩)
    (fun u hu => by
      have hud := dr hu.2.2
      exact (rlist_state4 (C := w.heap.size) ⟨hu.1.below (bd u), (hud.cell 9 (by omega)).trans (cc 9 (by omega) (by omega)), (hud.frozen 9).trans (zz 9 (by omega)), hF, hMB, by decide⟩ (KC hud) (nC _)).mono fun e w' ⟨h1, h2, h3, h4⟩ => ⟨h1, by rw [fd]; exact h2, fun h5 => by
        obtain ⟨ad, k, h6, h7⟩ := h3 (by rw [← fd]; exact h5)
        have qq := hu.2.1 (b3 h5)
        have dd : Stp (Rown RR R) M 9 (9 + 1) u w' := (stp_drew (Stp.refl _ _ _ _ u) (fun k hk => hk)).trans h4
        have last : RsL B RR R M 9 8 rd.v w' := ⟨ad, k, k, h6, by rw [fd]; exact h7⟩
        exact ⟨qq.1.step kA dd (by omega) l0, qq.2.1.step dd (by omega), qq.2.2.step dd (by omega), last⟩, (hud.wider (Nat.le_refl _) (by omega)).trans (h4.wider (by omega) (Nat.le_refl _))⟩)
    (fun u hu => by
      have hud := dr hu.2.2
      exact (rlist_state5 (C := w.heap.size) ⟨hu.1.below (bd u), (hud.cell 10 (by omega)).trans (cc 10 (by omega) (by omega)), (hud.frozen 10).trans (zz 10 (by omega)), hF, hMB, by decide⟩ (KC hud) (nC _)).mono fun e w' ⟨h1, h2, h3, h4⟩ => ⟨h1, by rw [fe]; exact h2, fun h5 => by
        obtain ⟨ad, k, h6, h7⟩ := h3 (by rw [← fe]; exact h5)
        have qq := hu.2.1 (b4 h5)
        have dd : Stp (Rown RR R) M 10 (10 + 1) u w' := (stp_drew (Stp.refl _ _ _ _ u) (fun k hk => hk)).trans h4
        have last : RsL B RR R M 10 2 re.v w' := ⟨ad, k, k, h6, by rw [fe]; exact h7⟩
        exact ⟨qq.1.step kA dd (by omega) l0, qq.2.1.step dd (by omega), qq.2.2.1.step dd (by omega), qq.2.2.2.step dd (by omega), last⟩, (hud.wider (Nat.le_refl _) (by omega)).trans (h4.wider (by omega) (Nat.le_refl _))⟩)
    (fun u hu => ⟨_, rfl⟩ |> fun (_ : ∃ x, x = u) => (rplan_any (hu.1.below (bd u)) hF (Nat.lt_of_lt_of_le hM0 hu.2.2.size) ((hr0.part (a := 11) (m := 7) (by omega)).step (dr hu.2.2) (.inl (Nat.le_refl _)))).mono fun e w' ⟨h1, h2⟩ => ⟨h1, u, hu, ri_stq (rq_below RR R (bd u)) (Nat.lt_of_lt_of_le hM0 hu.2.2.size) hF h2⟩)
    (fun u hu => by
      obtain ⟨v, hv, hu⟩ := hu
      have rm18 : Room v M 11 18 := (hr0.part (a := 11) (m := 18) (by omega)).step hv.2.2 (.inl (Nat.le_refl _))
      have hMv : M < v.heap.size := Nat.lt_of_lt_of_le hM0 hv.2.2.size
      exact (rplan_any hu.drew'.1 hF (hu.drew'.lt hMv) (hu.drew'.room rm18 (show 7 + 7 ≤ 18 by omega))).mono fun e w' ⟨h1, h2⟩ => ⟨h1, v, hv, hu.drew'.more h2⟩)
    (fun u hu => by
      obtain ⟨v, hv, hu⟩ := hu
      have rm18 : Room v M 11 18 := (hr0.part (a := 11) (m := 18) (by omega)).step hv.2.2 (.inl (Nat.le_refl _))
      have hMv : M < v.heap.size := Nat.lt_of_lt_of_le hM0 hv.2.2.size
      exact (rbytes_call hu.1 hF (hu.lt hMv) (hu.room rm18 (show 14 + 1 ≤ 18 by omega))).mono fun e w' ⟨h1, h2⟩ => ⟨h1, v, hv, hu.more h2⟩)
    (fun u hu => by
      obtain ⟨v, hv, hu⟩ := hu
      have rm18 : Room v M 11 18 := (hr0.part (a := 11) (m := 18) (by omega)).step hv.2.2 (.inl (Nat.le_refl _))
      have hMv : M < v.heap.size := Nat.lt_of_lt_of_le hM0 hv.2.2.size
      exact (rints_call (k := 3) hu.1 hF (hu.lt hMv) (hu.room rm18 (show 15 + 3 ≤ 18 by omega)) #[.pointer (some ⟨M, 0 + 26, none⟩), .pointer (some ⟨M, 0 + 27, none⟩), .pointer (some ⟨M, 0 + 28, none⟩)] 82 (fun j hj => match j, hj with | 0, _ => rfl | 1, _ => rfl | 2, _ => rfl)).mono fun e w' ⟨h1, h2⟩ => ⟨h1, v, hv, hu.more h2⟩)
    w rfl hw0).mono fun e w' ⟨h1, h2⟩ => ⟨h1, ?_⟩
  obtain ⟨v, ⟨hv1, hv2, hv3⟩, hu⟩ := h2
  have hs : Stp (Rown RR R) M 11 29 v w' := hu.2.2
  refine ⟨by rw [f1]; exact hu.1, fun h5 => ?_, (st0.to hM (far_own hF w) _ _).trans ((hv3.wider (Nat.le_refl _) (by omega)).trans (hs.wider (Nat.zero_le _) (Nat.le_refl _)))⟩
  have h5' : (flatA bs [0, 0, 0, 3, 3, 0, 0, 0, 0, 0, 3, 3, 0, 0, 4, 0, 0, 0] re.s).s.err = 0 := by rw [← f1]; exact h5
  obtain ⟨qA, qm, qw, qd, qe⟩ := hv2 (b5 _ h5')
  have qA' := qA.step kA hs (by omega) l0
  obtain ⟨am, nm, cm, cm1, cm2⟩ := qm.step hs (by omega)
  obtain ⟨aw, nw, cw, cw1, cw2⟩ := qw.step hs (by omega)
  obtain ⟨ad, nd, cd, cd1, cd2⟩ := qd.step hs (by omega)
  obtain ⟨ae, ne, ce, ce1, ce2⟩ := qe.step hs (by omega)
  obtain ⟨aa, na, ca, ca1, ca2⟩ := qA'.2
  have fl := (hu.2.1 h5').toB
  refine ⟨qA'.1, ⟨aa, na, ca, ca1, ca2⟩, ⟨am, nm, cm, by rw [Nat.zero_add]; exact cm1, cm2⟩, ⟨aw, nw, cw, by rw [Nat.zero_add]; exact cw1, cw2⟩, ⟨ad, nd, cd, by rw [Nat.zero_add]; exact cd1, cd2⟩, ⟨ae, ne, ce, by rw [Nat.zero_add]; exact ce1, ce2⟩, fun j y hy => ?_⟩
  rw [f1] at hy
  obtain ⟨v, g1, g2⟩ := fl j y hy
  exact ⟨v, by rw [Nat.zero_add]; exact g1, g2⟩
end Go.Proofs.YthklpkmdmkgjiaaGreat
