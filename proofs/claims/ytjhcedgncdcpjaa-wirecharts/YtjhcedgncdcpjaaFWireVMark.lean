/- What the document's walk writes of a mark. No condition but the size. -/
import Derived.Test.YtjhcedgncdcpjaaFWireVl
import Derived.Test.YtjhcedgncdcpjaaFWireRefAnswer
import Derived.Test.YtjhcedgncdcpjaaJK
namespace Go.Proofs.Ytjhcedgncdcpjaa
open Go.ChangeShapes Go.WideShapes Go.ChangeAt Go.RowKit B8 Cm Wm
set_option linter.unusedVariables false

theorem vanswer_any {w : World} {B W L : Nat} {fs : List Fld} {M o : Nat} {xs : List Atom} (h : VS w B W L fs) (hB : B ≤ w.heap.size) (hL : L + 40 ≤ 70368744177664) (hf : FlatAt w (Out (Wown W) M w) M o xs) (hr : Room w M o 4) (hk : xs.map Atom.k = [0, 0, 0, 0]) (hM : M < w.heap.size) (hS : ¬ Wown W w M) :
    Calls Try.prog 56 #[.pointer (some ⟨W, 0, none⟩), .pointer (some ⟨M, o, none⟩)] w fun e w' => e = .returned (.tuple #[]) ∧ VS w' B W (L + 40) (fs ++ flds xs) ∧ Stp (Wown W) M o (o + 4) w w' := by
  obtain ⟨s0, s1, rfl, k0, k1⟩ := List.map_eq_append_iff.1 (show _ = [0] ++ [0, 0, 0] from hk)
  obtain ⟨x, rfl, hx⟩ := one_atomv k0
  have f0 := hf.left
  have f1 : FlatAt w (Out (Wown W) M w) M (o + 1) s1 := by have := hf.right; simpa using this
  obtain ⟨v, hc, hv⟩ := flat_onev f0
  obtain ⟨rfl, z0, z1⟩ := atom_int hv hx
  have hb0 : Below w.heap.size w (w.alloc (.cells #[.int .i64 x.z] 3)) := below_alloc1 w _
  have st0 : Stq (Wown W) w (w.alloc (.cells #[.int .i64 x.z] 3)) := stq_below hb0 h.lt
  have cN : (w.alloc (.cells #[.int .i64 x.z] 3)).cell? ⟨w.heap.size, 0, none⟩ = some (.int .i64 x.z) := by simp
  have nN : ¬ Wown W (w.alloc (.cells #[.int .i64 x.z] 3)) w.heap.size := vown_new h (.cells #[.int .i64 x.z] 3)
  have ltN := World.block_lt_of_cell? _ _ cN
  refine (doc_answer (M := M) (o := o) (W := W) (z := x.z)
    (R0 := fun u => u = w)
    (R1 := fun N u => N = w.heap.size ∧ VS u B W (L + 10) (fs ++ [fldA x]) ∧ Stq (Wown W) (w.alloc (.cells #[.int .i64 x.z] 3)) u)
    (R2 := fun u => VS u B W (L + 10) (fs ++ [fldA x]) ∧ Stp (Wown W) M o (o + 1) w u)
    (R3 := fun u => VS u B W (L + 10 + 10 * 3) (fs ++ [fldA x] ++ flds s1) ∧ Stp (Wown W) M o (o + 4) w u)
    (fun u hu => by subst hu; exact hc)
    (fun u hu => by
      subst hu
      exact (vnum_any x.z z0 z1 (h.below hb0) (Nat.le_trans hB hb0.size) (by omega) cN nN).mono fun e w' ⟨h1, h2, h3⟩ => ⟨h1, rfl, by rw [fldA_int hx]; exact h2, h3⟩)
    (fun N u hu => by
      obtain ⟨rfl, hv, hs⟩ := hu
      have hst := st0.trans hs
      have eM := hst.block M hM hS
      have nM := hst.keep hM hS
      refine ⟨x.z, (World.cell?_of_block (w := w.alloc (.cells #[.int .i64 x.z] 3)) (a := ⟨w.heap.size, 0, none⟩) (hs.block _ ltN nN)).trans cN, ⟨_, (World.cell?_of_block (w := w) (a := ⟨M, o, none⟩) eM).trans hc⟩, (World.frozen?_of_block (w := w) (a := ⟨M, o, none⟩) eM).trans (hr 0 (by omega)).2, ?_, stp_set hst hM hS (fun v k hk => wown_far (fun e => nM (.inl e)) v k hk) _⟩
      obtain ⟨v, xs, long, hv⟩ := hv
      exact ⟨v, xs, long, hv.far nM _⟩)
    (fun u hu => (vnums_call (n := 3) hu.1 (Nat.le_trans hB hu.2.size) (by omega) (f1.step hu.2 (.inl (Nat.le_refl _))) ((hr.part (a := 1) (m := 3) (by omega)).step hu.2 (.inl (Nat.le_refl _))) k1 (Nat.lt_of_lt_of_le hM hu.2.size) (hu.2.keep hM hS) #[.pointer (some ⟨M, o + 1, none⟩), .pointer (some ⟨M, o + 2, none⟩), .pointer (some ⟨M, o + 3, none⟩)] 71 (fun j hj => match j, hj with | 0, _ => rfl | 1, _ => rfl | 2, _ => rfl)).mono fun e w' ⟨h1, h2, h3⟩ => ⟨h1, h2, (hu.2.wider (Nat.le_refl _) (by omega)).trans (h3.wider (by omega) (by omega))⟩)
    w rfl).mono fun e w' ⟨h1, h2, h3⟩ => ⟨h1, ?_, h3⟩
  have e : fs ++ [fldA x] ++ flds s1 = fs ++ flds ([x] ++ s1) := by rw [flds_append, List.append_assoc]; rfl
  rw [← e]
  exact h2.wide (by omega) (by omega)
theorem vmark_any {w : World} {B W L : Nat} {fs : List Fld} {M o : Nat} {xs : List Atom} (h : VS w B W L fs) (hB : B ≤ w.heap.size) (hL : L + 70 ≤ 70368744177664) (hf : FlatAt w (Out (Wown W) M w) M o xs) (hr : Room w M o 7) (hk : xs.map Atom.k = [0, 0, 2, 0, 0, 0, 0]) (hM : M < w.heap.size) (hS : ¬ Wown W w M) :
    Calls Try.prog 47 #[.pointer (some ⟨W, 0, none⟩), .pointer (some ⟨M, o, none⟩)] w fun e w' => e = .returned (.tuple #[]) ∧ VS w' B W (L + 70) (fs ++ flds xs) ∧ Stp (Wown W) M o (o + 7) w w' := by
  obtain ⟨s0, r0, rfl, k0, hk⟩ := List.map_eq_append_iff.1 (show _ = [0, 0] ++ [2, 0, 0, 0, 0] from hk)
  have l0 : s0.length = 2 := by have := congrArg List.length k0; simpa using this
  obtain ⟨s1, r1, rfl, k1, hk⟩ := List.map_eq_append_iff.1 (show _ = [2] ++ [0, 0, 0, 0] from hk)
  have l1 : s1.length = 1 := by have := congrArg List.length k1; simpa using this
  obtain ⟨s2, rfl⟩ : ∃ s, s = r1 := ⟨_, rfl⟩
  have k2 := hk
  have l2 : s2.length = 4 := by have := congrArg List.length k2; simpa using this
  have f0 := hf.left
  have g0 := hf.right
  rw [l0] at g0
  have f1 := g0.left
  have g1 := g0.right
  rw [l1, Nat.add_assoc] at g1
  simp only [Nat.reduceAdd] at g1
  have f2 := g1
  refine (doc_mark (M := M) (o := o) (W := W)
    (R0 := fun u => VS u B W (L + 0) (fs) ∧ Stp (Wown W) M o (o + 0) w u)
    (R1 := fun u => VS u B W (L + 20) (fs ++ flds s0) ∧ Stp (Wown W) M o (o + 2) w u)
    (R2 := fun u => VS u B W (L + 30) (fs ++ flds s0 ++ flds s1) ∧ Stp (Wown W) M o (o + 3) w u)
    (R3 := fun u => VS u B W (L + 70) (fs ++ flds s0 ++ flds s1 ++ flds s2) ∧ Stp (Wown W) M o (o + 7) w u)
    (fun u hu => (vnums_call hu.1 (Nat.le_trans hB hu.2.size) (le_room (a := 0) (b := 20) (by decide) hL) (f0.step hu.2 (.inl (Nat.le_refl _))) (Room.step (hr.part (a := 0) (m := 2) (by omega)) hu.2 (.inl (Nat.le_refl _))) k0 (Nat.lt_of_lt_of_le hM hu.2.size) (hu.2.keep hM hS) #[.pointer (some ⟨M, o, none⟩), .pointer (some ⟨M, o + 1, none⟩)] 71 (fun j hj => match j, hj with | 0, _ => rfl | 1, _ => rfl)).mono fun e w' ⟨h1, h2, h3⟩ => ⟨h1, h2.wide (le_sum _ _ _ _ (by decide)) (Nat.le_trans (Nat.add_le_add_left (by decide) _) hL), (hu.2.wider (Nat.le_refl _) (by omega)).trans (h3.wider (by omega) (by omega))⟩)
    (fun u hu => (vflag_call hu.1 (Nat.le_trans hB hu.2.size) (le_room (a := 20) (b := 10) (by decide) hL) (f1.step hu.2 (.inl (Nat.le_refl _))) (Room.step (hr.part (a := 2) (m := 1) (by omega)) hu.2 (.inl (Nat.le_refl _))) k1 (Nat.lt_of_lt_of_le hM hu.2.size) (hu.2.keep hM hS)).mono fun e w' ⟨h1, h2, h3⟩ => ⟨h1, h2.wide (le_sum _ _ _ _ (by decide)) (Nat.le_trans (Nat.add_le_add_left (by decide) _) hL), (hu.2.wider (Nat.le_refl _) (by omega)).trans (h3.wider (by omega) (by omega))⟩)
    (fun u hu => (vanswer_any hu.1 (Nat.le_trans hB hu.2.size) (le_room (a := 30) (b := 40) (by decide) hL) (f2.step hu.2 (.inl (Nat.le_refl _))) (Room.step (hr.part (a := 3) (m := 4) (by omega)) hu.2 (.inl (Nat.le_refl _))) k2 (Nat.lt_of_lt_of_le hM hu.2.size) (hu.2.keep hM hS)).mono fun e w' ⟨h1, h2, h3⟩ => ⟨h1, h2.wide (le_sum _ _ _ _ (by decide)) (Nat.le_trans (Nat.add_le_add_left (by decide) _) hL), (hu.2.wider (Nat.le_refl _) (by omega)).trans (h3.wider (by omega) (by omega))⟩)
    w ⟨h.wide (by omega) (by omega), Stp.refl _ _ _ _ _⟩).mono fun e w' ⟨h1, h2, h3⟩ => ⟨h1, ?_, h3⟩
  simpa only [flds_append, List.append_assoc] using h2
end Go.Proofs.Ytjhcedgncdcpjaa
