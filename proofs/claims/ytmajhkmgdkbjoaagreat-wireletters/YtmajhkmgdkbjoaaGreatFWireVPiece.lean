/- What the document's walk writes of a uint32, and of a piece. No condition but the size. -/
import Derived.Test.YtmajhkmgdkbjoaaGreatJL
import Derived.Test.YtmajhkmgdkbjoaaGreatJK
namespace Go.Proofs.YtmajhkmgdkbjoaaGreat
open Go.ChangeShapes Go.WideShapes Go.ChangeAt Go.RowKit B8 Cm Wm
set_option linter.unusedVariables false

set_option maxRecDepth 100000 in
set_option maxHeartbeats 2000000 in
theorem vsum_any {w : World} {B W L : Nat} {fs : List Fld} {M o : Nat} (V : Nat) (hV : V ≤ 4294967295) (h : VS w B W L fs) (hB : B ≤ w.heap.size) (hL : L + 10 ≤ 70368744177664) (hc : w.cell? ⟨M, o, none⟩ = some (.int .u32 (V : Int))) (hM : ¬ Wown W w M) :
    Calls Tryz.prog 52 #[.pointer (some ⟨W, 0, none⟩), .pointer (some ⟨M, o, none⟩)] w fun e w' => e = .returned (.tuple #[]) ∧ VS w' B W (L + 10) (fs ++ [⟨numB V, true⟩]) ∧ Stq (Wown W) w w' := by
  obtain ⟨v, xs, long, h⟩ := h
  obtain ⟨av, nv, cv, ev, hl⟩ : ∃ av nv cv, v = .slice av nv cv ∧ nv = xs.length := by
    obtain ⟨h1, ⟨h2, h3⟩ | ⟨g, cp, cur, h2, h3⟩⟩ := h.row
    · exact ⟨none, 0, 0, h2, by omega⟩
    · exact ⟨_, _, _, h2, rfl⟩
  subst ev
  have hlt := World.block_lt_of_cell? w _ h.c0
  have hlm := World.block_lt_of_cell? w _ hc
  have CI := hide (refnum_any V w.drew (by omega))
  have ew : IntKind.u64.wrap (V : Int) = V := by rw [wrapU]; omega
  have WF := hide (cnumB_wfs V (by omega))
  have c0 := h.c0
  have c1 := h.c1
  have f0 := h.f0
  have H := hide h
  have HB := hide hB
  have HL := hide hl
  have i1 : nv ≤ L := by rw [hl]; exact h.size
  have LT : Hid (W < w.heap.size ∧ M < w.heap.size) := ⟨hlt, hlm⟩
  have NL := hide (numB_length V).2
  have ROW : Hid (∀ u, Below w.heap.size w u → u.ownsRow B 5 1 (.slice av nv cv) nv (vals xs)) := fun u hb => by have := row_below h.row hb; rw [← hl] at this; exact this
  have H1 : Hid (∀ u, Below w.heap.size w u → Vst u B W L fs (.slice av nv cv) xs long) := fun u hb => ⟨(hb.cell (p := ⟨W, 0, none⟩) hlt).trans h.c0, (hb.cell (p := ⟨W, 1, none⟩) hlt).trans h.c1, (hb.cell (p := ⟨W, 2, none⟩) hlt).trans h.c2, (hb.frozen (p := ⟨W, 0, none⟩) hlt).trans h.f0, (hb.frozen (p := ⟨W, 2, none⟩) hlt).trans h.f2, row_below h.row hb, h.wf, h.some_ok, h.some_no, h.apart, h.size, h.room, h.home⟩
  have NN : Hid (nv + (numB V).length ≤ 140737488355328) := by show _ ≤ _; have := NL.out; omega
  clear h hB hl hM hlt hlm
  go_enter Tryz.func52, Tryz.ntmps52
  go_wp2_with fail
  go_region_law (first
    | (go_simp; go_at_call 61; refine CI.out.mono ?_; rintro e w1 ⟨y, rfl, hown, hb⟩; obtain ⟨a, c, rfl, q⟩ := sq_of_row rfl WF.out hown; have C1 : w1.cell? ⟨W, 0, none⟩ = some (.slice av nv cv) := (hb.cell (p := ⟨W, 0, none⟩) LT.out.1).trans c0; have QQ := hide q; have BB : Hid (Below w.heap.size w w1) := ⟨hb.os, hb.tape, hb.output, hb.size, hb.block⟩; clear q hb hown)
    | (refine step_append_home _ (by rfl) (.tmp 15) (.tmp 20) (by rfl) B (.slice av nv cv) nv xs (by rfl) (ROW.out _ BB.out) a (numB V).length c (numB V) (by rfl) QQ.out NN.out (Nat.le_trans HB.out BB.out.size) ?_; intro a2 cp2 w2 hown2 hgrow2 hho2; have VM := hide (vst_more (H1.out _ BB.out) WF.out 10 NL.out hL hgrow2 hho2 HL.out hown2); clear hown2 hgrow2 hho2; have d0 := VM.out.2.2.1; have g0 := VM.out.2.2.2))
  all_goals (go_wp2_with fail; refine bodyPost_ret (results_none rfl _ _ _) rfl ?_; exact ⟨rfl, ⟨_, _, _, VM.out.1⟩, (stq_below BB.out LT.out.1).trans VM.out.2.1⟩)
theorem vsum_call {w : World} {B W L : Nat} {fs : List Fld} {M o : Nat} {xs : List Atom} (h : VS w B W L fs) (hB : B ≤ w.heap.size) (hL : L + 10 ≤ 70368744177664) (hf : FlatAt w (Out (Wown W) M w) M o xs) (hr : Room w M o 1) (hk : xs.map Atom.k = [1]) (hM : M < w.heap.size) (hS : ¬ Wown W w M) :
    Calls Tryz.prog 52 #[.pointer (some ⟨W, 0, none⟩), .pointer (some ⟨M, o, none⟩)] w fun e w' => e = .returned (.tuple #[]) ∧ VS w' B W (L + 10) (fs ++ flds xs) ∧ Stp (Wown W) M o (o + 1) w w' := by
  obtain ⟨x, rfl, hx⟩ := one_atomv hk
  obtain ⟨v, hc, hv⟩ := flat_onev hf
  obtain ⟨rfl, z0, z1⟩ : v = .int .u32 x.z ∧ 0 ≤ x.z ∧ x.z ≤ 4294967295 := by
    rcases hv with hv | hv | hv | hv | hv
    · exact absurd hx (by have := hv.1; omega)
    · exact hv.2
    · exact absurd hx (by have := hv.1; omega)
    · exact absurd hx (by have := hv.1; omega)
    · exact absurd hx (by have := hv.1; omega)
  have ez : x.z = ((x.z.toNat : Nat) : Int) := by omega
  rw [ez] at hc
  refine (vsum_any x.z.toNat (by omega) h hB hL hc hS).mono fun e w' ⟨h1, h2, h3⟩ => ⟨h1, ?_, h3.to hM hS o (o + 1)⟩
  rw [← fldA_small hx] at h2
  exact h2
theorem vpiece_any {w : World} {B W L : Nat} {fs : List Fld} {M o : Nat} {xs : List Atom} (h : VS w B W L fs) (hB : B ≤ w.heap.size) (hL : L + 70030 ≤ 70368744177664) (hf : FlatAt w (Out (Wown W) M w) M o xs) (hr : Room w M o 4) (hk : xs.map Atom.k = [0, 0, 1, 4]) (hM : M < w.heap.size) (hS : ¬ Wown W w M) :
    Calls Tryz.prog 29 #[.pointer (some ⟨W, 0, none⟩), .pointer (some ⟨M, o, none⟩)] w fun e w' => e = .returned (.tuple #[]) ∧ VS w' B W (L + 70030) (fs ++ flds xs) ∧ Stp (Wown W) M o (o + 4) w w' := by
  obtain ⟨s0, r0, rfl, k0, hk⟩ := List.map_eq_append_iff.1 (show _ = [0, 0] ++ [1, 4] from hk)
  have l0 : s0.length = 2 := by have := congrArg List.length k0; simpa using this
  obtain ⟨s1, r1, rfl, k1, hk⟩ := List.map_eq_append_iff.1 (show _ = [1] ++ [4] from hk)
  have l1 : s1.length = 1 := by have := congrArg List.length k1; simpa using this
  obtain ⟨s2, rfl⟩ : ∃ s, s = r1 := ⟨_, rfl⟩
  have k2 := hk
  have l2 : s2.length = 1 := by have := congrArg List.length k2; simpa using this
  have f0 := hf.left
  have g0 := hf.right
  rw [l0] at g0
  have f1 := g0.left
  have g1 := g0.right
  rw [l1, Nat.add_assoc] at g1
  simp only [Nat.reduceAdd] at g1
  have f2 := g1
  refine (doc_piece (M := M) (o := o) (W := W)
    (R0 := fun u => VS u B W (L + 0) (fs) ∧ Stp (Wown W) M o (o + 0) w u)
    (R1 := fun u => VS u B W (L + 20) (fs ++ flds s0) ∧ Stp (Wown W) M o (o + 2) w u)
    (R2 := fun u => VS u B W (L + 30) (fs ++ flds s0 ++ flds s1) ∧ Stp (Wown W) M o (o + 3) w u)
    (R3 := fun u => VS u B W (L + 70030) (fs ++ flds s0 ++ flds s1 ++ flds s2) ∧ Stp (Wown W) M o (o + 4) w u)
    (fun u hu => (vnums_call hu.1 (Nat.le_trans hB hu.2.size) (le_room (a := 0) (b := 20) (by decide) hL) (f0.step hu.2 (.inl (Nat.le_refl _))) (Room.step (hr.part (a := 0) (m := 2) (by omega)) hu.2 (.inl (Nat.le_refl _))) k0 (Nat.lt_of_lt_of_le hM hu.2.size) (hu.2.keep hM hS) #[.pointer (some ⟨M, o, none⟩), .pointer (some ⟨M, o + 1, none⟩)] 79 (fun j hj => match j, hj with | 0, _ => rfl | 1, _ => rfl)).mono fun e w' ⟨h1, h2, h3⟩ => ⟨h1, h2.wide (le_sum _ _ _ _ (by decide)) (Nat.le_trans (Nat.add_le_add_left (by decide) _) hL), (hu.2.wider (Nat.le_refl _) (by omega)).trans (h3.wider (by omega) (by omega))⟩)
    (fun u hu => (vsum_call hu.1 (Nat.le_trans hB hu.2.size) (le_room (a := 20) (b := 10) (by decide) hL) (f1.step hu.2 (.inl (Nat.le_refl _))) (Room.step (hr.part (a := 2) (m := 1) (by omega)) hu.2 (.inl (Nat.le_refl _))) k1 (Nat.lt_of_lt_of_le hM hu.2.size) (hu.2.keep hM hS)).mono fun e w' ⟨h1, h2, h3⟩ => ⟨h1, h2.wide (le_sum _ _ _ _ (by decide)) (Nat.le_trans (Nat.add_le_add_left (by decide) _) hL), (hu.2.wider (Nat.le_refl _) (by omega)).trans (h3.wider (by omega) (by omega))⟩)
    (fun u hu => (vbytes_call hu.1 (Nat.le_trans hB hu.2.size) (le_room (a := 30) (b := 70000) (by decide) hL) (f2.step hu.2 (.inl (Nat.le_refl _))) (Room.step (hr.part (a := 3) (m := 1) (by omega)) hu.2 (.inl (Nat.le_refl _))) k2 (Nat.lt_of_lt_of_le hM hu.2.size) (hu.2.keep hM hS)).mono fun e w' ⟨h1, h2, h3⟩ => ⟨h1, h2.wide (le_sum _ _ _ _ (by decide)) (Nat.le_trans (Nat.add_le_add_left (by decide) _) hL), (hu.2.wider (Nat.le_refl _) (by omega)).trans (h3.wider (by omega) (by omega))⟩)
    w ⟨h.wide (by omega) (by omega), Stp.refl _ _ _ _ _⟩).mono fun e w' ⟨h1, h2, h3⟩ => ⟨h1, ?_, h3⟩
  simpa only [flds_append, List.append_assoc] using h2
end Go.Proofs.YtmajhkmgdkbjoaaGreat
