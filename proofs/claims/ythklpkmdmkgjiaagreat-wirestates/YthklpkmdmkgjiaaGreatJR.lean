/- The document's walk as it writes: how many there are; may it go on. No condition but the size. What the document's walk writes of a mark. No condition but the size. What goes with the document's walk over a list of structs as it writes. No condition. -/
import Derived.Test.YthklpkmdmkgjiaaGreatJL
import Derived.Test.YthklpkmdmkgjiaaGreatFWireLs
import Derived.Test.YthklpkmdmkgjiaaGreatJK
import Derived.Test.YthklpkmdmkgjiaaGreatFWireLsMore
namespace Go.Proofs.YthklpkmdmkgjiaaGreat
open Go.ChangeShapes Go.WideShapes Go.ChangeAt Go.RowKit B8 Cm Wm
set_option linter.unusedVariables false

def VSbad (w : World) (B W L : Nat) : Prop := ∀ gs, okAll gs = false → VS w B W L gs
theorem VS.bad {w : World} {B W L : Nat} {fs : List Fld} (h : VS w B W L fs) (ho : okAll fs = false) : VSbad w B W L := fun gs hg => by
  obtain ⟨v, xs, long, h⟩ := h
  exact ⟨v, xs, long, h.c0, h.c1, h.c2, h.f0, h.f2, h.row, h.wf, fun e => absurd e (by rw [hg]; simp), fun _ => h.some_no ho, h.apart, h.size, h.room, h.home⟩
/-- so many are gone over, behind their number; or none, as it may not be written -/
def ManyV (w : World) (B W L : Nat) (fs : List Fld) (n k : Nat) (w' : World) : Prop := Stq (Wown W) w w' ∧ ((k = n ∧ n ≤ 1024 ∧ VS w' B W (L + 10) (fs ++ [fldN n])) ∨ (k = 0 ∧ (okAll fs = false ∨ 1024 < n) ∧ VSbad w' B W (L + 10)))
set_option maxRecDepth 100000 in
set_option maxHeartbeats 2000000 in
theorem vmany_any {w : World} {B W L : Nat} {fs : List Fld} (n : Nat) (hn : n ≤ 140737488355328) (h : VS w B W L fs) (hB : B ≤ w.heap.size) (hL : L + 10 ≤ 70368744177664) :
    Calls Tryz.prog 68 #[.pointer (some ⟨W, 0, none⟩), .int .i64 n] w fun e w' => ∃ k : Nat, e = .returned (.int .i64 k) ∧ ManyV w B W L fs n k w' := by
  obtain ⟨v, xs, long, h⟩ := h
  obtain ⟨av, nv, cv, ev, hl⟩ : ∃ av nv cv, v = .slice av nv cv ∧ nv = xs.length := by
    obtain ⟨h1, ⟨h2, h3⟩ | ⟨g, cp, cur, h2, h3⟩⟩ := h.row
    · exact ⟨none, 0, 0, h2, by omega⟩
    · exact ⟨_, _, _, h2, rfl⟩
  subst ev
  have hlt := World.block_lt_of_cell? w _ h.c0
  have c0 := h.c0
  have c1 := h.c1
  have c2 := h.c2
  have f0 := h.f0
  have f2 := h.f2
  have BAD : Hid (∀ gs, okAll gs = false → Vst (w.setCell ⟨W, 2, none⟩ (.bool true)) B W L gs (.slice av nv cv) xs true ∧ Stq (Wown W) w (w.setCell ⟨W, 2, none⟩ (.bool true))) := fun gs hg => h.bad gs hg
  have WD : Hid (∀ u gs, VS u B W L gs → VS u B W (L + 10) gs) := fun u gs hh => hh.wider (by omega) hL
  cases long with
  | true =>
    have NO : Hid (okAll fs = false) := by
      cases e : okAll fs with
      | false => rfl
      | true => exact absurd (h.some_ok e).1 (by simp)
    clear h hB
    go_enter Tryz.func68, Tryz.ntmps68
    go_wp2_with fail
    go_ret
    exact ⟨0, rfl, (BAD.out fs NO.out).2, .inr ⟨rfl, .inl NO.out, fun gs hg => WD.out _ _ ⟨_, _, _, (BAD.out gs hg).1⟩⟩⟩
  | false =>
    by_cases h1024 : n ≤ 1024
    · have CI := hide (refnum_any n w.drew (by omega))
      have WF := hide (cnumB_wfs n (by omega))
      have i1 : nv ≤ L := by rw [hl]; exact h.size
      have HB := hide hB
      have HL := hide hl
      have LT : Hid (W < w.heap.size) := hlt
      have NL := hide (numB_length n).2
      have ROW : Hid (∀ u, Below w.heap.size w u → u.ownsRow B 5 1 (.slice av nv cv) nv (vals xs)) := fun u hb => by have := row_below h.row hb; rw [← hl] at this; exact this
      have H1 : Hid (∀ u, Below w.heap.size w u → Vst u B W L fs (.slice av nv cv) xs false) := fun u hb => h.later hb
      have NN : Hid (nv + (numB n).length ≤ 140737488355328) := by show _ ≤ _; have := NL.out; omega
      have hcv : IntKind.u64.wrap (n : Int) = (n : Int) := by simp [IntKind.wrap, IntKind.bits, IntKind.signed]; omega
      have i2 : ¬ ((1024 : Int) < (n : Int)) := by omega
      have FN : Hid (fldN n = ⟨numB n, true⟩) := by show _ = _; unfold fldN; rw [decide_eq_true h1024]
      have HN : Hid (n ≤ 1024) := h1024
      clear h hB hl hlt BAD
      go_enter Tryz.func68, Tryz.ntmps68
      go_wp2_with fail
      go_region_law (first
        | (go_simp; go_at_call 82; refine CI.out.mono ?_; rintro e w1 ⟨y, rfl, hown, hb⟩; obtain ⟨a, c, rfl, q⟩ := sq_of_row rfl WF.out hown; have C1 : w1.cell? ⟨W, 0, none⟩ = some (.slice av nv cv) := (hb.cell (p := ⟨W, 0, none⟩) LT.out).trans c0; have QQ := hide q; have BB : Hid (Below w.heap.size w w1) := ⟨hb.os, hb.tape, hb.output, hb.size, hb.block⟩; clear q hb hown)
        | (refine step_append_home _ (by rfl) (.tmp 30) (.tmp 33) (by rfl) B (.slice av nv cv) nv xs (by rfl) (ROW.out _ BB.out) a (numB n).length c (numB n) (by rfl) QQ.out NN.out (Nat.le_trans HB.out BB.out.size) ?_; intro a2 cp2 w2 hown2 hgrow2 hho2; have VM := hide (vst_more (H1.out _ BB.out) WF.out 10 NL.out hL hgrow2 hho2 HL.out hown2); clear hown2 hgrow2 hho2; have d0 := VM.out.2.2.1; have g0 := VM.out.2.2.2))
      all_goals (go_wp2_with fail; go_ret; exact ⟨n, rfl, (stq_below BB.out LT.out).trans VM.out.2.1, .inl ⟨rfl, HN.out, by rw [FN.out]; exact ⟨_, _, _, VM.out.1⟩⟩⟩)
    · have i2 : (1024 : Int) < (n : Int) := by omega
      have HN : Hid (1024 < n) := by show _ < _; omega
      clear h hB
      go_enter Tryz.func68, Tryz.ntmps68
      go_wp2_with fail
      go_ret
      exact ⟨0, rfl, (BAD.out (fs ++ fldN n :: []) (okAll_fit (by unfold fldN; simp; have := HN.out; omega))).2, .inr ⟨rfl, .inr HN.out, fun gs hg => WD.out _ _ ⟨_, _, _, (BAD.out gs hg).1⟩⟩⟩
theorem vmore_any {w : World} {B W L : Nat} {fs : List Fld} (h : VS w B W L fs) :
    Calls Tryz.prog 69 #[.pointer (some ⟨W, 0, none⟩)] w fun e w' => e = .returned (.bool (okAll fs)) ∧ w' = w := by
  obtain ⟨v, xs, long, h⟩ := h
  obtain ⟨av, nv, cv, ev, hl⟩ : ∃ av nv cv, v = .slice av nv cv ∧ nv = xs.length := by
    obtain ⟨h1, ⟨h2, h3⟩ | ⟨g, cp, cur, h2, h3⟩⟩ := h.row
    · exact ⟨none, 0, 0, h2, by omega⟩
    · exact ⟨_, _, _, h2, rfl⟩
  subst ev
  have c0 := h.c0
  have c1 := h.c1
  have c2 := h.c2
  cases long with
  | true =>
    have NO : Hid (okAll fs = false) := by
      cases e : okAll fs with
      | false => rfl
      | true => exact absurd (h.some_ok e).1 (by simp)
    clear h hl
    go_enter Tryz.func69, Tryz.ntmps69
    go_wp2_with fail
    go_ret
    rw [NO.out]
    exact ⟨rfl, rfl⟩
  | false =>
    by_cases hle : nv ≤ 65536
    · have YES : Hid (okAll fs = true) := by
        cases e : okAll fs with
        | true => rfl
        | false =>
          rcases h.some_no e with h5 | h5
          · cases h5
          · omega
      have i1 : (nv : Int) ≤ 65536 := by omega
      clear h hl
      go_enter Tryz.func69, Tryz.ntmps69
      go_wp2_with fail
      go_ret
      rw [YES.out]
      exact ⟨rfl, rfl⟩
    · have NO : Hid (okAll fs = false) := by
        cases e : okAll fs with
        | false => rfl
        | true => have h5 := okAll_le e; rw [← (h.some_ok e).2] at h5; omega
      have i1 : ¬ ((nv : Int) ≤ 65536) := by omega
      clear h hl
      go_enter Tryz.func69, Tryz.ntmps69
      go_wp2_with fail
      go_ret
      rw [NO.out]
      exact ⟨rfl, rfl⟩
end Go.Proofs.YthklpkmdmkgjiaaGreat

namespace Go.Proofs.YthklpkmdmkgjiaaGreat
open Go.ChangeShapes Go.WideShapes Go.ChangeAt Go.RowKit B8 Cm Wm
set_option linter.unusedVariables false

theorem vanswer_any {w : World} {B W L : Nat} {fs : List Fld} {M o : Nat} {xs : List Atom} (h : VS w B W L fs) (hB : B ≤ w.heap.size) (hL : L + 40 ≤ 70368744177664) (hf : FlatAt w (Out (Wown W) M w) M o xs) (hr : Room w M o 4) (hk : xs.map Atom.k = [0, 0, 0, 0]) (hM : M < w.heap.size) (hS : ¬ Wown W w M) :
    Calls Tryz.prog 88 #[.pointer (some ⟨W, 0, none⟩), .pointer (some ⟨M, o, none⟩)] w fun e w' => e = .returned (.tuple #[]) ∧ VS w' B W (L + 40) (fs ++ flds xs) ∧ Stp (Wown W) M o (o + 4) w w' := by
  obtain ⟨s0, s1, rfl, k0, k1⟩ := List.map_eq_append_iff.1 (show _ = [0] ++ [0, 0, 0] from hk)
  obtain ⟨x, rfl, hx⟩ := one_atomv k0
  have f0 := hf.left
  have f1 : FlatAt w (Out (Wown W) M w) M (o + 1) s1 := by have := hf.right; simpa using this
  obtain ⟨v, hc, hv⟩ := flat_onev f0
  obtain ⟨rfl, z0, z1⟩ := atom_int hv hx
  have hb0 : Below w.heap.size w (w.alloc (.cells #[.int .i64 x.z] 3)) := below_alloc1 w _
  have st0 : Stq (Wown W) w (w.alloc (.cells #[.int .i64 x.z] 3)) := stq_below hb0 h.lt
  have cN : (w.alloc (.cells #[.int .i64 x.z] 3)).cell? ⟨w.heap.size, 0, none⟩ = some (.int .i64 x.z) := by simp
  have nN : ¬ Wown W (w.alloc (.cells #[.int .i64 x.z] 3)) w.heap.size := vown_new h (.cells #[.int .i64 x.z] 3)
  have ltN := World.block_lt_of_cell? _ _ cN
  refine (doc_answer (M := M) (o := o) (W := W) (z := x.z)
    (R0 := fun u => u = w)
    (R1 := fun N u => N = w.heap.size ∧ VS u B W (L + 10) (fs ++ [fldA x]) ∧ Stq (Wown W) (w.alloc (.cells #[.int .i64 x.z] 3)) u)
    (R2 := fun u => VS u B W (L + 10) (fs ++ [fldA x]) ∧ Stp (Wown W) M o (o + 1) w u)
    (R3 := fun u => VS u B W (L + 10 + 10 * 3) (fs ++ [fldA x] ++ flds s1) ∧ Stp (Wown W) M o (o + 4) w u)
    (fun u hu => by subst hu; exact hc)
    (fun u hu => by
      subst hu
      exact (vnum_any x.z z0 z1 (h.below hb0) (Nat.le_trans hB hb0.size) (by omega) cN nN).mono fun e w' ⟨h1, h2, h3⟩ => ⟨h1, rfl, by rw [fldA_int hx]; exact h2, h3⟩)
    (fun N u hu => by
      obtain ⟨rfl, hv, hs⟩ := hu
      have hst := st0.trans hs
      have eM := hst.block M hM hS
      have nM := hst.keep hM hS
      refine ⟨x.z, (World.cell?_of_block (w := w.alloc (.cells #[.int .i64 x.z] 3)) (a := ⟨w.heap.size, 0, none⟩) (hs.block _ ltN nN)).trans cN, ⟨_, (World.cell?_of_block (w := w) (a := ⟨M, o, none⟩) eM).trans hc⟩, (World.frozen?_of_block (w := w) (a := ⟨M, o, none⟩) eM).trans (hr 0 (by omega)).2, ?_, stp_set hst hM hS (fun v k hk => wown_far (fun e => nM (.inl e)) v k hk) _⟩
      obtain ⟨v, xs, long, hv⟩ := hv
      exact ⟨v, xs, long, hv.far nM _⟩)
    (fun u hu => (vnums_call (n := 3) hu.1 (Nat.le_trans hB hu.2.size) (by omega) (f1.step hu.2 (.inl (Nat.le_refl _))) ((hr.part (a := 1) (m := 3) (by omega)).step hu.2 (.inl (Nat.le_refl _))) k1 (Nat.lt_of_lt_of_le hM hu.2.size) (hu.2.keep hM hS) #[.pointer (some ⟨M, o + 1, none⟩), .pointer (some ⟨M, o + 2, none⟩), .pointer (some ⟨M, o + 3, none⟩)] 82 (fun j hj => match j, hj with | 0, _ => rfl | 1, _ => rfl | 2, _ => rfl)).mono fun e w' ⟨h1, h2, h3⟩ => ⟨h1, h2, (hu.2.wider (Nat.le_refl _) (by omega)).trans (h3.wider (by omega) (by omega))⟩)
    w rfl).mono fun e w' ⟨h1, h2, h3⟩ => ⟨h1, ?_, h3⟩
  have e : fs ++ [fldA x] ++ flds s1 = fs ++ flds ([x] ++ s1) := by rw [flds_append, List.append_assoc]; rfl
  rw [← e]
  exact h2.wide (by omega) (by omega)
theorem vmark_any {w : World} {B W L : Nat} {fs : List Fld} {M o : Nat} {xs : List Atom} (h : VS w B W L fs) (hB : B ≤ w.heap.size) (hL : L + 70 ≤ 70368744177664) (hf : FlatAt w (Out (Wown W) M w) M o xs) (hr : Room w M o 7) (hk : xs.map Atom.k = [0, 0, 2, 0, 0, 0, 0]) (hM : M < w.heap.size) (hS : ¬ Wown W w M) :
    Calls Tryz.prog 71 #[.pointer (some ⟨W, 0, none⟩), .pointer (some ⟨M, o, none⟩)] w fun e w' => e = .returned (.tuple #[]) ∧ VS w' B W (L + 70) (fs ++ flds xs) ∧ Stp (Wown W) M o (o + 7) w w' := by
  obtain ⟨s0, r0, rfl, k0, hk⟩ := List.map_eq_append_iff.1 (show _ = [0, 0] ++ [2, 0, 0, 0, 0] from hk)
  have l0 : s0.length = 2 := by have := congrArg List.length k0; simpa using this
  obtain ⟨s1, r1, rfl, k1, hk⟩ := List.map_eq_append_iff.1 (show _ = [2] ++ [0, 0, 0, 0] from hk)
  have l1 : s1.length = 1 := by have := congrArg List.length k1; simpa using this
  obtain ⟨s2, rfl⟩ : ∃ s, s = r1 := ⟨_, rfl⟩
  have k2 := hk
  have l2 : s2.length = 4 := by have := congrArg List.length k2; simpa using this
  have f0 := hf.left
  have g0 := hf.right
  rw [l0] at g0
  have f1 := g0.left
  have g1 := g0.right
  rw [l1, Nat.add_assoc] at g1
  simp only [Nat.reduceAdd] at g1
  have f2 := g1
  refine (doc_mark (M := M) (o := o) (W := W)
    (R0 := fun u => VS u B W (L + 0) (fs) ∧ Stp (Wown W) M o (o + 0) w u)
    (R1 := fun u => VS u B W (L + 20) (fs ++ flds s0) ∧ Stp (Wown W) M o (o + 2) w u)
    (R2 := fun u => VS u B W (L + 30) (fs ++ flds s0 ++ flds s1) ∧ Stp (Wown W) M o (o + 3) w u)
    (R3 := fun u => VS u B W (L + 70) (fs ++ flds s0 ++ flds s1 ++ flds s2) ∧ Stp (Wown W) M o (o + 7) w u)
    (fun u hu => (vnums_call hu.1 (Nat.le_trans hB hu.2.size) (le_room (a := 0) (b := 20) (by decide) hL) (f0.step hu.2 (.inl (Nat.le_refl _))) (Room.step (hr.part (a := 0) (m := 2) (by omega)) hu.2 (.inl (Nat.le_refl _))) k0 (Nat.lt_of_lt_of_le hM hu.2.size) (hu.2.keep hM hS) #[.pointer (some ⟨M, o, none⟩), .pointer (some ⟨M, o + 1, none⟩)] 82 (fun j hj => match j, hj with | 0, _ => rfl | 1, _ => rfl)).mono fun e w' ⟨h1, h2, h3⟩ => ⟨h1, h2.wide (le_sum _ _ _ _ (by decide)) (Nat.le_trans (Nat.add_le_add_left (by decide) _) hL), (hu.2.wider (Nat.le_refl _) (by omega)).trans (h3.wider (by omega) (by omega))⟩)
    (fun u hu => (vflag_call hu.1 (Nat.le_trans hB hu.2.size) (le_room (a := 20) (b := 10) (by decide) hL) (f1.step hu.2 (.inl (Nat.le_refl _))) (Room.step (hr.part (a := 2) (m := 1) (by omega)) hu.2 (.inl (Nat.le_refl _))) k1 (Nat.lt_of_lt_of_le hM hu.2.size) (hu.2.keep hM hS)).mono fun e w' ⟨h1, h2, h3⟩ => ⟨h1, h2.wide (le_sum _ _ _ _ (by decide)) (Nat.le_trans (Nat.add_le_add_left (by decide) _) hL), (hu.2.wider (Nat.le_refl _) (by omega)).trans (h3.wider (by omega) (by omega))⟩)
    (fun u hu => (vanswer_any hu.1 (Nat.le_trans hB hu.2.size) (le_room (a := 30) (b := 40) (by decide) hL) (f2.step hu.2 (.inl (Nat.le_refl _))) (Room.step (hr.part (a := 3) (m := 4) (by omega)) hu.2 (.inl (Nat.le_refl _))) k2 (Nat.lt_of_lt_of_le hM hu.2.size) (hu.2.keep hM hS)).mono fun e w' ⟨h1, h2, h3⟩ => ⟨h1, h2.wide (le_sum _ _ _ _ (by decide)) (Nat.le_trans (Nat.add_le_add_left (by decide) _) hL), (hu.2.wider (Nat.le_refl _) (by omega)).trans (h3.wider (by omega) (by omega))⟩)
    w ⟨h.wide (by omega) (by omega), Stp.refl _ _ _ _ _⟩).mono fun e w' ⟨h1, h2, h3⟩ => ⟨h1, ?_, h3⟩
  simpa only [flds_append, List.append_assoc] using h2
end Go.Proofs.YthklpkmdmkgjiaaGreat

namespace Go.Proofs.YthklpkmdmkgjiaaGreat
open Go.ChangeShapes Go.WideShapes Go.ChangeAt Go.RowKit B8 Cm Wm
set_option linter.unusedVariables false

theorem Vals.oneAt {w : World} {P : Nat → Prop} {cs : Array Value} {xs : List Atom} (h : Vals w P cs xs) (j : Nat) {v : Value} (hv : cs[j]? = some v) : v.oneCell' = true := by
  have hj : j < xs.length := by rw [← h.1]; exact (Array.getElem?_eq_some_iff.1 hv).1
  obtain ⟨u, h1, h2⟩ := h.2 j _ (List.getElem?_eq_getElem hj)
  rw [hv] at h1
  obtain rfl := Option.some.inj h1
  exact atomV_one h2
theorem VS.c1 {w : World} {B W L : Nat} {fs : List Fld} (h : VS w B W L fs) : w.cell? ⟨W, 1, none⟩ = some (.pointer none) := by obtain ⟨v, xs, long, h⟩ := h; exact h.c1
theorem flat_new {w : World} {B W L : Nat} {fs : List Fld} {P : Nat → Prop} {cs : Array Value} {xs : List Atom} (h : VS w B W L fs) (hv : Vals w P cs xs) (hP : ∀ b, P b → b < w.heap.size ∧ ¬ Wown W w b) (T : TypeId) :
    FlatAt (w.alloc (.cells cs T)) (Out (Wown W) w.heap.size (w.alloc (.cells cs T))) w.heap.size 0 xs := by
  have hb := below_alloc1 w (.cells cs T)
  have hq := stq_below hb h.lt
  exact flat_of_vals (heap_alloc_new w _) (hv.same fun b hb2 => ⟨⟨Nat.lt_of_lt_of_le (hP b hb2).1 hb.size, hq.keep (hP b hb2).1 (hP b hb2).2, by have := (hP b hb2).1; omega⟩, hb.block b (hP b hb2).1⟩)
theorem room_new (w : World) (cs : Array Value) (T : TypeId) (d : Nat) (hd : cs.size = d) : Room (w.alloc (.cells cs T)) w.heap.size 0 d := fun j hj => by
  have hrow : (w.alloc (.cells cs T)).heap[w.heap.size]? = some (.cells cs T (0, 0)) := heap_alloc_new w _
  exact ⟨⟨cs[j], by rw [cell_of_row _ _ _ _ _ _ hrow, Nat.zero_add]; exact Array.getElem?_eq_getElem (by omega)⟩, frozen_of_row _ _ _ _ _ hrow⟩

theorem le_step (L j D : Nat) : L + 10 + j * D + D ≤ L + 10 + (j + 1) * D := by rw [Nat.add_mul]; omega
theorem le_loop {L j D N : Nat} (hj : j + 1 ≤ 1024) (h : L + 10 + 1024 * D ≤ N) : L + 10 + (j + 1) * D ≤ N := by have := Nat.mul_le_mul_right D hj; omega
theorem le_turn {L j D N : Nat} (hj : j + 1 ≤ 1024) (h : L + 10 + 1024 * D ≤ N) : L + 10 + j * D + D ≤ N := Nat.le_trans (le_step L j D) (le_loop hj h)
def VLoop (u : World) (B W L D : Nat) (fs : List Fld) (n k : Nat) (xss : List (List Atom)) (j : Nat) : Prop :=
  (k = n ∧ n ≤ 1024 ∧ VS u B W (L + 10 + j * D) (fs ++ fldN n :: ((xss.take j).map flds).flatten)) ∨ (k = 0 ∧ (okAll fs = false ∨ 1024 < n) ∧ VSbad u B W (L + 10))
section
variable {w u : World} {B W L D : Nat} {fs : List Fld} {n k j : Nat} {xss : List (List Atom)} {xs : List Atom}
theorem bad_fields (hn : okAll fs = false ∨ 1024 < n) (gs : List Fld) : okAll (fs ++ fldN n :: gs) = false := by
  rcases hn with hn | hn
  · exact okAll_left _ _ hn
  · exact okAll_fit (by unfold fldN; simp; omega)
theorem ManyV.c1 (h : ManyV w B W L fs n k u) : u.cell? ⟨W, 1, none⟩ = some (.pointer none) := by
  rcases h.2 with ⟨_, _, h⟩ | ⟨_, h1, h⟩
  · exact h.c1
  · exact (h _ (bad_fields h1 [])).c1
theorem ManyV.le (h : ManyV w B W L fs n k u) : k ≤ n ∧ k ≤ 1024 := by
  rcases h.2 with ⟨rfl, h, _⟩ | ⟨rfl, _, _⟩
  · exact ⟨Nat.le_refl _, h⟩
  · exact ⟨Nat.zero_le _, Nat.zero_le _⟩
theorem ManyV.start (h : ManyV w B W L fs n k u) (D : Nat) (xss : List (List Atom)) : VLoop u B W L D fs n k xss 0 := by
  rcases h.2 with ⟨h1, h2, h3⟩ | h
  · exact .inl ⟨h1, h2, by simpa using h3⟩
  · exact .inr h
theorem VLoop.good (h : VLoop u B W L D fs n k xss j) (hj : j < k) : k = n ∧ n ≤ 1024 ∧ VS u B W (L + 10 + j * D) (fs ++ fldN n :: ((xss.take j).map flds).flatten) := by
  rcases h with h | ⟨h, _⟩
  · exact h
  · omega
theorem VLoop.next (hk : k = n) (hn : n ≤ 1024) (hx : xss[j]? = some xs) {L1 : Nat} (h : VS u B W L1 (fs ++ fldN n :: ((xss.take j).map flds).flatten ++ flds xs)) (hl : L1 ≤ L + 10 + (j + 1) * D) (hr : L + 10 + (j + 1) * D ≤ 70368744177664) : VLoop u B W L D fs n k xss (j + 1) := by
  refine .inl ⟨hk, hn, ?_⟩
  have e : xss.take (j + 1) = xss.take j ++ [xs] := by rw [List.take_add_one, hx]; rfl
  rw [e, List.map_append, List.flatten_append]
  have h' := h.wide (L' := L + 10 + (j + 1) * D) hl hr
  simpa using h'
theorem VLoop.stop (hl : xss.length = n) (h : VS u B W (L + 10 + j * D) (fs ++ fldN n :: ((xss.take j).map flds).flatten)) (ho : okAll (fs ++ fldN n :: ((xss.take j).map flds).flatten) = false) (hj : L + 10 + j * D ≤ L + 10 + 1024 * D) (hr : L + 10 + 1024 * D ≤ 70368744177664) : VS u B W (L + 10 + 1024 * D) (fs ++ listF flds xss) := by
  refine (h.bad ho _ ?_).wide hj hr
  unfold listF
  rw [hl]
  have e : (xss.map flds).flatten = ((xss.take j).map flds).flatten ++ ((xss.drop j).map flds).flatten := by rw [← List.flatten_append, ← List.map_append, List.take_append_drop]
  rw [e, ← List.cons_append, ← List.append_assoc]
  exact okAll_left _ _ ho
theorem VLoop.done (h : VLoop u B W L D fs n k xss k) (hl : xss.length = n) (hr : L + 10 + 1024 * D ≤ 70368744177664) : VS u B W (L + 10 + 1024 * D) (fs ++ listF flds xss) := by
  unfold listF
  rw [hl]
  rcases h with ⟨rfl, hn, h⟩ | ⟨rfl, hn, h⟩
  · rw [List.take_of_length_le (by omega)] at h
    exact h.wide (by have := Nat.mul_le_mul_right D hn; omega) hr
  · exact (h _ (bad_fields hn _)).wide (by omega) hr
end
end Go.Proofs.YthklpkmdmkgjiaaGreat
