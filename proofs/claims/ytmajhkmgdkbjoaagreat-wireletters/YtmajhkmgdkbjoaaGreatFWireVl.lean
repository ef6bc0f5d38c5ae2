/- The document's walk as it writes: how many there are; may it go on. No condition but the size. -/
import Derived.Test.YtmajhkmgdkbjoaaGreatJL
import Derived.Test.YtmajhkmgdkbjoaaGreatFWireLs
namespace Go.Proofs.YtmajhkmgdkbjoaaGreat
open Go.ChangeShapes Go.WideShapes Go.ChangeAt Go.RowKit B8 Cm Wm
set_option linter.unusedVariables false

def VSbad (w : World) (B W L : Nat) : Prop := ∀ gs, okAll gs = false → VS w B W L gs
theorem VS.bad {w : World} {B W L : Nat} {fs : List Fld} (h : VS w B W L fs) (ho : okAll fs = false) : VSbad w B W L := fun gs hg => by
  obtain ⟨v, xs, long, h⟩ := h
  exact ⟨v, xs, long, h.c0, h.c1, h.c2, h.f0, h.f2, h.row, h.wf, fun e => absurd e (by rw [hg]; simp), fun _ => h.some_no ho, h.apart, h.size, h.room, h.home⟩
/-- so many are gone over, behind their number; or none, as it may not be written -/
def ManyV (w : World) (B W L : Nat) (fs : List Fld) (n k : Nat) (w' : World) : Prop := Stq (Wown W) w w' ∧ ((k = n ∧ n ≤ 1024 ∧ VS w' B W (L + 10) (fs ++ [fldN n])) ∨ (k = 0 ∧ (okAll fs = false ∨ 1024 < n) ∧ VSbad w' B W (L + 10)))
set_option maxRecDepth 100000 in
set_option maxHeartbeats 2000000 in
theorem vmany_any {w : World} {B W L : Nat} {fs : List Fld} (n : Nat) (hn : n ≤ 140737488355328) (h : VS w B W L fs) (hB : B ≤ w.heap.size) (hL : L + 10 ≤ 70368744177664) :
    Calls Tryz.prog 48 #[.pointer (some ⟨W, 0, none⟩), .int .i64 n] w fun e w' => ∃ k : Nat, e = .returned (.int .i64 k) ∧ ManyV w B W L fs n k w' := by
  obtain ⟨v, xs, long, h⟩ := h
  obtain ⟨av, nv, cv, ev, hl⟩ : ∃ av nv cv, v = .slice av nv cv ∧ nv = xs.length := by
    obtain ⟨h1, ⟨h2, h3⟩ | ⟨g, cp, cur, h2, h3⟩⟩ := h.row
    · exact ⟨none, 0, 0, h2, by omega⟩
    · exact ⟨_, _, _, h2, rfl⟩
  subst ev
  have hlt := World.block_lt_of_cell? w _ h.c0
  have c0 := h.c0
  have c1 := h.c1
  have c2 := h.c2
  have f0 := h.f0
  have f2 := h.f2
  have BAD : Hid (∀ gs, okAll gs = false → Vst (w.setCell ⟨W, 2, none⟩ (.bool true)) B W L gs (.slice av nv cv) xs true ∧ Stq (Wown W) w (w.setCell ⟨W, 2, none⟩ (.bool true))) := fun gs hg => h.bad gs hg
  have WD : Hid (∀ u gs, VS u B W L gs → VS u B W (L + 10) gs) := fun u gs hh => hh.wider (by omega) hL
  cases long with
  | true =>
    have NO : Hid (okAll fs = false) := by
      cases e : okAll fs with
      | false => rfl
      | true => exact absurd (h.some_ok e).1 (by simp)
    clear h hB
    go_enter Tryz.func48, Tryz.ntmps48
    go_wp2_with fail
    go_ret
    exact ⟨0, rfl, (BAD.out fs NO.out).2, .inr ⟨rfl, .inl NO.out, fun gs hg => WD.out _ _ ⟨_, _, _, (BAD.out gs hg).1⟩⟩⟩
  | false =>
    by_cases h1024 : n ≤ 1024
    · have CI := hide (refnum_any n w.drew (by omega))
      have WF := hide (cnumB_wfs n (by omega))
      have i1 : nv ≤ L := by rw [hl]; exact h.size
      have HB := hide hB
      have HL := hide hl
      have LT : Hid (W < w.heap.size) := hlt
      have NL := hide (numB_length n).2
      have ROW : Hid (∀ u, Below w.heap.size w u → u.ownsRow B 5 1 (.slice av nv cv) nv (vals xs)) := fun u hb => by have := row_below h.row hb; rw [← hl] at this; exact this
      have H1 : Hid (∀ u, Below w.heap.size w u → Vst u B W L fs (.slice av nv cv) xs false) := fun u hb => h.later hb
      have NN : Hid (nv + (numB n).length ≤ 140737488355328) := by show _ ≤ _; have := NL.out; omega
      have hcv : IntKind.u64.wrap (n : Int) = (n : Int) := by simp [IntKind.wrap, IntKind.bits, IntKind.signed]; omega
      have i2 : ¬ ((1024 : Int) < (n : Int)) := by omega
      have FN : Hid (fldN n = ⟨numB n, true⟩) := by show _ = _; unfold fldN; rw [decide_eq_true h1024]
      have HN : Hid (n ≤ 1024) := h1024
      clear h hB hl hlt BAD
      go_enter Tryz.func48, Tryz.ntmps48
      go_wp2_with fail
      go_region_law (first
        | (go_simp; go_at_call 61; refine CI.out.mono ?_; rintro e w1 ⟨y, rfl, hown, hb⟩; obtain ⟨a, c, rfl, q⟩ := sq_of_row rfl WF.out hown; have C1 : w1.cell? ⟨W, 0, none⟩ = some (.slice av nv cv) := (hb.cell (p := ⟨W, 0, none⟩) LT.out).trans c0; have QQ := hide q; have BB : Hid (Below w.heap.size w w1) := ⟨hb.os, hb.tape, hb.output, hb.size, hb.block⟩; clear q hb hown)
        | (refine step_append_home _ (by rfl) (.tmp 30) (.tmp 33) (by rfl) B (.slice av nv cv) nv xs (by rfl) (ROW.out _ BB.out) a (numB n).length c (numB n) (by rfl) QQ.out NN.out (Nat.le_trans HB.out BB.out.size) ?_; intro a2 cp2 w2 hown2 hgrow2 hho2; have VM := hide (vst_more (H1.out _ BB.out) WF.out 10 NL.out hL hgrow2 hho2 HL.out hown2); clear hown2 hgrow2 hho2; have d0 := VM.out.2.2.1; have g0 := VM.out.2.2.2))
      all_goals (go_wp2_with fail; go_ret; exact ⟨n, rfl, (stq_below BB.out LT.out).trans VM.out.2.1, .inl ⟨rfl, HN.out, by rw [FN.out]; exact ⟨_, _, _, VM.out.1⟩⟩⟩)
    · have i2 : (1024 : Int) < (n : Int) := by omega
      have HN : Hid (1024 < n) := by show _ < _; omega
      clear h hB
      go_enter Tryz.func48, Tryz.ntmps48
      go_wp2_with fail
      go_ret
      exact ⟨0, rfl, (BAD.out (fs ++ fldN n :: []) (okAll_fit (by unfold fldN; simp; have := HN.out; omega))).2, .inr ⟨rfl, .inr HN.out, fun gs hg => WD.out _ _ ⟨_, _, _, (BAD.out gs hg).1⟩⟩⟩
theorem vmore_any {w : World} {B W L : Nat} {fs : List Fld} (h : VS w B W L fs) :
    Calls Tryz.prog 49 #[.pointer (some ⟨W, 0, none⟩)] w fun e w' => e = .returned (.bool (okAll fs)) ∧ w' = w := by
  obtain ⟨v, xs, long, h⟩ := h
  obtain ⟨av, nv, cv, ev, hl⟩ : ∃ av nv cv, v = .slice av nv cv ∧ nv = xs.length := by
    obtain ⟨h1, ⟨h2, h3⟩ | ⟨g, cp, cur, h2, h3⟩⟩ := h.row
    · exact ⟨none, 0, 0, h2, by omega⟩
    · exact ⟨_, _, _, h2, rfl⟩
  subst ev
  have c0 := h.c0
  have c1 := h.c1
  have c2 := h.c2
  cases long with
  | true =>
    have NO : Hid (okAll fs = false) := by
      cases e : okAll fs with
      | false => rfl
      | true => exact absurd (h.some_ok e).1 (by simp)
    clear h hl
    go_enter Tryz.func49, Tryz.ntmps49
    go_wp2_with fail
    go_ret
    rw [NO.out]
    exact ⟨rfl, rfl⟩
  | false =>
    by_cases hle : nv ≤ 65536
    · have YES : Hid (okAll fs = true) := by
        cases e : okAll fs with
        | true => rfl
        | false =>
          rcases h.some_no e with h5 | h5
          · cases h5
          · omega
      have i1 : (nv : Int) ≤ 65536 := by omega
      clear h hl
      go_enter Tryz.func49, Tryz.ntmps49
      go_wp2_with fail
      go_ret
      rw [YES.out]
      exact ⟨rfl, rfl⟩
    · have NO : Hid (okAll fs = false) := by
        cases e : okAll fs with
        | false => rfl
        | true => have h5 := okAll_le e; rw [← (h.some_ok e).2] at h5; omega
      have i1 : ¬ ((nv : Int) ≤ 65536) := by omega
      clear h hl
      go_enter Tryz.func49, Tryz.ntmps49
      go_wp2_with fail
      go_ret
      rw [NO.out]
      exact ⟨rfl, rfl⟩
end Go.Proofs.YtmajhkmgdkbjoaaGreat
