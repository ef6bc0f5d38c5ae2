/- The document's walk as it writes: what stays, what one field more makes of it. No condition but the size. The document's walk as it writes: a flag, bytes, a string, a count, a uint32, ints; may it go on; its end. No condition but the size. The document's walk as it writes: a string, ints. No condition but the size. What the document's walk writes of the things whose fields are plain. No condition but the size. -/
import Derived.Test.YthklpkmdmkgjiaaGreatJH
import Derived.Test.YthklpkmdmkgjiaaGreatJC
import Derived.Deep.RegionHeld3
import Derived.Deep.Cut
import Derived.Test.YthklpkmdmkgjiaaGreatJK
namespace Go.Proofs.YthklpkmdmkgjiaaGreat
open Go.ChangeShapes Go.WideShapes Go.ChangeAt Go.RowKit B8 Cm Wm
set_option linter.unusedVariables false

/-- the document's walk at W, which writes: its bytes in memory of its own from B on, at most L of them, behind the fields fs -/
structure Vst (w : World) (B W L : Nat) (fs : List Fld) (v : Value) (xs : List Int) (long : Bool) : Prop where
  c0 : w.cell? ⟨W, 0, none⟩ = some v
  c1 : w.cell? ⟨W, 1, none⟩ = some (.pointer none)
  c2 : w.cell? ⟨W, 2, none⟩ = some (.bool long)
  f0 : w.frozen? ⟨W, 0, none⟩ = false
  f2 : w.frozen? ⟨W, 2, none⟩ = false
  row : w.ownsRow B 5 1 v xs.length (vals xs)
  wf : wfs xs
  some_ok : okAll fs = true → long = false ∧ xs = bytesOf fs
  some_no : okAll fs = false → long = true ∨ 65536 < xs.length
  apart : v.ownBlock ≠ some W
  size : xs.length ≤ L
  room : L ≤ 70368744177664
  home : B ≤ W
def VS (w : World) (B W L : Nat) (fs : List Fld) : Prop := ∃ v xs long, Vst w B W L fs v xs long

section
variable {w w1 : World} {B W L : Nat} {fs : List Fld}
theorem VS.lt (h : VS w B W L fs) : W < w.heap.size := by obtain ⟨v, xs, long, h⟩ := h; exact World.block_lt_of_cell? w _ h.c0
theorem VS.below (h : VS w B W L fs) (hb : Below w.heap.size w w1) : VS w1 B W L fs := by
  have hl := h.lt
  obtain ⟨v, xs, long, h⟩ := h
  exact ⟨v, xs, long, (hb.cell (p := ⟨W, 0, none⟩) hl).trans h.c0, (hb.cell (p := ⟨W, 1, none⟩) hl).trans h.c1, (hb.cell (p := ⟨W, 2, none⟩) hl).trans h.c2, (hb.frozen (p := ⟨W, 0, none⟩) hl).trans h.f0, (hb.frozen (p := ⟨W, 2, none⟩) hl).trans h.f2, row_below h.row hb, h.wf, h.some_ok, h.some_no, h.apart, h.size, h.room, h.home⟩
theorem VS.base (h : VS w B W L fs) : ∀ k, Wown W w k → B ≤ k ∧ k < w.heap.size := by
  have hl := h.lt
  obtain ⟨v, xs, long, h⟩ := h
  intro k hk
  rcases hk with rfl | ⟨u, h1, h2⟩
  · exact ⟨h.home, hl⟩
  · rw [h.c0] at h1
    obtain rfl := Option.some.inj h1
    exact h.row.lt k h2
theorem VS.wider {L' : Nat} (h : VS w B W L fs) (hL : L ≤ L') (hr : L' ≤ 70368744177664) : VS w B W L' fs := by
  obtain ⟨v, xs, long, h⟩ := h
  exact ⟨v, xs, long, h.c0, h.c1, h.c2, h.f0, h.f2, h.row, h.wf, h.some_ok, h.some_no, h.apart, Nat.le_trans h.size hL, hr, h.home⟩
end

/-- behind an append of bytes to what is written -/
theorem vst_more {w w1 : World} {B W L : Nat} {fs : List Fld} {v v' : Value} {xs bs : List Int} {long : Bool} (h : Vst w B W L fs v xs long) (hw : wfs bs) (k : Nat) (hk : bs.length ≤ k) (hr : L + k ≤ 70368744177664)
    (hg : w.grownBy w1 v.ownBlock) (ho : v'.ownBlock = v.ownBlock ∨ v'.ownBlock = some w.heap.size) {nv : Nat} (hnv : nv = xs.length) (hown : w1.ownsRow B 5 1 v' (nv + bs.length) (vals (xs ++ bs))) :
    Vst (w1.setCell ⟨W, 0, none⟩ v') B W (L + k) (fs ++ [⟨bs, true⟩]) v' (xs ++ bs) long ∧ Stq (Wown W) w (w1.setCell ⟨W, 0, none⟩ v') ∧ w1.cell? ⟨W, 0, none⟩ = some v ∧ w1.frozen? ⟨W, 0, none⟩ = false := by
  have hne : some W ≠ v.ownBlock := fun e => h.apart e.symm
  have hlt := World.block_lt_of_cell? w _ h.c0
  have c0 := hg.cell h.c0 hne
  have c1 := hg.cell h.c1 hne
  have c2 := hg.cell h.c2 hne
  have fz : ∀ o, w1.frozen? ⟨W, o, none⟩ = w.frozen? ⟨W, o, none⟩ := fun o => World.frozen?_of_block (w := w) (hg.block W hlt hne)
  have ap : v'.ownBlock ≠ some W := by
    rcases ho with e | e
    · rw [e]; exact h.apart
    · rw [e]; intro e2; simp at e2; have : W < w.heap.size := hlt; omega
  refine ⟨⟨World.cell?_setCell_same _ _ _ c0, ?_, ?_, ?_, ?_, ?_, wfs_append h.wf hw, fun e => ?_, fun e => ?_, ap, ?_, hr, h.home⟩, wown_put h.c0 c0 hg ho, c0, (fz 0).trans h.f0⟩
  · rw [World.cell?_setCell_other _ _ _ _ (by simp)]; exact c1
  · rw [World.cell?_setCell_other _ _ _ _ (by simp)]; exact c2
  · rw [World.frozen?_setCell]; exact (fz 0).trans h.f0
  · rw [World.frozen?_setCell]; exact (fz 2).trans h.f2
  · rw [List.length_append, ← hnv]; exact hown.kept (grown_setCell w1 W 0 _) (.inr ap)
  · rw [okAll_snoc] at e
    simp at e
    obtain ⟨h1, h2⟩ := h.some_ok e.1
    exact ⟨h1, by rw [bytesOf_append, bytesOf_one, h2]⟩
  · rw [okAll_snoc] at e
    cases ho2 : okAll fs with
    | false =>
      rcases h.some_no ho2 with h1 | h1
      · exact .inl h1
      · exact .inr (by rw [List.length_append]; omega)
    | true =>
      obtain ⟨h1, h2⟩ := h.some_ok ho2
      rw [ho2] at e
      simp at e
      exact .inr (by rw [List.length_append, h2]; omega)
  · rw [List.length_append]; have := h.size; omega

/-- append as a step of a region that draws its order: the new row lies where the old one lay, or in a new block -/
theorem step_append_home {ops : Array Oper} {o : Oper} {act : Act} {K : Act → World → Prop} {Q : Exit → Act → World → Prop} {E : Prop} (w : World) (hg : o.guard = none) (s x : Operand)
    (hop : o.op = Op.call { callee := Callee.builtin Builtin.append, args := #[s, x], argTypes := #[29, 29] })
    (B : Nat) (v : Value) (n : Nat) (zs : List Int) (hs : act.eval s = v) (hown : w.ownsRow B 5 1 v n (vals zs))
    (a : Option Addr) (m c : Nat) (bs : List Int) (hx : act.eval x = .slice a m c) (hsq : Sq w a m c bs) (hr : n + m ≤ 140737488355328) (hB : B ≤ w.heap.size)
    (hK : ∀ a' cp' w', w'.ownsRow B 5 1 (.slice a' (n + m) cp') (n + m) (vals (zs ++ bs)) → w.grownBy w' v.ownBlock → ((Value.slice a' (n + m) cp').ownBlock = v.ownBlock ∨ (Value.slice a' (n + m) cp').ownBlock = some w.heap.size) → K (act.put o.dst (.slice a' (n + m) cp')) w') :
    if Region.wanted o (yielded ops act.tmps) = true then Oper.wp Tryz.prog o act w K Q else E := by
  have hw : Region.wanted o (yielded ops act.tmps) = true := by simp [Region.wanted, hg]
  rw [if_pos hw]
  obtain ⟨v', w', hr, h2, h3, h4⟩ := run_append_sq w o.type B v n zs hown a m c bs hsq (by omega) hB
  obtain ⟨a', cp', ev⟩ : ∃ a' cp', v' = .slice a' (n + m) cp' := by
    obtain ⟨_, ⟨h5, h6⟩ | ⟨g, cp, cur, h5, h6⟩⟩ := h2
    · exact ⟨none, 0, by rw [h5, h6]⟩
    · exact ⟨_, _, h5⟩
  subst ev
  unfold Oper.wp execOp
  simp only [hop, resolve, invoke, builtin, Sem.run_bind, Sem.run_pure, Result.andThen_ok, List.map_toArray, List.map_cons, List.map_nil, hs, hx, hr]
  exact hK a' cp' w' h2 h3 h4

set_option maxRecDepth 100000 in
set_option maxHeartbeats 2000000 in
theorem vnum_any {w : World} {B W L : Nat} {fs : List Fld} {M o : Nat} (z : Int) (z0 : -9223372036854775808 ≤ z) (z1 : z ≤ 9223372036854775807) (h : VS w B W L fs) (hB : B ≤ w.heap.size) (hL : L + 10 ≤ 70368744177664) (hc : w.cell? ⟨M, o, none⟩ = some (.int .i64 z)) (hM : ¬ Wown W w M) :
    Calls Tryz.prog 47 #[.pointer (some ⟨W, 0, none⟩), .pointer (some ⟨M, o, none⟩)] w fun e w' => e = .returned (.tuple #[]) ∧ VS w' B W (L + 10) (fs ++ [⟨numB (zig z), true⟩]) ∧ Stq (Wown W) w w' := by
  obtain ⟨v, xs, long, h⟩ := h
  obtain ⟨av, nv, cv, ev, hl⟩ : ∃ av nv cv, v = .slice av nv cv ∧ nv = xs.length := by
    obtain ⟨h1, ⟨h2, h3⟩ | ⟨g, cp, cur, h2, h3⟩⟩ := h.row
    · exact ⟨none, 0, 0, h2, by omega⟩
    · exact ⟨_, _, _, h2, rfl⟩
  subst ev
  have hlt := World.block_lt_of_cell? w _ h.c0
  have hlm := World.block_lt_of_cell? w _ hc
  have CI := hide (refint_any z w.drew z0 z1)
  have WF := hide (cnumB_wfs (zig z) (zig_lt z z0 z1))
  have c0 := h.c0
  have c1 := h.c1
  have f0 := h.f0
  have H := hide h
  have HB := hide hB
  have HL := hide hl
  have i1 : nv ≤ L := by rw [hl]; exact h.size
  have LT : Hid (W < w.heap.size ∧ M < w.heap.size) := ⟨hlt, hlm⟩
  have NL := hide (numB_length (zig z)).2
  have ROW : Hid (∀ u, Below w.heap.size w u → u.ownsRow B 5 1 (.slice av nv cv) nv (vals xs)) := fun u hb => by have := row_below h.row hb; rw [← hl] at this; exact this
  have H1 : Hid (∀ u, Below w.heap.size w u → Vst u B W L fs (.slice av nv cv) xs long) := fun u hb => ⟨(hb.cell (p := ⟨W, 0, none⟩) hlt).trans h.c0, (hb.cell (p := ⟨W, 1, none⟩) hlt).trans h.c1, (hb.cell (p := ⟨W, 2, none⟩) hlt).trans h.c2, (hb.frozen (p := ⟨W, 0, none⟩) hlt).trans h.f0, (hb.frozen (p := ⟨W, 2, none⟩) hlt).trans h.f2, row_below h.row hb, h.wf, h.some_ok, h.some_no, h.apart, h.size, h.room, h.home⟩
  have NN : Hid (nv + (numB (zig z)).length ≤ 140737488355328) := by show _ ≤ _; have := NL.out; omega
  clear h hB hl hM hlt hlm
  go_enter Tryz.func47, Tryz.ntmps47
  go_wp2_with fail
  go_region_law (first
    | (go_simp; go_at_call 66; refine CI.out.mono ?_; rintro e w1 ⟨y, rfl, hown, hb⟩; obtain ⟨a, c, rfl, q⟩ := sq_of_row rfl WF.out hown; have C1 : w1.cell? ⟨W, 0, none⟩ = some (.slice av nv cv) := (hb.cell (p := ⟨W, 0, none⟩) LT.out.1).trans c0; have QQ := hide q; have BB : Hid (Below w.heap.size w w1) := ⟨hb.os, hb.tape, hb.output, hb.size, hb.block⟩; clear q hb hown)
    | (refine step_append_home _ (by rfl) (.tmp 13) (.tmp 17) (by rfl) B (.slice av nv cv) nv xs (by rfl) (ROW.out _ BB.out) a (numB (zig z)).length c (numB (zig z)) (by rfl) QQ.out NN.out (Nat.le_trans HB.out BB.out.size) ?_; intro a2 cp2 w2 hown2 hgrow2 hho2; have VM := hide (vst_more (H1.out _ BB.out) WF.out 10 NL.out hL hgrow2 hho2 HL.out hown2); clear hown2 hgrow2 hho2; have d0 := VM.out.2.2.1; have g0 := VM.out.2.2.2))
  all_goals (go_wp2_with fail; refine bodyPost_ret (results_none rfl _ _ _) rfl ?_; exact ⟨rfl, ⟨_, _, _, VM.out.1⟩, (stq_below BB.out LT.out.1).trans VM.out.2.1⟩)
end Go.Proofs.YthklpkmdmkgjiaaGreat

namespace Go.Proofs.YthklpkmdmkgjiaaGreat
open Go.ChangeShapes Go.WideShapes Go.ChangeAt Go.RowKit B8 Cm Wm
set_option linter.unusedVariables false

theorem Vst.later {w u : World} {B W L : Nat} {fs : List Fld} {v : Value} {xs : List Int} {long : Bool} (h : Vst w B W L fs v xs long) (hb : Below w.heap.size w u) : Vst u B W L fs v xs long := by
  have hl := World.block_lt_of_cell? w _ h.c0
  exact ⟨(hb.cell (p := ⟨W, 0, none⟩) hl).trans h.c0, (hb.cell (p := ⟨W, 1, none⟩) hl).trans h.c1, (hb.cell (p := ⟨W, 2, none⟩) hl).trans h.c2, (hb.frozen (p := ⟨W, 0, none⟩) hl).trans h.f0, (hb.frozen (p := ⟨W, 2, none⟩) hl).trans h.f2, row_below h.row hb, h.wf, h.some_ok, h.some_no, h.apart, h.size, h.room, h.home⟩
/-- Long is set -/
theorem Vst.bad {w : World} {B W L : Nat} {fs : List Fld} {v : Value} {xs : List Int} {long : Bool} (h : Vst w B W L fs v xs long) (gs : List Fld) (hn : okAll gs = false) : Vst (w.setCell ⟨W, 2, none⟩ (.bool true)) B W L gs v xs true ∧ Stq (Wown W) w (w.setCell ⟨W, 2, none⟩ (.bool true)) := by
  refine ⟨⟨?_, ?_, World.cell?_setCell_same _ _ _ h.c2, by simpa using h.f0, by simpa using h.f2, h.row.kept (grown_setCell w W 2 _) (.inr h.apart), h.wf, fun h' => absurd h' (by rw [hn]; simp), fun _ => .inl rfl, h.apart, h.size, h.room, h.home⟩, rfl, rfl, rfl, by simp [World.setCell], fun k hk hs => Below.heap_setCell _ _ _ _ (fun e => hs (.inl e)), fun k hk => ?_⟩
  · rw [World.cell?_setCell_other _ _ _ _ (by simp)]; exact h.c0
  · rw [World.cell?_setCell_other _ _ _ _ (by simp)]; exact h.c1
  · refine .inl ?_
    rcases hk with hk | ⟨u, h1, h2⟩
    · exact .inl hk
    · rw [World.cell?_setCell_other _ _ _ _ (by simp)] at h1
      exact .inr ⟨u, h1, h2⟩
theorem Vst.calm {w : World} {B W L : Nat} {fs : List Fld} {v : Value} {xs : List Int} (h : Vst w B W L fs v xs false) : Vst (w.setCell ⟨W, 2, none⟩ (.bool false)) B W L fs v xs false ∧ Stq (Wown W) w (w.setCell ⟨W, 2, none⟩ (.bool false)) := by
  refine ⟨⟨?_, ?_, World.cell?_setCell_same _ _ _ h.c2, by simpa using h.f0, by simpa using h.f2, h.row.kept (grown_setCell w W 2 _) (.inr h.apart), h.wf, h.some_ok, h.some_no, h.apart, h.size, h.room, h.home⟩, rfl, rfl, rfl, by simp [World.setCell], fun k hk hs => Below.heap_setCell _ _ _ _ (fun e => hs (.inl e)), fun k hk => ?_⟩
  · rw [World.cell?_setCell_other _ _ _ _ (by simp)]; exact h.c0
  · rw [World.cell?_setCell_other _ _ _ _ (by simp)]; exact h.c1
  · refine .inl ?_
    rcases hk with hk | ⟨u, h1, h2⟩
    · exact .inl hk
    · rw [World.cell?_setCell_other _ _ _ _ (by simp)] at h1
      exact .inr ⟨u, h1, h2⟩
theorem VS.wide {w : World} {B W L L' : Nat} {fs : List Fld} (h : VS w B W L fs) (hL : L ≤ L') (hr : L' ≤ 70368744177664) : VS w B W L' fs := h.wider hL hr

theorem vflag_any {w : World} {B W L : Nat} {fs : List Fld} {M o : Nat} (b : Bool) (h : VS w B W L fs) (hB : B ≤ w.heap.size) (hL : L + 10 ≤ 70368744177664) (hc : w.cell? ⟨M, o, none⟩ = some (.bool b)) :
    Calls Tryz.prog 45 #[.pointer (some ⟨W, 0, none⟩), .pointer (some ⟨M, o, none⟩)] w fun e w' => e = .returned (.tuple #[]) ∧ VS w' B W (L + 10) (fs ++ [⟨[if b then 1 else 0], true⟩]) ∧ Stq (Wown W) w w' := by
  obtain ⟨v, xs, long, h⟩ := h
  obtain ⟨av, nv, cv, ev, hl⟩ : ∃ av nv cv, v = .slice av nv cv ∧ nv = xs.length := by
    obtain ⟨h1, ⟨h2, h3⟩ | ⟨g, cp, cur, h2, h3⟩⟩ := h.row
    · exact ⟨none, 0, 0, h2, by omega⟩
    · exact ⟨_, _, _, h2, rfl⟩
  subst ev
  have hlt := World.block_lt_of_cell? w _ h.c0
  have c0 := h.c0
  have c1 := h.c1
  have f0 := h.f0
  have i1 : nv ≤ L := by rw [hl]; exact h.size
  have ROW : Hid (∀ u, Below w.heap.size w u → u.ownsRow B 5 1 (.slice av nv cv) nv (vals xs)) := fun u hb => by have := row_below h.row hb; rw [← hl] at this; exact this
  have H1 : Hid (∀ u, Below w.heap.size w u → Vst u B W L fs (.slice av nv cv) xs long) := fun u hb => h.later hb
  have LT : Hid (W < w.heap.size) := hlt
  have HL := hide hl
  have HB := hide hB
  clear h hB hl hlt
  cases b
  · have QQ := hide (sq_one w 0 (by omega))
    have BB := hide (below_alloc1 w (.cells #[.int .u8 0] 5))
    go_enter Tryz.func45, Tryz.ntmps45
    go_wp2_with (at_builtin; refine wp_append_home _ rfl (.tmp 24) (.tmp 26) rfl B (.slice av nv cv) nv xs rfl (ROW.out _ BB.out) (some ⟨w.heap.size, 0, none⟩) 1 1 [0] rfl QQ.out (by omega) (Nat.le_trans HB.out BB.out.size) ?_; intro a2 cp2 w2 hown2 hgrow2 hho2; have VM := hide (vst_more (H1.out _ BB.out) QQ.out.wf 10 (by simp) hL hgrow2 hho2 HL.out hown2); clear hown2 hgrow2 hho2; have d0 := VM.out.2.2.1; have g0 := VM.out.2.2.2)
    refine bodyPost_end (results_none rfl _ _ _) rfl ?_
    exact ⟨rfl, ⟨_, _, _, VM.out.1⟩, (stq_below BB.out LT.out).trans VM.out.2.1⟩
  · have QQ := hide (sq_one w 1 (by omega))
    have BB := hide (below_alloc1 w (.cells #[.int .u8 1] 5))
    go_enter Tryz.func45, Tryz.ntmps45
    go_wp2_with (at_builtin; refine wp_append_home _ rfl (.tmp 24) (.tmp 26) rfl B (.slice av nv cv) nv xs rfl (ROW.out _ BB.out) (some ⟨w.heap.size, 0, none⟩) 1 1 [1] rfl QQ.out (by omega) (Nat.le_trans HB.out BB.out.size) ?_; intro a2 cp2 w2 hown2 hgrow2 hho2; have VM := hide (vst_more (H1.out _ BB.out) QQ.out.wf 10 (by simp) hL hgrow2 hho2 HL.out hown2); clear hown2 hgrow2 hho2; have d0 := VM.out.2.2.1; have g0 := VM.out.2.2.2)
    refine bodyPost_end (results_none rfl _ _ _) rfl ?_
    exact ⟨rfl, ⟨_, _, _, VM.out.1⟩, (stq_below BB.out LT.out).trans VM.out.2.1⟩

set_option maxRecDepth 100000 in
set_option maxHeartbeats 2000000 in
theorem vbytes_any {w : World} {B W L : Nat} {fs : List Fld} {M o : Nat} {a : Option Addr} {n cp : Nat} {bs : List Int} (h : VS w B W L fs) (hB : B ≤ w.heap.size) (hL : L + 70000 ≤ 70368744177664) (hM : ¬ Wown W w M)
    (hc : w.cell? ⟨M, o, none⟩ = some (.slice a n cp)) (q : Sq w a n cp bs) (hn : n ≤ 140737488351232) (hP : ∀ b off, a = some ⟨b, off, none⟩ → 0 < n → ¬ Wown W w b ∧ b < w.heap.size) :
    Calls Tryz.prog 54 #[.pointer (some ⟨W, 0, none⟩), .pointer (some ⟨M, o, none⟩)] w fun e w' => e = .returned (.tuple #[]) ∧ VS w' B W (L + 70000) (fs ++ [⟨numB bs.length ++ bs, decide (bs.length ≤ 65535)⟩]) ∧ Stq (Wown W) w w' := by
  obtain ⟨v, xs, long, h⟩ := h
  obtain ⟨av, nv, cv, ev, hl⟩ : ∃ av nv cv, v = .slice av nv cv ∧ nv = xs.length := by
    obtain ⟨h1, ⟨h2, h3⟩ | ⟨g, cp, cur, h2, h3⟩⟩ := h.row
    · exact ⟨none, 0, 0, h2, by omega⟩
    · exact ⟨_, _, _, h2, rfl⟩
  subst ev
  have HLQ := hide q.length
  have c0 := h.c0
  have c1 := h.c1
  have c2 := h.c2
  have f2 := h.f2
  by_cases hy : long = false ∧ n ≤ 65535
  · obtain ⟨hlong, hn5⟩ := hy
    subst hlong
    have hd : decide ((65535 : Int) < (n : Int)) = false := by simp; omega
    obtain ⟨h', st⟩ := h.calm
    obtain ⟨u, eu⟩ : ∃ u, u = w.setCell ⟨W, 2, none⟩ (.bool false) := ⟨_, rfl⟩
    have EU := hide eu.symm
    rw [← eu] at h' st
    have hcu := st.cell hc hM
    have q' : Sq u a n cp bs := sq_same q (fun b off e h0 => st.block b (hP b off e h0).2 (hP b off e h0).1)
    have ci := reftext_sq (q'.drew 1) (by omega)
    have wf : wfs (textB bs) := wfs_append (cnumB_wfs _ (by rw [HLQ.out]; omega)) q.wf
    have nl : (textB bs).length ≤ 70000 := by unfold textB; rw [List.length_append, HLQ.out]; have := (numB_length n).2; omega
    have ets : numB bs.length ++ bs = textB bs := rfl
    obtain ⟨ts, et⟩ : ∃ ts, ts = textB bs := ⟨_, rfl⟩
    rw [← et] at ci wf nl ets
    have CI := hide ci
    have WF := hide wf
    have NL := hide nl
    have ETS := hide ets
    clear ci wf nl ets et
    have TD : Hid (decide (bs.length ≤ 65535) = true) := by show _ = _; rw [HLQ.out]; simpa using hn5
    have hlt := World.block_lt_of_cell? u _ h'.c0
    have LT : Hid (W < u.heap.size) := hlt
    have HB : Hid (B ≤ u.heap.size) := Nat.le_trans hB st.size
    have HL := hide hl
    have i1 : nv ≤ L := by rw [hl]; exact h.size
    have ROW : Hid (∀ x, Below u.heap.size u x → x.ownsRow B 5 1 (.slice av nv cv) nv (vals xs)) := fun x hb => by have := row_below h'.row hb; rw [← hl] at this; exact this
    have H1 : Hid (∀ x, Below u.heap.size u x → Vst x B W L fs (.slice av nv cv) xs false) := fun x hb => h'.later hb
    have NN : Hid (nv + ts.length ≤ 140737488355328) := by show _ ≤ _; have := NL.out; omega
    have HK := hide hL
    have ST := hide st
    have d2 := h'.c2
    have e0 := h'.c0
    have g0' := h'.f0
    clear h hl hlt h' st q q' hP hM hB eu
    go_enter Tryz.func54, Tryz.ntmps54
    go_upto_region 3 with fail
    rw [EU.out]
    clear EU c0 c1 c2 f2 hc
    have c0 := e0
    go_wp2_with fail
    go_region_law (first
      | (go_simp; go_at_call 76; refine CI.out.mono ?_; rintro e w1 ⟨y, rfl, hown, hb⟩; obtain ⟨a1, c1, rfl, q⟩ := sq_of_row rfl WF.out hown; have C1 : w1.cell? ⟨W, 0, none⟩ = some (.slice av nv cv) := (hb.cell (p := ⟨W, 0, none⟩) LT.out).trans c0; have QQ := hide q; have BB : Hid (Below u.heap.size u w1) := ⟨hb.os, hb.tape, hb.output, hb.size, hb.block⟩; clear q hb hown)
      | (refine step_append_home _ (by rfl) (.tmp 39) (.tmp 43) (by rfl) B (.slice av nv cv) nv xs (by rfl) (ROW.out _ BB.out) a1 (ts).length c1 (ts) (by rfl) QQ.out NN.out (Nat.le_trans HB.out BB.out.size) ?_; intro a2 cp2 w2 hown2 hgrow2 hho2; have VM := hide (vst_more (H1.out _ BB.out) WF.out 70000 NL.out HK.out hgrow2 hho2 HL.out hown2); clear hown2 hgrow2 hho2; have d0 := VM.out.2.2.1; have g0 := VM.out.2.2.2))
    all_goals (go_wp2_with fail; refine bodyPost_end (results_none rfl _ _ _) rfl ?_; rw [TD.out, ETS.out]; exact ⟨rfl, ⟨_, _, _, VM.out.1⟩, ST.out.trans ((stq_below BB.out LT.out).trans VM.out.2.1)⟩)
  · have hd : (long || decide ((65535 : Int) < (n : Int))) = true := by
      cases long with
      | true => rfl
      | false => simp; have h2 : ¬ n ≤ 65535 := fun h => hy ⟨rfl, h⟩; omega
    have BADN : okAll (fs ++ [⟨numB bs.length ++ bs, decide (bs.length ≤ 65535)⟩]) = false ∨ long = true := by
      cases long with
      | true => exact .inr rfl
      | false =>
        have h2 : ¬ bs.length ≤ 65535 := by rw [HLQ.out]; exact fun h => hy ⟨rfl, h⟩
        exact .inl (okAll_fit (gs := []) (by show decide _ = false; simpa using h2))
    obtain ⟨hb, st⟩ : Vst (w.setCell ⟨W, 2, none⟩ (.bool true)) B W (L + 70000) (fs ++ [⟨numB bs.length ++ bs, decide (bs.length ≤ 65535)⟩]) (.slice av nv cv) xs true ∧ Stq (Wown W) w (w.setCell ⟨W, 2, none⟩ (.bool true)) := by
      have hno : okAll (fs ++ [⟨numB bs.length ++ bs, decide (bs.length ≤ 65535)⟩]) = false := by
        rcases BADN with e | e
        · exact e
        · cases ho : okAll fs with
          | false => exact okAll_left _ _ ho
          | true => exact absurd (h.some_ok ho).1 (by rw [e]; simp)
      obtain ⟨x1, x2⟩ := h.bad _ hno
      exact ⟨⟨x1.c0, x1.c1, x1.c2, x1.f0, x1.f2, x1.row, x1.wf, x1.some_ok, x1.some_no, x1.apart, by have := x1.size; omega, hL, x1.home⟩, x2⟩
    have HBD := hide hb
    have ST := hide st
    have k2 : (w.setCell ⟨W, 2, none⟩ (.bool true)).cell? ⟨W, 2, none⟩ = some (.bool true) := hb.c2
    clear h hb st q hP hM hB BADN hy
    cases long
    · have hd' : decide ((65535 : Int) < (n : Int)) = true := by simpa using hd
      clear hd
      go_enter Tryz.func54, Tryz.ntmps54
      go_wp2_with fail
      refine bodyPost_end (results_none rfl _ _ _) rfl ?_
      exact ⟨rfl, ⟨_, _, _, HBD.out⟩, ST.out⟩
    · clear hd
      go_enter Tryz.func54, Tryz.ntmps54
      go_wp2_with fail
      refine bodyPost_end (results_none rfl _ _ _) rfl ?_
      exact ⟨rfl, ⟨_, _, _, HBD.out⟩, ST.out⟩

theorem vdone_any {w : World} {B W L : Nat} {fs : List Fld} (h : VS w B W L fs) :
    Calls Tryz.prog 16 #[.pointer (some ⟨W, 0, none⟩)] w fun e w' => ∃ a cp, e = .returned (.tuple #[.slice a (wBytes fs).length cp, .int .i64 (wErr fs)]) ∧ Sq w' a (wBytes fs).length cp (wBytes fs) ∧ w' = w := by
  obtain ⟨v, xs, long, h⟩ := h
  obtain ⟨av, nv, cv, ev, hl⟩ : ∃ av nv cv, v = .slice av nv cv ∧ nv = xs.length := by
    obtain ⟨h1, ⟨h2, h3⟩ | ⟨g, cp, cur, h2, h3⟩⟩ := h.row
    · exact ⟨none, 0, 0, h2, by omega⟩
    · exact ⟨_, _, _, h2, rfl⟩
  subst ev
  have c0 := h.c0
  have c2 := h.c2
  cases ho : okAll fs with
  | true =>
    obtain ⟨rfl, ex⟩ := h.some_ok ho
    have hrow := h.row
    rw [← hl] at hrow
    obtain ⟨a1, cp1, e1, q⟩ := sq_of_row hl.symm h.wf hrow
    simp only [Value.slice.injEq] at e1
    obtain ⟨rfl, _, rfl⟩ := e1
    have hle := okAll_le ho
    rw [← ex, ← hl] at hle
    have i2 : (nv : Int) ≤ 65536 := by omega
    have Q := hide q
    rw [wBytes_ok ho, wErr_ok ho, ← ex, ← hl]
    clear h hrow q ho ex hl
    go_enter Tryz.func16, Tryz.ntmps16
    go_wp2_with fail
    go_ret2
    exact ⟨av, cv, rfl, Q.out, rfl⟩
  | false =>
    rw [wBytes_no ho, wErr_no ho]
    have hno := h.some_no ho
    cases long with
    | true =>
      clear h ho hl hno
      go_enter Tryz.func16, Tryz.ntmps16
      go_wp2_with fail
      go_ret2
      exact ⟨none, 0, rfl, ⟨rfl, Nat.le_refl _, fun _ => rfl, fun h => absurd h (by simp), wfs_nil⟩, rfl⟩
    | false =>
      have i2 : (65536 : Int) < (nv : Int) := by
        rcases hno with e | e
        · cases e
        · omega
      clear h ho hl hno
      go_enter Tryz.func16, Tryz.ntmps16
      go_wp2_with fail
      go_ret2
      exact ⟨none, 0, rfl, ⟨rfl, Nat.le_refl _, fun _ => rfl, fun h => absurd h (by simp), wfs_nil⟩, rfl⟩
end Go.Proofs.YthklpkmdmkgjiaaGreat

namespace Go.Proofs.YthklpkmdmkgjiaaGreat
open Go.ChangeShapes Go.WideShapes Go.ChangeAt Go.RowKit B8 Cm Wm
set_option linter.unusedVariables false

theorem vnums_any {w : World} {B W K : Nat} {fs : List Fld} {L M o n cp : Nat} {xs : List Atom} {P : Nat → Prop} (h : VS w B W K fs) (hB : B ≤ w.heap.size) (hK : K + 10 * n ≤ 70368744177664)
    (hf : FlatAt w P M o xs) (hk : ∀ x ∈ xs, x.k = 0) (hn : xs.length = n) (hM : ¬ Wown W w M) (hL : ¬ Wown W w L)
    (hp : ∀ j, j < n → w.cell? ⟨L, j, none⟩ = some (.pointer (some ⟨M, o + j, none⟩))) :
    Calls Tryz.prog 44 #[.pointer (some ⟨W, 0, none⟩), .slice (some ⟨L, 0, none⟩) n cp] w fun e w' => e = .returned (.tuple #[]) ∧ VS w' B W (K + 10 * n) (fs ++ flds xs) ∧ Stq (Wown W) w w' := by
  have H := hide h
  have HB := hide hB
  have HF := hide hf
  have HK := hide hk
  have HN := hide hn
  have HM := hide hM
  have HL := hide hL
  have HP := hide hp
  clear h hB hf hk hn hM hL hp
  go_enter Tryz.func44, Tryz.ntmps44
  go_wp2_with fail
  go_loopw [4] (fun i wr => ∃ j : Nat, j ≤ n ∧ i = .int .i64 j ∧ Hid (VS wr B W (K + 10 * j) (fs ++ flds (xs.take j))) ∧ Hid (Stq (Wown W) w wr)) (fun i _ => n - (intOf i).toNat)
  case atStart => exact ⟨0, Nat.zero_le _, rfl, by show VS _ _ _ _ _; rw [List.take_zero, flds_nil, List.append_nil]; exact H.out, Stq.refl _ _⟩
  case round =>
    obtain ⟨j, hj, rfl, HW, HS⟩ := hrel
    by_cases hlt : j < n
    · have hi : (j : Int) < (n : Int) := by omega
      have c1 := HS.out.cell (HP.out j hlt) HL.out
      have hlx : j < xs.length := by rw [HN.out]; exact hlt
      obtain ⟨v, h1, h2⟩ := HF.out j _ (List.getElem?_eq_getElem hlx)
      have hk0 := HK.out _ (List.getElem_mem hlx)
      obtain ⟨ev, b1, b2⟩ := atom_int h2 hk0
      subst ev
      have c2 := HS.out.cell h1 HM.out
      have HT := hide (take_flds xs j _ (List.getElem?_eq_getElem hlx) fs)
      have HA := hide (fldA_int hk0)
      obtain ⟨z, ez⟩ : ∃ z, z = xs[j].z := ⟨_, rfl⟩
      rw [← ez] at b1 b2 c2 HA
      have CI := hide (vnum_any z b1 b2 HW.out (Nat.le_trans HB.out HS.out.size) (by omega) c2 (HS.out.keep (World.block_lt_of_cell? w _ h1) HM.out))
      clear ez h2 hk0 h1 c2
      go_wp2_with fail
      refine CI.out.mono ?_
      rintro e w2 ⟨rfl, hw2, hs2⟩
      have HW2 := hide hw2
      have HS2 := hide hs2
      clear hw2 hs2 CI
      go_wp2_with fail
      go_roundw
      case rel =>
        refine ⟨j + 1, by omega, by go_num, ?_, HS.out.trans HS2.out⟩
        show VS _ _ _ _ _
        rw [HT.out, HA.out]
        exact HW2.out
      case measure => simp [intOf]; omega
    · go_wp2_with fail
      refine bodyPost_end (results_none rfl _ _ _) rfl ?_
      obtain rfl : j = n := by omega
      refine ⟨rfl, ?_, HS.out⟩
      have := HW.out
      rw [List.take_of_length_le (by rw [HN.out]; omega)] at this
      exact this

/-- a store into the thing -/
theorem stp_set {S : World → Nat → Prop} {w w1 : World} {M p : Nat} (h : Stq S w w1) (hM : M < w.heap.size) (hS : ¬ S w M) (hown : ∀ v k, S (w1.setCell ⟨M, p, none⟩ v) k → S w1 k) (v : Value) : Stp S M p (p + 1) w (w1.setCell ⟨M, p, none⟩ v) := by
  have hb := h.block M hM hS
  refine ⟨h.os, h.tape, h.output, by simpa [World.setCell] using h.size, fun k hk hs hne => ?_, fun o ho => ?_, fun o => ?_, fun k hk => h.own k (hown v k hk)⟩
  · rw [Below.heap_setCell _ _ _ _ hne]; exact h.block k hk hs
  · rw [World.cell?_setCell_other _ _ _ _ (by intro e; cases e; omega)]
    exact World.cell?_of_block (w := w) hb
  · rw [World.frozen?_setCell]
    exact World.frozen?_of_block (w := w) hb
theorem stq_new {S : World → Nat → Prop} {w w1 : World} {N p : Nat} (h : Stq S w w1) (hN : w.heap.size ≤ N) (hown : ∀ v k, S (w1.setCell ⟨N, p, none⟩ v) k → S w1 k) (v : Value) : Stq S w (w1.setCell ⟨N, p, none⟩ v) :=
  ⟨h.os, h.tape, h.output, by simpa [World.setCell] using h.size, fun k hk hs => by rw [Below.heap_setCell _ _ _ _ (by show k ≠ N; omega)]; exact h.block k hk hs, fun k hk => h.own k (hown v k hk)⟩
theorem wown_far {W M p : Nat} {w : World} (hne : M ≠ W) (v : Value) (k : Nat) (h : Wown W (w.setCell ⟨M, p, none⟩ v) k) : Wown W w k := by
  rcases h with h | ⟨u, h1, h2⟩
  · exact .inl h
  · rw [World.cell?_setCell_other _ _ _ _ (by intro e; cases e; exact hne rfl)] at h1
    exact .inr ⟨u, h1, h2⟩
theorem Vst.far {w : World} {B W L : Nat} {fs : List Fld} {v : Value} {xs : List Int} {long : Bool} (h : Vst w B W L fs v xs long) {M p : Nat} (hM : ¬ Wown W w M) (x : Value) : Vst (w.setCell ⟨M, p, none⟩ x) B W L fs v xs long := by
  have hne : M ≠ W := fun e => hM (.inl e)
  have hg := grown_setCell w M p x
  have hlt := World.block_lt_of_cell? w _ h.c0
  have hn : some W ≠ some M := fun e => hne (by simpa using e.symm)
  exact ⟨hg.cell h.c0 hn, hg.cell h.c1 hn, hg.cell h.c2 hn, (World.frozen?_setCell _ _ _ _).trans h.f0, (World.frozen?_setCell _ _ _ _).trans h.f2, h.row.kept hg (.inr fun e => hM (.inr ⟨v, h.c0, e⟩)), h.wf, h.some_ok, h.some_no, h.apart, h.size, h.room, h.home⟩

set_option maxRecDepth 100000 in
theorem vtext_any {w : World} {B W L : Nat} {fs : List Fld} {M o : Nat} (s : ByteArray) (h : VS w B W L fs) (hB : B ≤ w.heap.size) (hL : L + 70000 ≤ 70368744177664) (hM : ¬ Wown W w M) (hs : s.size ≤ 140737488351232)
    (hc : w.cell? ⟨M, o, none⟩ = some (.string s)) (hf : w.frozen? ⟨M, o, none⟩ = false) :
    Calls Tryz.prog 46 #[.pointer (some ⟨W, 0, none⟩), .pointer (some ⟨M, o, none⟩)] w fun e w' => e = .returned (.tuple #[]) ∧ VS w' B W (L + 70000) (fs ++ [⟨numB (strB s).length ++ strB s, decide ((strB s).length ≤ 65535)⟩]) ∧ Stp (Wown W) M o (o + 1) w w' := by
  have hlt := h.lt
  have hltM := World.block_lt_of_cell? w _ hc
  have hne : M ≠ W := fun e => hM (.inl e)
  have hb1 := below_alloc1 w (.cells #[.slice none 0 0] 29)
  have hst1 := stq_below hb1 hlt
  obtain ⟨v, xs, long, h⟩ := h
  have h1 := h.later hb1
  obtain ⟨w1, e1⟩ : ∃ w1, w1 = w.alloc (.cells #[.slice none 0 0] 29) := ⟨_, rfl⟩
  have hn0 : (w.alloc (.cells #[.slice none 0 0] 29)).cell? ⟨w.heap.size, 0, none⟩ = some (.slice none 0 0) := by simp
  have hnf : (w.alloc (.cells #[.slice none 0 0] 29)).frozen? ⟨w.heap.size, 0, none⟩ = false := by simp
  rw [← e1] at hb1 hst1 h1 hn0 hnf
  have E1 := hide e1.symm
  have hMw1 : ¬ Wown W w1 M := hst1.keep hltM hM
  have hNw1 : ¬ Wown W w1 w.heap.size := fun e => by
    rcases e with e | ⟨u, x1, x2⟩
    · omega
    · rw [hb1.cell (p := ⟨W, 0, none⟩) hlt] at x1
      rw [h.c0] at x1
      obtain rfl := Option.some.inj x1
      have := (h.row.lt _ x2).2
      omega
  have cM : w1.cell? ⟨M, o, none⟩ = some (.string s) := (hb1.cell (p := ⟨M, o, none⟩) hltM).trans hc
  have fM : w1.frozen? ⟨M, o, none⟩ = false := (hb1.frozen (p := ⟨M, o, none⟩) hltM).trans hf
  have c1 := h1.c1
  have c2 := h1.c2
  have f2 := h1.f2
  have HN := hide hn0
  by_cases hy : long = false ∧ s.size ≤ 65535
  · obtain ⟨hlong, hn5⟩ := hy
    subst hlong
    have hd : decide ((65535 : Int) < (s.size : Int)) = false := by simp; omega
    obtain ⟨h2, st2⟩ := h1.calm
    obtain ⟨u, eu⟩ : ∃ u, u = w1.setCell ⟨W, 2, none⟩ (.bool false) := ⟨_, rfl⟩
    rw [← eu] at h2 st2
    have EU := hide eu.symm
    have cMu := st2.cell cM hMw1
    have cNu := st2.cell hn0 hNw1
    have hlu : w1.heap.size ≤ u.heap.size := st2.size
    have hlw : w.heap.size < w1.heap.size := World.block_lt_of_cell? w1 _ hn0
    have fNu : u.frozen? ⟨w.heap.size, 0, none⟩ = false := (World.frozen?_of_block (w := w1) (st2.block _ hlw hNw1)).trans hnf
    have fMu : u.frozen? ⟨M, o, none⟩ = false := (World.frozen?_of_block (w := w1) (st2.block _ (Nat.lt_of_lt_of_le hltM hb1.size) hMw1)).trans fM
    obtain ⟨c, u2, hcv, hb2, q2⟩ := string_bytes u s
    have h3 := h2.later hb2
    have hNu2 : ¬ Wown W u2 w.heap.size := (stq_below hb2 (World.block_lt_of_cell? _ _ h2.c0)).keep (World.block_lt_of_cell? u _ cNu) (st2.keep hlw hNw1)
    have hMu2 : ¬ Wown W u2 M := (stq_below hb2 (World.block_lt_of_cell? _ _ h2.c0)).keep (World.block_lt_of_cell? u _ cMu) (st2.keep (Nat.lt_of_lt_of_le hltM hb1.size) hMw1)
    have cN2 : u2.cell? ⟨w.heap.size, 0, none⟩ = some (.slice none 0 0) := (hb2.cell (p := ⟨w.heap.size, 0, none⟩) (World.block_lt_of_cell? u _ cNu)).trans cNu
    have fN2 : u2.frozen? ⟨w.heap.size, 0, none⟩ = false := (hb2.frozen (p := ⟨w.heap.size, 0, none⟩) (World.block_lt_of_cell? u _ cNu)).trans fNu
    have h4 := h3.far (p := 0) hNu2 (.slice (some ⟨u.heap.size, 0, none⟩) s.size c)
    obtain ⟨u3, eu3⟩ : ∃ u3, u3 = u2.setCell ⟨w.heap.size, 0, none⟩ (.slice (some ⟨u.heap.size, 0, none⟩) s.size c) := ⟨_, rfl⟩
    have EU3 := hide eu3.symm
    have cN3 : u3.cell? ⟨w.heap.size, 0, none⟩ = some (.slice (some ⟨u.heap.size, 0, none⟩) s.size c) := by rw [eu3]; exact World.cell?_setCell_same _ _ _ cN2
    have hneN : M ≠ w.heap.size := by have : M < w.heap.size := hltM; omega
    have cM3 : u3.cell? ⟨M, o, none⟩ = some (.string s) := by rw [eu3, World.cell?_setCell_other _ _ _ _ (by intro e; cases e; exact hneN rfl)]; exact (hb2.cell (p := ⟨M, o, none⟩) (World.block_lt_of_cell? u _ cMu)).trans cMu
    have fM3 : u3.frozen? ⟨M, o, none⟩ = false := by rw [eu3, World.frozen?_setCell]; exact (hb2.frozen (p := ⟨M, o, none⟩) (World.block_lt_of_cell? u _ cMu)).trans fMu
    have hug : u.heap.size ≠ w.heap.size := by omega
    have q3 : Sq u3 (some ⟨u.heap.size, 0, none⟩) s.size c (strB s) := sq_same q2 (fun b off e h0 => by cases e; rw [eu3]; exact Below.heap_setCell _ _ _ _ hug)
    rw [← eu3] at h4
    have hown3 : ∀ k, Wown W u3 k → Wown W u2 k := fun k hk => by rw [eu3] at hk; exact wown_far (by omega) _ k hk
    have nN3 : ¬ Wown W u3 w.heap.size := fun e => hNu2 (hown3 _ e)
    have nM3 : ¬ Wown W u3 M := fun e => hMu2 (hown3 _ e)
    have hB3 : B ≤ u3.heap.size := by rw [eu3]; simp [World.setCell]; exact Nat.le_trans (Nat.le_trans hB hb1.size) (Nat.le_trans hlu hb2.size)
    have hP : ∀ b off, (some ⟨u.heap.size, 0, none⟩ : Option Addr) = some ⟨b, off, none⟩ → 0 < s.size → ¬ Wown W u3 b ∧ b < u3.heap.size := by
      intro b off e h0
      cases e
      obtain ⟨b', off', e', hc3⟩ := q3.cells h0
      cases e'
      refine ⟨fun hw => ?_, World.block_lt_of_cell? u3 _ (hc3 0 h0)⟩
      rcases hown3 _ hw with e | ⟨x, x1, x2⟩
      · have := World.block_lt_of_cell? _ _ h2.c0
        have h9 : W < u.heap.size := this
        omega
      · rw [h3.c0] at x1
        obtain rfl := Option.some.inj x1
        have := (h2.row.lt _ x2).2
        omega
    have CB := hide (vbytes_any (M := w.heap.size) (o := 0) ⟨_, _, _, h4⟩ hB3 hL nN3 cN3 q3 hs hP)
    have ST3 : Hid (Stq (Wown W) w u3) := by
      show Stq _ _ _
      have := (hst1.trans st2).trans (stq_below hb2 (World.block_lt_of_cell? _ _ h2.c0))
      rw [eu3]
      exact stq_new this (Nat.le_refl _) (fun v k hk => wown_far (by omega) v k hk) _
    have Q3 := hide q3
    have CM3 := hide cM3
    have FM3 := hide fM3
    have NM3 := hide nM3
    have CN3 := hide cN3
    have NN3 := hide nN3
    have PP := hide hP
    have LM : Hid (M < w.heap.size ∧ ¬ Wown W w M ∧ M ≠ W) := ⟨hltM, hM, hne⟩
    clear h h1 h2 h3 h4 st2 hst1 hb1 hb2 q2 q3 hP cM3 fM3 nM3 cN3 nN3 hown3 hB3 hug hneN hNu2 hMu2 hMw1 hNw1 hM hne hltM hlt eu3 eu e1 hn0 hlu hlw hB
    go_enter Tryz.func46, Tryz.ntmps46
    go_upto_region 1 with fail
    rw [E1.out]
    go_upto_region 3 with fail
    rw [EU.out]
    have d2 : u.cell? ⟨W, 2, none⟩ = some (.bool false) := by rw [← EU.out]; exact World.cell?_setCell_same _ _ _ c2
    clear E1 EU c1 c2 f2 cM fM hnf HN
    go_upto_region 5 with fail
    rw [EU3.out]
    clear EU3 hcv cMu cNu fNu fMu d2 cN2 fN2
    go_wp2_with fail
    refine CB.out.mono ?_
    rintro e u4 ⟨rfl, hv4, hs4⟩
    have cN4 := hs4.cell CN3.out NN3.out
    have cM4 := hs4.cell CM3.out NM3.out
    have fM4 : u4.frozen? ⟨M, o, none⟩ = false := (World.frozen?_of_block (w := u3) (hs4.block M (World.block_lt_of_cell? u3 _ CM3.out) NM3.out)).trans FM3.out
    have hcv4 := bytes_string (sq_same (w' := u4) Q3.out (fun b off e h0 => hs4.block b (PP.out b off e h0).2 (PP.out b off e h0).1))
    have FIN : Hid (VS (u4.setCell ⟨M, o, none⟩ (.string (strOfNums (strB s)))) B W (L + 70000) (fs ++ [⟨numB (strB s).length ++ strB s, decide ((strB s).length ≤ 65535)⟩]) ∧ Stp (Wown W) M o (o + 1) w (u4.setCell ⟨M, o, none⟩ (.string (strOfNums (strB s))))) := by
      have st4 := ST3.out.trans hs4
      obtain ⟨v4, xs4, l4, h4⟩ := hv4
      exact ⟨⟨_, _, _, h4.far (st4.keep LM.out.1 LM.out.2.1) _⟩, stp_set st4 LM.out.1 LM.out.2.1 (fun v k hk => wown_far LM.out.2.2 v k hk) _⟩
    clear hv4 hs4 CB ST3 Q3 CM3 FM3 NM3 CN3 NN3 PP
    go_wp2_with fail
    refine bodyPost_end (results_none rfl _ _ _) rfl ?_
    exact ⟨rfl, FIN.out⟩
  · have hd : (long || decide ((65535 : Int) < (s.size : Int))) = true := by
      cases long with
      | true => rfl
      | false => simp; have h2 : ¬ s.size ≤ 65535 := fun h => hy ⟨rfl, h⟩; omega
    have hno : okAll (fs ++ [⟨numB (strB s).length ++ strB s, decide ((strB s).length ≤ 65535)⟩]) = false := by
      cases ho : okAll fs with
      | false => exact okAll_left _ _ ho
      | true =>
        obtain ⟨e, _⟩ := h.some_ok ho
        have h2 : ¬ (strB s).length ≤ 65535 := by rw [strB_length]; exact fun h => hy ⟨e, h⟩
        exact okAll_fit (gs := []) (by show decide _ = false; simpa using h2)
    obtain ⟨x1, x2⟩ := h1.bad _ hno
    have HBD : Hid (VS (w1.setCell ⟨W, 2, none⟩ (.bool true)) B W (L + 70000) (fs ++ [⟨numB (strB s).length ++ strB s, decide ((strB s).length ≤ 65535)⟩])) := VS.wide ⟨_, _, _, x1⟩ (by omega) hL
    have ST : Hid (Stp (Wown W) M o (o + 1) w (w1.setCell ⟨W, 2, none⟩ (.bool true))) := (hst1.trans x2).to hltM hM o (o + 1)
    have k2 : (w1.setCell ⟨W, 2, none⟩ (.bool true)).cell? ⟨W, 2, none⟩ = some (.bool true) := x1.c2
    clear h h1 x1 x2 hst1 hb1 hNw1 hMw1 hM hne hltM hlt hno hy e1 hn0 hB
    cases long
    · have hd' : decide ((65535 : Int) < (s.size : Int)) = true := by simpa using hd
      clear hd
      go_enter Tryz.func46, Tryz.ntmps46
      go_upto_region 1 with fail
      rw [E1.out]
      go_wp2_with fail
      refine bodyPost_ret (results_none rfl _ _ _) rfl ?_
      exact ⟨rfl, HBD.out, ST.out⟩
    · clear hd
      go_enter Tryz.func46, Tryz.ntmps46
      go_upto_region 1 with fail
      rw [E1.out]
      go_wp2_with fail
      refine bodyPost_ret (results_none rfl _ _ _) rfl ?_
      exact ⟨rfl, HBD.out, ST.out⟩
end Go.Proofs.YthklpkmdmkgjiaaGreat

namespace Go.Proofs.YthklpkmdmkgjiaaGreat
open Go.ChangeShapes Go.WideShapes Go.ChangeAt Go.RowKit B8 Cm Wm
set_option linter.unusedVariables false

theorem le_room {L a b D N : Nat} (h : a + b ≤ D) (hL : L + D ≤ N) : L + a + b ≤ N := by omega
theorem le_sum (L a b c : Nat) (h : a + b = c) : L + a + b ≤ L + c := by omega
theorem kinds_allv {xs : List Atom} {ks : List Nat} {k : Nat} (h : xs.map Atom.k = ks) (hk : ∀ j ∈ ks, j = k) : ∀ x ∈ xs, x.k = k := fun x hx => hk _ (by rw [← h]; exact List.mem_map_of_mem hx)
theorem ptr_cellsv (w : World) (cs : Array Value) (T : TypeId) (M o n : Nat) (hc : ∀ j, j < n → cs[j]? = some (.pointer (some ⟨M, o + j, none⟩))) : ∀ j, j < n → (w.alloc (.cells cs T)).drew.cell? ⟨w.heap.size, j, none⟩ = some (.pointer (some ⟨M, o + j, none⟩)) := by
  intro j hj
  have : (w.alloc (.cells cs T)).drew.heap[w.heap.size]? = some (.cells cs T) := heap_alloc_new w _
  unfold World.cell?
  rw [this]
  exact hc j hj
theorem below_ptrsv (w : World) (o : Obj) : Below w.heap.size w (w.alloc o).drew := (below_alloc1 w o).drew
theorem one_atomv {xs : List Atom} {k : Nat} (h : xs.map Atom.k = [k]) : ∃ x, xs = [x] ∧ x.k = k := by
  match xs, h with
  | [x], h => exact ⟨x, rfl, by simpa using h⟩
theorem flat_onev {w : World} {M o : Nat} {P : Nat → Prop} {x : Atom} (h : FlatAt w P M o [x]) : ∃ v, w.cell? ⟨M, o, none⟩ = some v ∧ AtomV w P v x := h 0 x rfl
theorem FlatAt.stqv {S : World → Nat → Prop} {w w1 : World} {M o : Nat} {xs : List Atom} (h : FlatAt w (Out S M w) M o xs) (g : Stq S w w1) (hM : M < w.heap.size) (hS : ¬ S w M) : FlatAt w1 (Out S M w1) M o xs :=
  h.same (fun j hj => World.cell?_of_block (w := w) (g.block M hM hS)) (fun b hb => ⟨⟨Nat.lt_of_lt_of_le hb.1 g.size, g.keep hb.1 hb.2.1, hb.2.2⟩, g.block b hb.1 hb.2.1⟩)
section
variable {w : World} {B W L : Nat} {fs : List Fld} {M o n N : Nat} {xs : List Atom}
theorem vown_new (h : VS w B W L fs) (ob : Obj) : ¬ Wown W (w.alloc ob).drew w.heap.size := fun hk => by
  rcases hk with hk | ⟨v, h1, h2⟩
  · have := h.lt; omega
  · rw [(below_ptrsv w ob).cell (p := ⟨W, 0, none⟩) h.lt] at h1
    have := h.base _ (.inr ⟨v, h1, h2⟩)
    omega
theorem vnums_call (h : VS w B W L fs) (hB : B ≤ w.heap.size) (hL : L + 10 * n ≤ 70368744177664) (hf : FlatAt w (Out (Wown W) M w) M o xs) (hr : Room w M o n) (hk : xs.map Atom.k = List.replicate n 0) (hM : M < w.heap.size) (hS : ¬ Wown W w M) (cs : Array Value) (T : TypeId)
    (hc : ∀ j, j < n → cs[j]? = some (.pointer (some ⟨M, o + j, none⟩))) :
    Calls Tryz.prog 44 #[.pointer (some ⟨W, 0, none⟩), .slice (some ⟨w.heap.size, 0, none⟩) n n] (w.alloc (.cells cs T)).drew fun e w' => e = .returned (.tuple #[]) ∧ VS w' B W (L + 10 * n) (fs ++ flds xs) ∧ Stp (Wown W) M o (o + n) w w' := by
  have hb := below_ptrsv w (.cells cs T)
  have hq := stq_below hb h.lt
  have hn : xs.length = n := by have := congrArg List.length hk; simpa using this
  exact (vnums_any (cp := n) (h.below hb) (Nat.le_trans hB hb.size) hL (hf.stqv hq hM hS) (kinds_allv hk (fun j hj => (List.mem_replicate.1 hj).2)) hn (hq.keep hM hS) (vown_new h _) (ptr_cellsv w cs T M o n hc)).mono fun e w' ⟨h1, h2, h3⟩ => ⟨h1, h2, (hq.trans h3).to hM hS o (o + n)⟩
theorem vnum_call (h : VS w B W L fs) (hB : B ≤ w.heap.size) (hL : L + 10 ≤ 70368744177664) (hf : FlatAt w (Out (Wown W) M w) M o xs) (hr : Room w M o 1) (hk : xs.map Atom.k = [0]) (hM : M < w.heap.size) (hS : ¬ Wown W w M) :
    Calls Tryz.prog 47 #[.pointer (some ⟨W, 0, none⟩), .pointer (some ⟨M, o, none⟩)] w fun e w' => e = .returned (.tuple #[]) ∧ VS w' B W (L + 10) (fs ++ flds xs) ∧ Stp (Wown W) M o (o + 1) w w' := by
  obtain ⟨x, rfl, hx⟩ := one_atomv hk
  obtain ⟨v, hc, hv⟩ := flat_onev hf
  obtain ⟨rfl, z0, z1⟩ := atom_int hv hx
  refine (vnum_any x.z z0 z1 h hB hL hc hS).mono fun e w' ⟨h1, h2, h3⟩ => ⟨h1, ?_, h3.to hM hS o (o + 1)⟩
  rw [← fldA_int hx] at h2
  exact h2
theorem vflag_call (h : VS w B W L fs) (hB : B ≤ w.heap.size) (hL : L + 10 ≤ 70368744177664) (hf : FlatAt w (Out (Wown W) M w) M o xs) (hr : Room w M o 1) (hk : xs.map Atom.k = [2]) (hM : M < w.heap.size) (hS : ¬ Wown W w M) :
    Calls Tryz.prog 45 #[.pointer (some ⟨W, 0, none⟩), .pointer (some ⟨M, o, none⟩)] w fun e w' => e = .returned (.tuple #[]) ∧ VS w' B W (L + 10) (fs ++ flds xs) ∧ Stp (Wown W) M o (o + 1) w w' := by
  obtain ⟨x, rfl, hx⟩ := one_atomv hk
  obtain ⟨v, hc, hv⟩ := flat_onev hf
  obtain ⟨b, rfl, ez⟩ : ∃ b : Bool, v = .bool b ∧ x.z = if b then 1 else 0 := by
    rcases hv with hv | hv | hv | hv | hv
    · exact absurd hx (by have := hv.1; omega)
    · exact absurd hx (by have := hv.1; omega)
    · rcases hv.2 with ⟨h1, h2⟩ | ⟨h1, h2⟩
      · exact ⟨true, h1, h2⟩
      · exact ⟨false, h1, h2⟩
    · exact absurd hx (by have := hv.1; omega)
    · exact absurd hx (by have := hv.1; omega)
  refine (vflag_any b h hB hL hc).mono fun e w' ⟨h1, h2, h3⟩ => ⟨h1, ?_, h3.to hM hS o (o + 1)⟩
  rw [← ez, ← fldA_flag hx] at h2
  exact h2
theorem vbytes_call (h : VS w B W L fs) (hB : B ≤ w.heap.size) (hL : L + 70000 ≤ 70368744177664) (hf : FlatAt w (Out (Wown W) M w) M o xs) (hr : Room w M o 1) (hk : xs.map Atom.k = [4]) (hM : M < w.heap.size) (hS : ¬ Wown W w M) :
    Calls Tryz.prog 54 #[.pointer (some ⟨W, 0, none⟩), .pointer (some ⟨M, o, none⟩)] w fun e w' => e = .returned (.tuple #[]) ∧ VS w' B W (L + 70000) (fs ++ flds xs) ∧ Stp (Wown W) M o (o + 1) w w' := by
  obtain ⟨x, rfl, hx⟩ := one_atomv hk
  obtain ⟨v, hc, hv⟩ := flat_onev hf
  obtain ⟨a, k, cp, rfl, q, hn, hP⟩ : ∃ a k cp, v = .slice a k cp ∧ Sq w a k cp x.bs ∧ k ≤ 140737488351232 ∧ ∀ b off, a = some ⟨b, off, none⟩ → 0 < k → Out (Wown W) M w b := by
    rcases hv with hv | hv | hv | hv | hv
    · exact absurd hx (by have := hv.1; omega)
    · exact absurd hx (by have := hv.1; omega)
    · exact absurd hx (by have := hv.1; omega)
    · exact absurd hx (by have := hv.1; omega)
    · exact hv.2
  refine (vbytes_any h hB hL hS hc q hn (fun b off e h0 => ⟨(hP b off e h0).2.1, (hP b off e h0).1⟩)).mono fun e w' ⟨h1, h2, h3⟩ => ⟨h1, ?_, h3.to hM hS o (o + 1)⟩
  rw [← fldA_text (.inr hx)] at h2
  exact h2
theorem vtext_call (h : VS w B W L fs) (hB : B ≤ w.heap.size) (hL : L + 70000 ≤ 70368744177664) (hf : FlatAt w (Out (Wown W) M w) M o xs) (hr : Room w M o 1) (hk : xs.map Atom.k = [3]) (hM : M < w.heap.size) (hS : ¬ Wown W w M) :
    Calls Tryz.prog 46 #[.pointer (some ⟨W, 0, none⟩), .pointer (some ⟨M, o, none⟩)] w fun e w' => e = .returned (.tuple #[]) ∧ VS w' B W (L + 70000) (fs ++ flds xs) ∧ Stp (Wown W) M o (o + 1) w w' := by
  obtain ⟨x, rfl, hx⟩ := one_atomv hk
  obtain ⟨v, hc, hv⟩ := flat_onev hf
  obtain ⟨s, rfl, eb, hsz⟩ := atom_str hv hx
  rw [eb, strB_length] at hsz
  refine (vtext_any s h hB hL hS hsz hc (hr 0 (by omega)).2).mono fun e w' ⟨h1, h2, h3⟩ => ⟨h1, ?_, h3⟩
  rw [← eb, ← fldA_text (.inl hx)] at h2
  exact h2
end

theorem vop_any {w : World} {B W L : Nat} {fs : List Fld} {M o : Nat} {xs : List Atom} (h : VS w B W L fs) (hB : B ≤ w.heap.size) (hL : L + 140040 ≤ 70368744177664) (hf : FlatAt w (Out (Wown W) M w) M o xs) (hr : Room w M o 6) (hk : xs.map Atom.k = [0, 3, 3, 0, 0, 0]) (hM : M < w.heap.size) (hS : ¬ Wown W w M) :
    Calls Tryz.prog 89 #[.pointer (some ⟨W, 0, none⟩), .pointer (some ⟨M, o, none⟩)] w fun e w' => e = .returned (.tuple #[]) ∧ VS w' B W (L + 140040) (fs ++ flds xs) ∧ Stp (Wown W) M o (o + 6) w w' := by
  obtain ⟨s0, r0, rfl, k0, hk⟩ := List.map_eq_append_iff.1 (show _ = [0] ++ [3, 3, 0, 0, 0] from hk)
  have l0 : s0.length = 1 := by have := congrArg List.length k0; simpa using this
  obtain ⟨s1, r1, rfl, k1, hk⟩ := List.map_eq_append_iff.1 (show _ = [3] ++ [3, 0, 0, 0] from hk)
  have l1 : s1.length = 1 := by have := congrArg List.length k1; simpa using this
  obtain ⟨s2, r2, rfl, k2, hk⟩ := List.map_eq_append_iff.1 (show _ = [3] ++ [0, 0, 0] from hk)
  have l2 : s2.length = 1 := by have := congrArg List.length k2; simpa using this
  obtain ⟨s3, rfl⟩ : ∃ s, s = r2 := ⟨_, rfl⟩
  have k3 := hk
  have l3 : s3.length = 3 := by have := congrArg List.length k3; simpa using this
  have f0 := hf.left
  have g0 := hf.right
  rw [l0] at g0
  have f1 := g0.left
  have g1 := g0.right
  rw [l1, Nat.add_assoc] at g1
  simp only [Nat.reduceAdd] at g1
  have f2 := g1.left
  have g2 := g1.right
  rw [l2, Nat.add_assoc] at g2
  simp only [Nat.reduceAdd] at g2
  have f3 := g2
  refine (doc_op (M := M) (o := o) (W := W)
    (R0 := fun u => VS u B W (L + 0) (fs) ∧ Stp (Wown W) M o (o + 0) w u)
    (R1 := fun u => VS u B W (L + 10) (fs ++ flds s0) ∧ Stp (Wown W) M o (o + 1) w u)
    (R2 := fun u => VS u B W (L + 70010) (fs ++ flds s0 ++ flds s1) ∧ Stp (Wown W) M o (o + 2) w u)
    (R3 := fun u => VS u B W (L + 140010) (fs ++ flds s0 ++ flds s1 ++ flds s2) ∧ Stp (Wown W) M o (o + 3) w u)
    (R4 := fun u => VS u B W (L + 140040) (fs ++ flds s0 ++ flds s1 ++ flds s2 ++ flds s3) ∧ Stp (Wown W) M o (o + 6) w u)
    (fun u hu => (vnum_call hu.1 (Nat.le_trans hB hu.2.size) (le_room (a := 0) (b := 10) (by decide) hL) (f0.step hu.2 (.inl (Nat.le_refl _))) (Room.step (hr.part (a := 0) (m := 1) (by omega)) hu.2 (.inl (Nat.le_refl _))) k0 (Nat.lt_of_lt_of_le hM hu.2.size) (hu.2.keep hM hS)).mono fun e w' ⟨h1, h2, h3⟩ => ⟨h1, h2.wide (le_sum _ _ _ _ (by decide)) (Nat.le_trans (Nat.add_le_add_left (by decide) _) hL), (hu.2.wider (Nat.le_refl _) (by omega)).trans (h3.wider (by omega) (by omega))⟩)
    (fun u hu => (vtext_call hu.1 (Nat.le_trans hB hu.2.size) (le_room (a := 10) (b := 70000) (by decide) hL) (f1.step hu.2 (.inl (Nat.le_refl _))) (Room.step (hr.part (a := 1) (m := 1) (by omega)) hu.2 (.inl (Nat.le_refl _))) k1 (Nat.lt_of_lt_of_le hM hu.2.size) (hu.2.keep hM hS)).mono fun e w' ⟨h1, h2, h3⟩ => ⟨h1, h2.wide (le_sum _ _ _ _ (by decide)) (Nat.le_trans (Nat.add_le_add_left (by decide) _) hL), (hu.2.wider (Nat.le_refl _) (by omega)).trans (h3.wider (by omega) (by omega))⟩)
    (fun u hu => (vtext_call hu.1 (Nat.le_trans hB hu.2.size) (le_room (a := 70010) (b := 70000) (by decide) hL) (f2.step hu.2 (.inl (Nat.le_refl _))) (Room.step (hr.part (a := 2) (m := 1) (by omega)) hu.2 (.inl (Nat.le_refl _))) k2 (Nat.lt_of_lt_of_le hM hu.2.size) (hu.2.keep hM hS)).mono fun e w' ⟨h1, h2, h3⟩ => ⟨h1, h2.wide (le_sum _ _ _ _ (by decide)) (Nat.le_trans (Nat.add_le_add_left (by decide) _) hL), (hu.2.wider (Nat.le_refl _) (by omega)).trans (h3.wider (by omega) (by omega))⟩)
    (fun u hu => (vnums_call hu.1 (Nat.le_trans hB hu.2.size) (le_room (a := 140010) (b := 30) (by decide) hL) (f3.step hu.2 (.inl (Nat.le_refl _))) (Room.step (hr.part (a := 3) (m := 3) (by omega)) hu.2 (.inl (Nat.le_refl _))) k3 (Nat.lt_of_lt_of_le hM hu.2.size) (hu.2.keep hM hS) #[.pointer (some ⟨M, o + 3, none⟩), .pointer (some ⟨M, o + 4, none⟩), .pointer (some ⟨M, o + 5, none⟩)] 82 (fun j hj => match j, hj with | 0, _ => rfl | 1, _ => rfl | 2, _ => rfl)).mono fun e w' ⟨h1, h2, h3⟩ => ⟨h1, h2.wide (le_sum _ _ _ _ (by decide)) (Nat.le_trans (Nat.add_le_add_left (by decide) _) hL), (hu.2.wider (Nat.le_refl _) (by omega)).trans (h3.wider (by omega) (by omega))⟩)
    w ⟨h.wide (by omega) (by omega), Stp.refl _ _ _ _ _⟩).mono fun e w' ⟨h1, h2, h3⟩ => ⟨h1, ?_, h3⟩
  simpa only [flds_append, List.append_assoc] using h2

theorem vplan_any {w : World} {B W L : Nat} {fs : List Fld} {M o : Nat} {xs : List Atom} (h : VS w B W L fs) (hB : B ≤ w.heap.size) (hL : L + 140050 ≤ 70368744177664) (hf : FlatAt w (Out (Wown W) M w) M o xs) (hr : Room w M o 7) (hk : xs.map Atom.k = [0, 0, 0, 3, 3, 0, 0]) (hM : M < w.heap.size) (hS : ¬ Wown W w M) :
    Calls Tryz.prog 53 #[.pointer (some ⟨W, 0, none⟩), .pointer (some ⟨M, o, none⟩)] w fun e w' => e = .returned (.tuple #[]) ∧ VS w' B W (L + 140050) (fs ++ flds xs) ∧ Stp (Wown W) M o (o + 7) w w' := by
  obtain ⟨s0, r0, rfl, k0, hk⟩ := List.map_eq_append_iff.1 (show _ = [0, 0, 0] ++ [3, 3, 0, 0] from hk)
  have l0 : s0.length = 3 := by have := congrArg List.length k0; simpa using this
  obtain ⟨s1, r1, rfl, k1, hk⟩ := List.map_eq_append_iff.1 (show _ = [3] ++ [3, 0, 0] from hk)
  have l1 : s1.length = 1 := by have := congrArg List.length k1; simpa using this
  obtain ⟨s2, r2, rfl, k2, hk⟩ := List.map_eq_append_iff.1 (show _ = [3] ++ [0, 0] from hk)
  have l2 : s2.length = 1 := by have := congrArg List.length k2; simpa using this
  obtain ⟨s3, rfl⟩ : ∃ s, s = r2 := ⟨_, rfl⟩
  have k3 := hk
  have l3 : s3.length = 2 := by have := congrArg List.length k3; simpa using this
  have f0 := hf.left
  have g0 := hf.right
  rw [l0] at g0
  have f1 := g0.left
  have g1 := g0.right
  rw [l1, Nat.add_assoc] at g1
  simp only [Nat.reduceAdd] at g1
  have f2 := g1.left
  have g2 := g1.right
  rw [l2, Nat.add_assoc] at g2
  simp only [Nat.reduceAdd] at g2
  have f3 := g2
  refine (doc_plan (M := M) (o := o) (W := W)
    (R0 := fun u => VS u B W (L + 0) (fs) ∧ Stp (Wown W) M o (o + 0) w u)
    (R1 := fun u => VS u B W (L + 30) (fs ++ flds s0) ∧ Stp (Wown W) M o (o + 3) w u)
    (R2 := fun u => VS u B W (L + 70030) (fs ++ flds s0 ++ flds s1) ∧ Stp (Wown W) M o (o + 4) w u)
    (R3 := fun u => VS u B W (L + 140030) (fs ++ flds s0 ++ flds s1 ++ flds s2) ∧ Stp (Wown W) M o (o + 5) w u)
    (R4 := fun u => VS u B W (L + 140050) (fs ++ flds s0 ++ flds s1 ++ flds s2 ++ flds s3) ∧ Stp (Wown W) M o (o + 7) w u)
    (fun u hu => (vnums_call hu.1 (Nat.le_trans hB hu.2.size) (le_room (a := 0) (b := 30) (by decide) hL) (f0.step hu.2 (.inl (Nat.le_refl _))) (Room.step (hr.part (a := 0) (m := 3) (by omega)) hu.2 (.inl (Nat.le_refl _))) k0 (Nat.lt_of_lt_of_le hM hu.2.size) (hu.2.keep hM hS) #[.pointer (some ⟨M, o, none⟩), .pointer (some ⟨M, o + 1, none⟩), .pointer (some ⟨M, o + 2, none⟩)] 82 (fun j hj => match j, hj with | 0, _ => rfl | 1, _ => rfl | 2, _ => rfl)).mono fun e w' ⟨h1, h2, h3⟩ => ⟨h1, h2.wide (le_sum _ _ _ _ (by decide)) (Nat.le_trans (Nat.add_le_add_left (by decide) _) hL), (hu.2.wider (Nat.le_refl _) (by omega)).trans (h3.wider (by omega) (by omega))⟩)
    (fun u hu => (vtext_call hu.1 (Nat.le_trans hB hu.2.size) (le_room (a := 30) (b := 70000) (by decide) hL) (f1.step hu.2 (.inl (Nat.le_refl _))) (Room.step (hr.part (a := 3) (m := 1) (by omega)) hu.2 (.inl (Nat.le_refl _))) k1 (Nat.lt_of_lt_of_le hM hu.2.size) (hu.2.keep hM hS)).mono fun e w' ⟨h1, h2, h3⟩ => ⟨h1, h2.wide (le_sum _ _ _ _ (by decide)) (Nat.le_trans (Nat.add_le_add_left (by decide) _) hL), (hu.2.wider (Nat.le_refl _) (by omega)).trans (h3.wider (by omega) (by omega))⟩)
    (fun u hu => (vtext_call hu.1 (Nat.le_trans hB hu.2.size) (le_room (a := 70030) (b := 70000) (by decide) hL) (f2.step hu.2 (.inl (Nat.le_refl _))) (Room.step (hr.part (a := 4) (m := 1) (by omega)) hu.2 (.inl (Nat.le_refl _))) k2 (Nat.lt_of_lt_of_le hM hu.2.size) (hu.2.keep hM hS)).mono fun e w' ⟨h1, h2, h3⟩ => ⟨h1, h2.wide (le_sum _ _ _ _ (by decide)) (Nat.le_trans (Nat.add_le_add_left (by decide) _) hL), (hu.2.wider (Nat.le_refl _) (by omega)).trans (h3.wider (by omega) (by omega))⟩)
    (fun u hu => (vnums_call hu.1 (Nat.le_trans hB hu.2.size) (le_room (a := 140030) (b := 20) (by decide) hL) (f3.step hu.2 (.inl (Nat.le_refl _))) (Room.step (hr.part (a := 5) (m := 2) (by omega)) hu.2 (.inl (Nat.le_refl _))) k3 (Nat.lt_of_lt_of_le hM hu.2.size) (hu.2.keep hM hS) #[.pointer (some ⟨M, o + 5, none⟩), .pointer (some ⟨M, o + 6, none⟩)] 82 (fun j hj => match j, hj with | 0, _ => rfl | 1, _ => rfl)).mono fun e w' ⟨h1, h2, h3⟩ => ⟨h1, h2.wide (le_sum _ _ _ _ (by decide)) (Nat.le_trans (Nat.add_le_add_left (by decide) _) hL), (hu.2.wider (Nat.le_refl _) (by omega)).trans (h3.wider (by omega) (by omega))⟩)
    w ⟨h.wide (by omega) (by omega), Stp.refl _ _ _ _ _⟩).mono fun e w' ⟨h1, h2, h3⟩ => ⟨h1, ?_, h3⟩
  simpa only [flds_append, List.append_assoc] using h2





theorem vwait_any {w : World} {B W L : Nat} {fs : List Fld} {M o : Nat} {xs : List Atom} (h : VS w B W L fs) (hB : B ≤ w.heap.size) (hL : L + 140090 ≤ 70368744177664) (hf : FlatAt w (Out (Wown W) M w) M o xs) (hr : Room w M o 11) (hk : xs.map Atom.k = [0, 0, 0, 0, 0, 0, 3, 3, 0, 0, 0]) (hM : M < w.heap.size) (hS : ¬ Wown W w M) :
    Calls Tryz.prog 72 #[.pointer (some ⟨W, 0, none⟩), .pointer (some ⟨M, o, none⟩)] w fun e w' => e = .returned (.tuple #[]) ∧ VS w' B W (L + 140090) (fs ++ flds xs) ∧ Stp (Wown W) M o (o + 11) w w' := by
  obtain ⟨s0, r0, rfl, k0, hk⟩ := List.map_eq_append_iff.1 (show _ = [0, 0, 0, 0, 0] ++ [0, 3, 3, 0, 0, 0] from hk)
  have l0 : s0.length = 5 := by have := congrArg List.length k0; simpa using this
  obtain ⟨s1, rfl⟩ : ∃ s, s = r0 := ⟨_, rfl⟩
  have k1 := hk
  have l1 : s1.length = 6 := by have := congrArg List.length k1; simpa using this
  have f0 := hf.left
  have g0 := hf.right
  rw [l0] at g0
  have f1 := g0
  refine (doc_wait (M := M) (o := o) (W := W)
    (R0 := fun u => VS u B W (L + 0) (fs) ∧ Stp (Wown W) M o (o + 0) w u)
    (R1 := fun u => VS u B W (L + 50) (fs ++ flds s0) ∧ Stp (Wown W) M o (o + 5) w u)
    (R2 := fun u => VS u B W (L + 140090) (fs ++ flds s0 ++ flds s1) ∧ Stp (Wown W) M o (o + 11) w u)
    (fun u hu => (vnums_call hu.1 (Nat.le_trans hB hu.2.size) (le_room (a := 0) (b := 50) (by decide) hL) (f0.step hu.2 (.inl (Nat.le_refl _))) (Room.step (hr.part (a := 0) (m := 5) (by omega)) hu.2 (.inl (Nat.le_refl _))) k0 (Nat.lt_of_lt_of_le hM hu.2.size) (hu.2.keep hM hS) #[.pointer (some ⟨M, o, none⟩), .pointer (some ⟨M, o + 1, none⟩), .pointer (some ⟨M, o + 2, none⟩), .pointer (some ⟨M, o + 3, none⟩), .pointer (some ⟨M, o + 4, none⟩)] 82 (fun j hj => match j, hj with | 0, _ => rfl | 1, _ => rfl | 2, _ => rfl | 3, _ => rfl | 4, _ => rfl)).mono fun e w' ⟨h1, h2, h3⟩ => ⟨h1, h2.wide (le_sum _ _ _ _ (by decide)) (Nat.le_trans (Nat.add_le_add_left (by decide) _) hL), (hu.2.wider (Nat.le_refl _) (by omega)).trans (h3.wider (by omega) (by omega))⟩)
    (fun u hu => (vop_any hu.1 (Nat.le_trans hB hu.2.size) (le_room (a := 50) (b := 140040) (by decide) hL) (f1.step hu.2 (.inl (Nat.le_refl _))) (Room.step (hr.part (a := 5) (m := 6) (by omega)) hu.2 (.inl (Nat.le_refl _))) k1 (Nat.lt_of_lt_of_le hM hu.2.size) (hu.2.keep hM hS)).mono fun e w' ⟨h1, h2, h3⟩ => ⟨h1, h2.wide (le_sum _ _ _ _ (by decide)) (Nat.le_trans (Nat.add_le_add_left (by decide) _) hL), (hu.2.wider (Nat.le_refl _) (by omega)).trans (h3.wider (by omega) (by omega))⟩)
    w ⟨h.wide (by omega) (by omega), Stp.refl _ _ _ _ _⟩).mono fun e w' ⟨h1, h2, h3⟩ => ⟨h1, ?_, h3⟩
  simpa only [flds_append, List.append_assoc] using h2

theorem vdeal_any {w : World} {B W L : Nat} {fs : List Fld} {M o : Nat} {xs : List Atom} (h : VS w B W L fs) (hB : B ≤ w.heap.size) (hL : L + 140060 ≤ 70368744177664) (hf : FlatAt w (Out (Wown W) M w) M o xs) (hr : Room w M o 8) (hk : xs.map Atom.k = [0, 0, 3, 3, 0, 0, 0, 0]) (hM : M < w.heap.size) (hS : ¬ Wown W w M) :
    Calls Tryz.prog 73 #[.pointer (some ⟨W, 0, none⟩), .pointer (some ⟨M, o, none⟩)] w fun e w' => e = .returned (.tuple #[]) ∧ VS w' B W (L + 140060) (fs ++ flds xs) ∧ Stp (Wown W) M o (o + 8) w w' := by
  obtain ⟨s0, r0, rfl, k0, hk⟩ := List.map_eq_append_iff.1 (show _ = [0, 0] ++ [3, 3, 0, 0, 0, 0] from hk)
  have l0 : s0.length = 2 := by have := congrArg List.length k0; simpa using this
  obtain ⟨s1, r1, rfl, k1, hk⟩ := List.map_eq_append_iff.1 (show _ = [3] ++ [3, 0, 0, 0, 0] from hk)
  have l1 : s1.length = 1 := by have := congrArg List.length k1; simpa using this
  obtain ⟨s2, r2, rfl, k2, hk⟩ := List.map_eq_append_iff.1 (show _ = [3] ++ [0, 0, 0, 0] from hk)
  have l2 : s2.length = 1 := by have := congrArg List.length k2; simpa using this
  obtain ⟨s3, rfl⟩ : ∃ s, s = r2 := ⟨_, rfl⟩
  have k3 := hk
  have l3 : s3.length = 4 := by have := congrArg List.length k3; simpa using this
  have f0 := hf.left
  have g0 := hf.right
  rw [l0] at g0
  have f1 := g0.left
  have g1 := g0.right
  rw [l1, Nat.add_assoc] at g1
  simp only [Nat.reduceAdd] at g1
  have f2 := g1.left
  have g2 := g1.right
  rw [l2, Nat.add_assoc] at g2
  simp only [Nat.reduceAdd] at g2
  have f3 := g2
  refine (doc_deal (M := M) (o := o) (W := W)
    (R0 := fun u => VS u B W (L + 0) (fs) ∧ Stp (Wown W) M o (o + 0) w u)
    (R1 := fun u => VS u B W (L + 20) (fs ++ flds s0) ∧ Stp (Wown W) M o (o + 2) w u)
    (R2 := fun u => VS u B W (L + 70020) (fs ++ flds s0 ++ flds s1) ∧ Stp (Wown W) M o (o + 3) w u)
    (R3 := fun u => VS u B W (L + 140020) (fs ++ flds s0 ++ flds s1 ++ flds s2) ∧ Stp (Wown W) M o (o + 4) w u)
    (R4 := fun u => VS u B W (L + 140060) (fs ++ flds s0 ++ flds s1 ++ flds s2 ++ flds s3) ∧ Stp (Wown W) M o (o + 8) w u)
    (fun u hu => (vnums_call hu.1 (Nat.le_trans hB hu.2.size) (le_room (a := 0) (b := 20) (by decide) hL) (f0.step hu.2 (.inl (Nat.le_refl _))) (Room.step (hr.part (a := 0) (m := 2) (by omega)) hu.2 (.inl (Nat.le_refl _))) k0 (Nat.lt_of_lt_of_le hM hu.2.size) (hu.2.keep hM hS) #[.pointer (some ⟨M, o, none⟩), .pointer (some ⟨M, o + 1, none⟩)] 82 (fun j hj => match j, hj with | 0, _ => rfl | 1, _ => rfl)).mono fun e w' ⟨h1, h2, h3⟩ => ⟨h1, h2.wide (le_sum _ _ _ _ (by decide)) (Nat.le_trans (Nat.add_le_add_left (by decide) _) hL), (hu.2.wider (Nat.le_refl _) (by omega)).trans (h3.wider (by omega) (by omega))⟩)
    (fun u hu => (vtext_call hu.1 (Nat.le_trans hB hu.2.size) (le_room (a := 20) (b := 70000) (by decide) hL) (f1.step hu.2 (.inl (Nat.le_refl _))) (Room.step (hr.part (a := 2) (m := 1) (by omega)) hu.2 (.inl (Nat.le_refl _))) k1 (Nat.lt_of_lt_of_le hM hu.2.size) (hu.2.keep hM hS)).mono fun e w' ⟨h1, h2, h3⟩ => ⟨h1, h2.wide (le_sum _ _ _ _ (by decide)) (Nat.le_trans (Nat.add_le_add_left (by decide) _) hL), (hu.2.wider (Nat.le_refl _) (by omega)).trans (h3.wider (by omega) (by omega))⟩)
    (fun u hu => (vtext_call hu.1 (Nat.le_trans hB hu.2.size) (le_room (a := 70020) (b := 70000) (by decide) hL) (f2.step hu.2 (.inl (Nat.le_refl _))) (Room.step (hr.part (a := 3) (m := 1) (by omega)) hu.2 (.inl (Nat.le_refl _))) k2 (Nat.lt_of_lt_of_le hM hu.2.size) (hu.2.keep hM hS)).mono fun e w' ⟨h1, h2, h3⟩ => ⟨h1, h2.wide (le_sum _ _ _ _ (by decide)) (Nat.le_trans (Nat.add_le_add_left (by decide) _) hL), (hu.2.wider (Nat.le_refl _) (by omega)).trans (h3.wider (by omega) (by omega))⟩)
    (fun u hu => (vnums_call hu.1 (Nat.le_trans hB hu.2.size) (le_room (a := 140020) (b := 40) (by decide) hL) (f3.step hu.2 (.inl (Nat.le_refl _))) (Room.step (hr.part (a := 4) (m := 4) (by omega)) hu.2 (.inl (Nat.le_refl _))) k3 (Nat.lt_of_lt_of_le hM hu.2.size) (hu.2.keep hM hS) #[.pointer (some ⟨M, o + 4, none⟩), .pointer (some ⟨M, o + 5, none⟩), .pointer (some ⟨M, o + 6, none⟩), .pointer (some ⟨M, o + 7, none⟩)] 82 (fun j hj => match j, hj with | 0, _ => rfl | 1, _ => rfl | 2, _ => rfl | 3, _ => rfl)).mono fun e w' ⟨h1, h2, h3⟩ => ⟨h1, h2.wide (le_sum _ _ _ _ (by decide)) (Nat.le_trans (Nat.add_le_add_left (by decide) _) hL), (hu.2.wider (Nat.le_refl _) (by omega)).trans (h3.wider (by omega) (by omega))⟩)
    w ⟨h.wide (by omega) (by omega), Stp.refl _ _ _ _ _⟩).mono fun e w' ⟨h1, h2, h3⟩ => ⟨h1, ?_, h3⟩
  simpa only [flds_append, List.append_assoc] using h2


theorem vholder_any {w : World} {B W L : Nat} {fs : List Fld} {M o : Nat} {xs : List Atom} (h : VS w B W L fs) (hB : B ≤ w.heap.size) (hL : L + 40 ≤ 70368744177664) (hf : FlatAt w (Out (Wown W) M w) M o xs) (hr : Room w M o 4) (hk : xs.map Atom.k = [0, 0, 0, 0]) (hM : M < w.heap.size) (hS : ¬ Wown W w M) :
    Calls Tryz.prog 93 #[.pointer (some ⟨W, 0, none⟩), .pointer (some ⟨M, o, none⟩)] w fun e w' => e = .returned (.tuple #[]) ∧ VS w' B W (L + 40) (fs ++ flds xs) ∧ Stp (Wown W) M o (o + 4) w w' := by
  obtain ⟨s0, rfl⟩ : ∃ s, s = xs := ⟨_, rfl⟩
  have k0 := hk
  have l0 : s0.length = 4 := by have := congrArg List.length k0; simpa using this
  have f0 := hf
  refine (doc_holder (M := M) (o := o) (W := W)
    (R0 := fun u => VS u B W (L + 0) (fs) ∧ Stp (Wown W) M o (o + 0) w u)
    (R1 := fun u => VS u B W (L + 40) (fs ++ flds s0) ∧ Stp (Wown W) M o (o + 4) w u)
    (fun u hu => (vnums_call hu.1 (Nat.le_trans hB hu.2.size) (le_room (a := 0) (b := 40) (by decide) hL) (f0.step hu.2 (.inl (Nat.le_refl _))) (Room.step (hr.part (a := 0) (m := 4) (by omega)) hu.2 (.inl (Nat.le_refl _))) k0 (Nat.lt_of_lt_of_le hM hu.2.size) (hu.2.keep hM hS) #[.pointer (some ⟨M, o, none⟩), .pointer (some ⟨M, o + 1, none⟩), .pointer (some ⟨M, o + 2, none⟩), .pointer (some ⟨M, o + 3, none⟩)] 82 (fun j hj => match j, hj with | 0, _ => rfl | 1, _ => rfl | 2, _ => rfl | 3, _ => rfl)).mono fun e w' ⟨h1, h2, h3⟩ => ⟨h1, h2.wide (le_sum _ _ _ _ (by decide)) (Nat.le_trans (Nat.add_le_add_left (by decide) _) hL), (hu.2.wider (Nat.le_refl _) (by omega)).trans (h3.wider (by omega) (by omega))⟩)
    w ⟨h.wide (by omega) (by omega), Stp.refl _ _ _ _ _⟩).mono fun e w' ⟨h1, h2, h3⟩ => ⟨h1, ?_, h3⟩
  simpa only [flds_append, List.append_assoc] using h2

theorem vlock_any {w : World} {B W L : Nat} {fs : List Fld} {M o : Nat} {xs : List Atom} (h : VS w B W L fs) (hB : B ≤ w.heap.size) (hL : L + 40 ≤ 70368744177664) (hf : FlatAt w (Out (Wown W) M w) M o xs) (hr : Room w M o 4) (hk : xs.map Atom.k = [0, 0, 0, 0]) (hM : M < w.heap.size) (hS : ¬ Wown W w M) :
    Calls Tryz.prog 87 #[.pointer (some ⟨W, 0, none⟩), .pointer (some ⟨M, o, none⟩)] w fun e w' => e = .returned (.tuple #[]) ∧ VS w' B W (L + 40) (fs ++ flds xs) ∧ Stp (Wown W) M o (o + 4) w w' := by
  obtain ⟨s0, rfl⟩ : ∃ s, s = xs := ⟨_, rfl⟩
  have k0 := hk
  have l0 : s0.length = 4 := by have := congrArg List.length k0; simpa using this
  have f0 := hf
  refine (doc_lock (M := M) (o := o) (W := W)
    (R0 := fun u => VS u B W (L + 0) (fs) ∧ Stp (Wown W) M o (o + 0) w u)
    (R1 := fun u => VS u B W (L + 40) (fs ++ flds s0) ∧ Stp (Wown W) M o (o + 4) w u)
    (fun u hu => (vnums_call hu.1 (Nat.le_trans hB hu.2.size) (le_room (a := 0) (b := 40) (by decide) hL) (f0.step hu.2 (.inl (Nat.le_refl _))) (Room.step (hr.part (a := 0) (m := 4) (by omega)) hu.2 (.inl (Nat.le_refl _))) k0 (Nat.lt_of_lt_of_le hM hu.2.size) (hu.2.keep hM hS) #[.pointer (some ⟨M, o, none⟩), .pointer (some ⟨M, o + 1, none⟩), .pointer (some ⟨M, o + 2, none⟩), .pointer (some ⟨M, o + 3, none⟩)] 82 (fun j hj => match j, hj with | 0, _ => rfl | 1, _ => rfl | 2, _ => rfl | 3, _ => rfl)).mono fun e w' ⟨h1, h2, h3⟩ => ⟨h1, h2.wide (le_sum _ _ _ _ (by decide)) (Nat.le_trans (Nat.add_le_add_left (by decide) _) hL), (hu.2.wider (Nat.le_refl _) (by omega)).trans (h3.wider (by omega) (by omega))⟩)
    w ⟨h.wide (by omega) (by omega), Stp.refl _ _ _ _ _⟩).mono fun e w' ⟨h1, h2, h3⟩ => ⟨h1, ?_, h3⟩
  simpa only [flds_append, List.append_assoc] using h2

theorem vend_any {w : World} {B W L : Nat} {fs : List Fld} {M o : Nat} {xs : List Atom} (h : VS w B W L fs) (hB : B ≤ w.heap.size) (hL : L + 20 ≤ 70368744177664) (hf : FlatAt w (Out (Wown W) M w) M o xs) (hr : Room w M o 2) (hk : xs.map Atom.k = [0, 0]) (hM : M < w.heap.size) (hS : ¬ Wown W w M) :
    Calls Tryz.prog 74 #[.pointer (some ⟨W, 0, none⟩), .pointer (some ⟨M, o, none⟩)] w fun e w' => e = .returned (.tuple #[]) ∧ VS w' B W (L + 20) (fs ++ flds xs) ∧ Stp (Wown W) M o (o + 2) w w' := by
  obtain ⟨s0, rfl⟩ : ∃ s, s = xs := ⟨_, rfl⟩
  have k0 := hk
  have l0 : s0.length = 2 := by have := congrArg List.length k0; simpa using this
  have f0 := hf
  refine (doc_end (M := M) (o := o) (W := W)
    (R0 := fun u => VS u B W (L + 0) (fs) ∧ Stp (Wown W) M o (o + 0) w u)
    (R1 := fun u => VS u B W (L + 20) (fs ++ flds s0) ∧ Stp (Wown W) M o (o + 2) w u)
    (fun u hu => (vnums_call hu.1 (Nat.le_trans hB hu.2.size) (le_room (a := 0) (b := 20) (by decide) hL) (f0.step hu.2 (.inl (Nat.le_refl _))) (Room.step (hr.part (a := 0) (m := 2) (by omega)) hu.2 (.inl (Nat.le_refl _))) k0 (Nat.lt_of_lt_of_le hM hu.2.size) (hu.2.keep hM hS) #[.pointer (some ⟨M, o, none⟩), .pointer (some ⟨M, o + 1, none⟩)] 82 (fun j hj => match j, hj with | 0, _ => rfl | 1, _ => rfl)).mono fun e w' ⟨h1, h2, h3⟩ => ⟨h1, h2.wide (le_sum _ _ _ _ (by decide)) (Nat.le_trans (Nat.add_le_add_left (by decide) _) hL), (hu.2.wider (Nat.le_refl _) (by omega)).trans (h3.wider (by omega) (by omega))⟩)
    w ⟨h.wide (by omega) (by omega), Stp.refl _ _ _ _ _⟩).mono fun e w' ⟨h1, h2, h3⟩ => ⟨h1, ?_, h3⟩
  simpa only [flds_append, List.append_assoc] using h2

theorem vspan_any {w : World} {B W L : Nat} {fs : List Fld} {M o : Nat} {xs : List Atom} (h : VS w B W L fs) (hB : B ≤ w.heap.size) (hL : L + 20 ≤ 70368744177664) (hf : FlatAt w (Out (Wown W) M w) M o xs) (hr : Room w M o 2) (hk : xs.map Atom.k = [0, 0]) (hM : M < w.heap.size) (hS : ¬ Wown W w M) :
    Calls Tryz.prog 85 #[.pointer (some ⟨W, 0, none⟩), .pointer (some ⟨M, o, none⟩)] w fun e w' => e = .returned (.tuple #[]) ∧ VS w' B W (L + 20) (fs ++ flds xs) ∧ Stp (Wown W) M o (o + 2) w w' := by
  obtain ⟨s0, rfl⟩ : ∃ s, s = xs := ⟨_, rfl⟩
  have k0 := hk
  have l0 : s0.length = 2 := by have := congrArg List.length k0; simpa using this
  have f0 := hf
  refine (doc_span (M := M) (o := o) (W := W)
    (R0 := fun u => VS u B W (L + 0) (fs) ∧ Stp (Wown W) M o (o + 0) w u)
    (R1 := fun u => VS u B W (L + 20) (fs ++ flds s0) ∧ Stp (Wown W) M o (o + 2) w u)
    (fun u hu => (vnums_call hu.1 (Nat.le_trans hB hu.2.size) (le_room (a := 0) (b := 20) (by decide) hL) (f0.step hu.2 (.inl (Nat.le_refl _))) (Room.step (hr.part (a := 0) (m := 2) (by omega)) hu.2 (.inl (Nat.le_refl _))) k0 (Nat.lt_of_lt_of_le hM hu.2.size) (hu.2.keep hM hS) #[.pointer (some ⟨M, o, none⟩), .pointer (some ⟨M, o + 1, none⟩)] 82 (fun j hj => match j, hj with | 0, _ => rfl | 1, _ => rfl)).mono fun e w' ⟨h1, h2, h3⟩ => ⟨h1, h2.wide (le_sum _ _ _ _ (by decide)) (Nat.le_trans (Nat.add_le_add_left (by decide) _) hL), (hu.2.wider (Nat.le_refl _) (by omega)).trans (h3.wider (by omega) (by omega))⟩)
    w ⟨h.wide (by omega) (by omega), Stp.refl _ _ _ _ _⟩).mono fun e w' ⟨h1, h2, h3⟩ => ⟨h1, ?_, h3⟩
  simpa only [flds_append, List.append_assoc] using h2



end Go.Proofs.YthklpkmdmkgjiaaGreat
