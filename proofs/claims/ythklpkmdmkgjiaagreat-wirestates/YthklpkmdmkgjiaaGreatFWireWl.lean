/- What the landed writer makes of a list of structs: the predicates that go with the walk of wire's list. No condition but the size. -/
import Derived.Test.YthklpkmdmkgjiaaGreatJH
import Derived.Test.YthklpkmdmkgjiaaGreatFWireLs
namespace Go.Proofs.YthklpkmdmkgjiaaGreat
open Go.ChangeShapes Go.WideShapes Go.ChangeAt Go.RowKit B8 Cm Wm
set_option linter.unusedVariables false

/-- a list at the cell p of M, a writer behind the fields fs -/
structure Wlp (w : World) (B W : Nat) (fs : List Fld) (M p : Nat) (a : Option Addr) (n cp d : Nat) (xss : List (List Atom)) : Prop where
  h : WS w B W fs
  hB : B ≤ w.heap.size
  hc : w.cell? ⟨M, p, none⟩ = some (.slice a n cp)
  hz : w.frozen? ⟨M, p, none⟩ = false
  hL : Ls w (Out (Wown W) M w) a n cp d xss
  hS : ¬ Wown W w M
  hd : 0 < d
def Wl1 (w : World) (B W : Nat) (fs : List Fld) (n : Nat) (k : Nat) (u : World) : Prop :=
  Stq (Wown W) w u ∧ ((k = n ∧ n ≤ 1024 ∧ WS u B W (fs ++ [fldN n])) ∨ (k = 0 ∧ (okAll fs = false ∨ 1024 < n) ∧ WSbad u B W))
def Wl2 (w : World) (B W : Nat) (fs : List Fld) (n d : Nat) (xss : List (List Atom)) (k g i : Nat) (u : World) : Prop :=
  w.heap.size ≤ g ∧ g < u.heap.size ∧ ¬ Wown W u g ∧ Stq (Wown W) w u ∧
    ((k = n ∧ n ≤ 1024 ∧ WS u B W (fs ++ fldN n :: ((xss.take i).map flds).flatten) ∧ ∀ j xs, xss[j]? = some xs → FlatAt u (Out (Wown W) g u) g (j * d) xs) ∨ (k = 0 ∧ (okAll fs = false ∨ 1024 < n) ∧ WSbad u B W))
def Wl3 (w : World) (B W : Nat) (fs : List Fld) (M p : Nat) (xss : List (List Atom)) (u : World) : Prop := WS u B W (fs ++ listF flds xss) ∧ Stp (Wown W) M p (p + 1) w u

theorem WSbad.some {u : World} {B W : Nat} {fs : List Fld} {n : Nat} (h : WSbad u B W) (hn : okAll fs = false ∨ 1024 < n) (gs : List Fld) : WS u B W (fs ++ fldN n :: gs) := by
  refine h _ ?_
  rcases hn with hn | hn
  · exact okAll_left _ _ hn
  · exact okAll_fit (by unfold fldN; simp; omega)
theorem wown_of_below {w w1 : World} {B W : Nat} {fs : List Fld} (h : WS w B W fs) (hb : Below w.heap.size w w1) {k : Nat} (hk : Wown W w1 k) : Wown W w k := by
  rcases hk with hk | ⟨v, h1, h2⟩
  · exact .inl hk
  · refine .inr ⟨v, ?_, h2⟩
    have := hb.cell (p := ⟨W, 0, none⟩) h.lt
    rw [this] at h1
    exact h1
theorem wq_below {w w1 : World} {B W : Nat} {fs : List Fld} (h : WS w B W fs) (hb : Below w.heap.size w w1) : Stq (Wown W) w w1 :=
  ⟨hb.os, hb.tape, hb.output, hb.size, fun k hk _ => hb.block k hk, fun k hk => .inl (wown_of_below h hb hk)⟩
theorem WS.other {w : World} {B W : Nat} {fs : List Fld} (h : WS w B W fs) {M p : Nat} (hM : ¬ Wown W w M) (v : Value) : WS (w.setCell ⟨M, p, none⟩ v) B W fs := by
  obtain ⟨x, xs, long, h⟩ := h
  have hW : W ≠ M := fun e => hM (.inl e.symm)
  have hc : ∀ o, (w.setCell ⟨M, p, none⟩ v).cell? ⟨W, o, none⟩ = w.cell? ⟨W, o, none⟩ := fun o => World.cell?_of_block (w := w) (a := ⟨W, o, none⟩) (Below.heap_setCell _ ⟨M, p, none⟩ _ _ hW)
  refine ⟨x, xs, long, (hc 0).trans h.c0, (hc 1).trans h.c1, by rw [World.frozen?_setCell]; exact h.f0, by rw [World.frozen?_setCell]; exact h.f1, ?_, h.wf, h.some_ok, h.some_no, h.apart, h.size, h.home⟩
  exact h.row.kept (grown_setCell w M p v) (.inr (fun e => hM (.inr ⟨x, h.c0, e⟩)))
theorem wown_other {w : World} {W M p : Nat} (hM : M ≠ W) {v : Value} {k : Nat} (hk : Wown W (w.setCell ⟨M, p, none⟩ v) k) : Wown W w k := by
  rcases hk with hk | ⟨x, h1, h2⟩
  · exact .inl hk
  · refine .inr ⟨x, ?_, h2⟩
    rw [World.cell?_of_block (w := w) (a := ⟨W, 0, none⟩) (Below.heap_setCell _ ⟨M, p, none⟩ _ _ (fun e => hM e.symm))] at h1
    exact h1

section
variable {w : World} {B W : Nat} {fs : List Fld} {M p : Nat} {a : Option Addr} {n cp d : Nat} {xss : List (List Atom)}
theorem Wlp.lt (h : Wlp w B W fs M p a n cp d xss) : M < w.heap.size := World.block_lt_of_cell? w _ h.hc
theorem wl_count (h : Wlp w B W fs M p a n cp d xss) : Calls Tryz.prog 110 #[.pointer (some ⟨W, 0, none⟩), .int .i64 n] w.drew fun e w' => ∃ k : Nat, k ≤ 1024 ∧ e = .returned (.int .i64 k) ∧ Wl1 w B W fs n k w' := by
  have hd : WS w.drew B W fs := h.h.below ⟨rfl, rfl, rfl, Nat.le_refl _, fun _ _ => rfl⟩
  have st : ∀ {u}, Stq (Wown W) w.drew u → Stq (Wown W) w u := fun g => ⟨g.os, g.tape, g.output, g.size, g.block, g.own⟩
  by_cases h1 : okAll fs = true ∧ n ≤ 1024
  · exact (wcount_yes hd h.hB h1.1 h1.2).mono fun e w' ⟨h2, h3, h4⟩ => ⟨n, h1.2, h2, st h4, .inl ⟨rfl, h1.2, h3⟩⟩
  · have h2 : okAll fs = false ∨ 1024 < n := by
      cases ho : okAll fs with
      | false => exact .inl rfl
      | true => exact .inr (by have : ¬ n ≤ 1024 := fun h5 => h1 ⟨ho, h5⟩; omega)
    exact (wcount_no hd h2).mono fun e w' ⟨h3, h4, h5⟩ => ⟨0, by omega, h3, st h5, .inr ⟨rfl, h2, h4⟩⟩
theorem wl1_ws {k : Nat} {u : World} (h : Wl1 w B W fs n k u) : ∃ gs, WS u B W gs := by
  rcases h.2 with ⟨_, _, h⟩ | ⟨_, h1, h⟩
  · exact ⟨_, h⟩
  · exact ⟨_, h.some h1 []⟩
theorem wl_copy (h : Wlp w B W fs M p a n cp d xss) (T : TypeId) (k : Nat) (u : World) (h1 : Wl1 w B W fs n k u) : u.cell? ⟨M, p, none⟩ = some (.slice a n cp) ∧ ∃ cs : List Value, cs.length = Nat.min n k * d ∧ (∀ v ∈ cs, v.oneCell' = true) ∧ (0 < cs.length → ∃ ad, a = some ad ∧ ∀ j v, cs[j]? = some v → u.cell? (ad.add j) = some v) ∧
      ∀ (zs : List Value) (w' : World), w'.heap[u.heap.size]? = some (.cells (cs ++ zs).toArray T (0, 0)) → Below u.heap.size u w' → Wl2 w B W fs n d xss k u.heap.size 0 w' := by
  refine ⟨h1.1.cell h.hc h.hS, ?_⟩
  obtain ⟨gs, hws⟩ := wl1_ws h1
  have ng : ∀ {w'}, Below u.heap.size u w' → ¬ Wown W w' u.heap.size := fun hb hk => by have := (hws.base _ (wown_of_below hws hb hk)).2; omega
  rcases h1.2 with ⟨rfl, hn, hw⟩ | ⟨rfl, hn, hw⟩
  · have hLu : Ls u (Out (Wown W) M u) a k cp d xss := h.hL.same (fun b hb => ⟨⟨Nat.lt_of_lt_of_le hb.1 h1.1.size, h1.1.keep hb.1 hb.2.1, hb.2.2⟩, h1.1.block b hb.1 hb.2.1⟩)
    obtain ⟨cs, e1, e2, e3, e4⟩ := hLu.cells h.hd k (Nat.le_refl _)
    refine ⟨cs, by rw [e1]; congr 1; simp, e2, e3, fun zs w' hr hb => ⟨h1.1.size, (Array.getElem?_eq_some_iff.1 hr).1, ng hb, h1.1.trans (wq_below hws hb), .inl ⟨rfl, hn, by simpa using hw.below hb, fun j xs hx q x hy => ?_⟩⟩⟩
    have hj : j < k := by have := (List.getElem?_eq_some_iff.1 hx).1; have := h.hL.length; omega
    obtain ⟨v, hv, hA⟩ := e4 j q xs x hj hx hy
    refine ⟨v, ?_, hA.same (fun b hb2 => ⟨⟨Nat.lt_of_lt_of_le hb2.1 hb.size, fun hk => hb2.2.1 (wown_of_below hws hb hk), by have := hb2.1; omega⟩, hb.block b hb2.1⟩)⟩
    rw [cell_of_row w' _ _ _ _ _ hr]
    have hl : j * d + q < cs.length := (List.getElem?_eq_some_iff.1 hv).1
    simp only [List.getElem?_toArray]
    rw [List.getElem?_append_left hl]
    exact hv
  · refine ⟨[], by simp, fun v hv => by simp at hv, fun h0 => absurd h0 (by simp), fun zs w' hr hb => ⟨h1.1.size, (Array.getElem?_eq_some_iff.1 hr).1, ng hb, h1.1.trans (wq_below hws hb), .inr ⟨rfl, hn, hw.below hb⟩⟩⟩
theorem wl_item (h : Wlp w B W fs M p a n cp d xss) {k g i : Nat} {u u' : World} {F : FuncId} {args : Array Value} (hi : i < k) (h2 : Wl2 w B W fs n d xss k g i u)
    (C : ∀ (fs' : List Fld) (xs : List Atom), xss[i]? = some xs → WS u B W fs' → B ≤ u.heap.size → FlatAt u (Out (Wown W) g u) g (i * d) xs → g < u.heap.size → ¬ Wown W u g → Calls Tryz.prog F args u' fun e w' => e = .returned (.tuple #[]) ∧ WS w' B W (fs' ++ flds xs) ∧ Stq (Wown W) u w') :
    Calls Tryz.prog F args u' fun e w' => e = .returned (.tuple #[]) ∧ Wl2 w B W fs n d xss k g (i + 1) w' := by
  obtain ⟨hg1, hg2, hg3, hst, ⟨rfl, hn, hw, hf⟩ | ⟨rfl, _, _⟩⟩ := h2
  · have hl := h.hL.length
    obtain ⟨xs, hx⟩ : ∃ xs, xss[i]? = some xs := ⟨_, List.getElem?_eq_getElem (by omega)⟩
    refine (C _ xs hx hw (Nat.le_trans h.hB hst.size) (hf i xs hx) hg2 hg3).mono fun e w' ⟨h3, h4, h5⟩ => ⟨h3, hg1, Nat.lt_of_lt_of_le hg2 h5.size, h5.keep hg2 hg3, hst.trans h5, .inl ⟨rfl, hn, ?_, fun j ys hy => (hf j ys hy).stq h5 hg2 hg3⟩⟩
    have e : xss.take (i + 1) = xss.take i ++ [xs] := by rw [List.take_add_one, hx]; rfl
    rw [e, List.map_append, List.flatten_append]
    simpa using h4
  · omega
theorem wl_store (h : Wlp w B W fs M p a n cp d xss) {k g : Nat} {u : World} (h2 : Wl2 w B W fs n d xss k g k u) :
    (∃ v, u.cell? ⟨M, p, none⟩ = some v) ∧ u.frozen? ⟨M, p, none⟩ = false ∧ ∀ v, Wl3 w B W fs M p xss (u.setCell ⟨M, p, none⟩ v) := by
  obtain ⟨hg1, hg2, hg3, hst, hor⟩ := h2
  have hM := h.lt
  have nM : ¬ Wown W u M := hst.keep hM h.hS
  have fM : u.frozen? ⟨M, p, none⟩ = false := (World.frozen?_of_block (w := w) (a := ⟨M, p, none⟩) (hst.block M hM h.hS)).trans h.hz
  refine ⟨⟨_, hst.cell h.hc h.hS⟩, fM, fun v => ⟨?_, ?_⟩⟩
  · have hws : WS u B W (fs ++ listF flds xss) := by
      unfold listF
      rw [h.hL.length]
      rcases hor with ⟨rfl, _, hw, _⟩ | ⟨rfl, hn, hw⟩
      · rw [List.take_of_length_le (by rw [h.hL.length]; exact Nat.le_refl _)] at hw
        exact hw
      · exact hw.some hn _
    exact hws.other nM v
  · have g := hst.to hM h.hS p (p + 1)
    refine ⟨g.os, g.tape, g.output, by simpa [World.setCell] using g.size, fun k hk hs hne => (Below.heap_setCell _ ⟨M, p, none⟩ _ _ hne).trans (g.block k hk hs hne), fun o ho => ?_, fun o => (World.frozen?_setCell _ _ _ _).trans (g.frozen o), fun k hk => g.own k (wown_other (fun e => nM (.inl e)) hk)⟩
    have ne : (⟨M, p, none⟩ : Addr) ≠ ⟨M, o, none⟩ := fun e => by
      have : p = o := by injection e
      omega
    rw [World.cell?_setCell_other _ _ _ _ ne]
    exact g.cell o ho
end
end Go.Proofs.YthklpkmdmkgjiaaGreat
