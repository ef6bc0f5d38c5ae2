/- What goes with the document's walk over a list of structs as it writes. No condition. -/
import Derived.Test.YtmajhkmgdkbjoaaGreatFWireVl
import Derived.Test.YtmajhkmgdkbjoaaGreatFWireLsMore
namespace Go.Proofs.YtmajhkmgdkbjoaaGreat
open Go.ChangeShapes Go.WideShapes Go.ChangeAt Go.RowKit B8 Cm Wm
set_option linter.unusedVariables false

theorem Ls.row {w : World} {P : Nat → Prop} {a : Option Addr} {n cp d : Nat} {xss : List (List Atom)} (h : Ls w P a n cp d xss) {i : Nat} {xs : List Atom} (hx : xss[i]? = some xs) (h0 : 0 < n) :
    ∃ (b off : Nat) (cs : List Value), a = some ⟨b, off, none⟩ ∧ P b ∧ cs.length = d ∧ (∀ j v, cs[j]? = some v → w.cell? ⟨b, off + i * d + j, none⟩ = some v) ∧ Vals w P cs.toArray xs := by
  obtain ⟨b, off, e, hp, hr⟩ := h.rows h0
  obtain ⟨hl, hf⟩ := hr i xs hx
  have hc : ∀ j, j < d → ((List.range d).map fun j => (w.cell? ⟨b, off + i * d + j, none⟩).getD undef)[j]? = w.cell? ⟨b, off + i * d + j, none⟩ := fun j hj => by
    obtain ⟨v, h1, _⟩ := hf j _ (List.getElem?_eq_getElem (by omega))
    rw [List.getElem?_map, List.getElem?_range hj]
    simp [h1]
  refine ⟨b, off, (List.range d).map fun j => (w.cell? ⟨b, off + i * d + j, none⟩).getD undef, e, hp, by simp, fun j v hv => ?_, by simp [hl], fun j x hx => ?_⟩
  · have hj : j < d := by have := (List.getElem?_eq_some_iff.1 hv).1; simpa using this
    rw [hc j hj] at hv
    exact hv
  · obtain ⟨v, h1, h2⟩ := hf j x hx
    refine ⟨v, ?_, h2⟩
    have hj : j < d := by have := (List.getElem?_eq_some_iff.1 hx).1; omega
    have := hc j hj
    simp only [List.getElem?_toArray]
    rw [this]
    exact h1
theorem Vals.oneAt {w : World} {P : Nat → Prop} {cs : Array Value} {xs : List Atom} (h : Vals w P cs xs) (j : Nat) {v : Value} (hv : cs[j]? = some v) : v.oneCell' = true := by
  have hj : j < xs.length := by rw [← h.1]; exact (Array.getElem?_eq_some_iff.1 hv).1
  obtain ⟨u, h1, h2⟩ := h.2 j _ (List.getElem?_eq_getElem hj)
  rw [hv] at h1
  obtain rfl := Option.some.inj h1
  exact atomV_one h2
theorem VS.c1 {w : World} {B W L : Nat} {fs : List Fld} (h : VS w B W L fs) : w.cell? ⟨W, 1, none⟩ = some (.pointer none) := by obtain ⟨v, xs, long, h⟩ := h; exact h.c1
theorem flat_new {w : World} {B W L : Nat} {fs : List Fld} {P : Nat → Prop} {cs : Array Value} {xs : List Atom} (h : VS w B W L fs) (hv : Vals w P cs xs) (hP : ∀ b, P b → b < w.heap.size ∧ ¬ Wown W w b) (T : TypeId) :
    FlatAt (w.alloc (.cells cs T)) (Out (Wown W) w.heap.size (w.alloc (.cells cs T))) w.heap.size 0 xs := by
  have hb := below_alloc1 w (.cells cs T)
  have hq := stq_below hb h.lt
  exact flat_of_vals (heap_alloc_new w _) (hv.same fun b hb2 => ⟨⟨Nat.lt_of_lt_of_le (hP b hb2).1 hb.size, hq.keep (hP b hb2).1 (hP b hb2).2, by have := (hP b hb2).1; omega⟩, hb.block b (hP b hb2).1⟩)
theorem room_new (w : World) (cs : Array Value) (T : TypeId) (d : Nat) (hd : cs.size = d) : Room (w.alloc (.cells cs T)) w.heap.size 0 d := fun j hj => by
  have hrow : (w.alloc (.cells cs T)).heap[w.heap.size]? = some (.cells cs T (0, 0)) := heap_alloc_new w _
  exact ⟨⟨cs[j], by rw [cell_of_row _ _ _ _ _ _ hrow, Nat.zero_add]; exact Array.getElem?_eq_getElem (by omega)⟩, frozen_of_row _ _ _ _ _ hrow⟩

theorem le_step (L j D : Nat) : L + 10 + j * D + D ≤ L + 10 + (j + 1) * D := by rw [Nat.add_mul]; omega
theorem le_loop {L j D N : Nat} (hj : j + 1 ≤ 1024) (h : L + 10 + 1024 * D ≤ N) : L + 10 + (j + 1) * D ≤ N := by have := Nat.mul_le_mul_right D hj; omega
theorem le_turn {L j D N : Nat} (hj : j + 1 ≤ 1024) (h : L + 10 + 1024 * D ≤ N) : L + 10 + j * D + D ≤ N := Nat.le_trans (le_step L j D) (le_loop hj h)
def VLoop (u : World) (B W L D : Nat) (fs : List Fld) (n k : Nat) (xss : List (List Atom)) (j : Nat) : Prop :=
  (k = n ∧ n ≤ 1024 ∧ VS u B W (L + 10 + j * D) (fs ++ fldN n :: ((xss.take j).map flds).flatten)) ∨ (k = 0 ∧ (okAll fs = false ∨ 1024 < n) ∧ VSbad u B W (L + 10))
section
variable {w u : World} {B W L D : Nat} {fs : List Fld} {n k j : Nat} {xss : List (List Atom)} {xs : List Atom}
theorem bad_fields (hn : okAll fs = false ∨ 1024 < n) (gs : List Fld) : okAll (fs ++ fldN n :: gs) = false := by
  rcases hn with hn | hn
  · exact okAll_left _ _ hn
  · exact okAll_fit (by unfold fldN; simp; omega)
theorem ManyV.c1 (h : ManyV w B W L fs n k u) : u.cell? ⟨W, 1, none⟩ = some (.pointer none) := by
  rcases h.2 with ⟨_, _, h⟩ | ⟨_, h1, h⟩
  · exact h.c1
  · exact (h _ (bad_fields h1 [])).c1
theorem ManyV.le (h : ManyV w B W L fs n k u) : k ≤ n ∧ k ≤ 1024 := by
  rcases h.2 with ⟨rfl, h, _⟩ | ⟨rfl, _, _⟩
  · exact ⟨Nat.le_refl _, h⟩
  · exact ⟨Nat.zero_le _, Nat.zero_le _⟩
theorem ManyV.start (h : ManyV w B W L fs n k u) (D : Nat) (xss : List (List Atom)) : VLoop u B W L D fs n k xss 0 := by
  rcases h.2 with ⟨h1, h2, h3⟩ | h
  · exact .inl ⟨h1, h2, by simpa using h3⟩
  · exact .inr h
theorem VLoop.good (h : VLoop u B W L D fs n k xss j) (hj : j < k) : k = n ∧ n ≤ 1024 ∧ VS u B W (L + 10 + j * D) (fs ++ fldN n :: ((xss.take j).map flds).flatten) := by
  rcases h with h | ⟨h, _⟩
  · exact h
  · omega
theorem VLoop.next (hk : k = n) (hn : n ≤ 1024) (hx : xss[j]? = some xs) {L1 : Nat} (h : VS u B W L1 (fs ++ fldN n :: ((xss.take j).map flds).flatten ++ flds xs)) (hl : L1 ≤ L + 10 + (j + 1) * D) (hr : L + 10 + (j + 1) * D ≤ 70368744177664) : VLoop u B W L D fs n k xss (j + 1) := by
  refine .inl ⟨hk, hn, ?_⟩
  have e : xss.take (j + 1) = xss.take j ++ [xs] := by rw [List.take_add_one, hx]; rfl
  rw [e, List.map_append, List.flatten_append]
  have h' := h.wide (L' := L + 10 + (j + 1) * D) hl hr
  simpa using h'
theorem VLoop.stop (hl : xss.length = n) (h : VS u B W (L + 10 + j * D) (fs ++ fldN n :: ((xss.take j).map flds).flatten)) (ho : okAll (fs ++ fldN n :: ((xss.take j).map flds).flatten) = false) (hj : L + 10 + j * D ≤ L + 10 + 1024 * D) (hr : L + 10 + 1024 * D ≤ 70368744177664) : VS u B W (L + 10 + 1024 * D) (fs ++ listF flds xss) := by
  refine (h.bad ho _ ?_).wide hj hr
  unfold listF
  rw [hl]
  have e : (xss.map flds).flatten = ((xss.take j).map flds).flatten ++ ((xss.drop j).map flds).flatten := by rw [← List.flatten_append, ← List.map_append, List.take_append_drop]
  rw [e, ← List.cons_append, ← List.append_assoc]
  exact okAll_left _ _ ho
theorem VLoop.done (h : VLoop u B W L D fs n k xss k) (hl : xss.length = n) (hr : L + 10 + 1024 * D ≤ 70368744177664) : VS u B W (L + 10 + 1024 * D) (fs ++ listF flds xss) := by
  unfold listF
  rw [hl]
  rcases h with ⟨rfl, hn, h⟩ | ⟨rfl, hn, h⟩
  · rw [List.take_of_length_le (by omega)] at h
    exact h.wide (by have := Nat.mul_le_mul_right D hn; omega) hr
  · exact (h _ (bad_fields hn _)).wide (by omega) hr
end
end Go.Proofs.YtmajhkmgdkbjoaaGreat
