/- What goes with the document's walk as it reads a list of structs that hold bytes: the rows that were read so far, and where their bytes lie. No condition but the size. -/
import Derived.Test.YtmajhkmgdkbjoaaGreatFWireXl
namespace Go.Proofs.YtmajhkmgdkbjoaaGreat
open Go.ChangeShapes Go.WideShapes Go.ChangeAt Go.RowKit B8 Cm Wm
set_option linter.unusedVariables false

/-- the bytes lie in blocks from lo on, none of them the list's own -/
def Qr (lo : Nat) (own : Option Nat) (u : World) (k : Nat) : Prop := lo ≤ k ∧ k < u.heap.size ∧ own ≠ some k
/-- the rows that were read so far, as cells -/
def Xrw (u : World) (P : Nat → Prop) (rows : List (List Value)) (xss : List (List Atom)) (d : Nat) : Prop := rows.length = xss.length ∧ ∀ (i : Nat) (row : List Value) (xs : List Atom), rows[i]? = some row → xss[i]? = some xs → row.length = d ∧ Vals u P row.toArray xs
theorem Xrw.same {u u' : World} {P P' : Nat → Prop} {rows : List (List Value)} {xss : List (List Atom)} {d : Nat} (h : Xrw u P rows xss d) (hb : ∀ b, P b → P' b ∧ u'.heap[b]? = u.heap[b]?) : Xrw u' P' rows xss d :=
  ⟨h.1, fun i r x hr hx => ⟨(h.2 i r x hr hx).1, (h.2 i r x hr hx).2.same hb⟩⟩
theorem Xrw.snoc {u : World} {P : Nat → Prop} {rows : List (List Value)} {xss : List (List Atom)} {d : Nat} (h : Xrw u P rows xss d) {row : List Value} {xs : List Atom} (hl : row.length = d) (hv : Vals u P row.toArray xs) : Xrw u P (rows ++ [row]) (xss ++ [xs]) d := by
  refine ⟨by simp [h.1], fun i r x hr hx => ?_⟩
  by_cases hi : i < rows.length
  · rw [List.getElem?_append_left hi] at hr
    rw [List.getElem?_append_left (by rw [← h.1]; exact hi)] at hx
    exact h.2 i r x hr hx
  · rw [List.getElem?_append_right (by omega)] at hr
    rw [List.getElem?_append_right (by rw [← h.1]; omega), ← h.1] at hx
    have h0 : i - rows.length = 0 := by have := (List.getElem?_eq_some_iff.1 hr).1; simp at this; omega
    rw [h0] at hr hx
    obtain rfl : row = r := by simpa using hr
    obtain rfl : xs = x := by simpa using hx
    exact ⟨hl, hv⟩
theorem Xrw.all {u : World} {P : Nat → Prop} {rows : List (List Value)} {xss : List (List Atom)} {d : Nat} (h : Xrw u P rows xss d) : ∀ r ∈ rows, r.length = d := fun r hr => by
  obtain ⟨i, hi, e⟩ := List.getElem_of_mem hr
  exact (h.2 i r (xss[i]'(by rw [← h.1]; exact hi)) (by rw [List.getElem?_eq_getElem hi, e]) (List.getElem?_eq_getElem (by rw [← h.1]; exact hi))).1
/-- the list in memory -/
theorem ls_of_rowsb {w : World} {B0 T d j cv : Nat} {av : Option Addr} {P Q : Nat → Prop} {rows : List (List Value)} {xss : List (List Atom)} (h : w.ownsRow B0 T d (.slice av j cv) j rows.flatten) (hx : Xrw w Q rows xss d) (hQ : ∀ k, Q k → P k) (hl : xss.length = j) (hd : 0 < d) (hP : ∀ k, (Value.slice av j cv).ownBlock = some k → P k) : Ls w P av j cv d xss := by
  rcases h.2 with ⟨e1, e2⟩ | ⟨g, cp, cur, e1, _, _, hjc, _⟩
  · obtain ⟨rfl, rfl, rfl⟩ : av = none ∧ j = 0 ∧ cv = 0 := by simpa using e1
    exact ⟨hl, Nat.le_refl _, fun _ => rfl, fun h0 => absurd h0 (by omega)⟩
  · obtain ⟨rfl, rfl⟩ : av = some ⟨g, 0, none⟩ ∧ cv = cp := by simpa using e1
    refine ⟨hl, hjc, (fun e => by cases e), fun _ => ⟨g, 0, rfl, hP g rfl, fun i xs hxs => ?_⟩⟩
    have hi : i < rows.length := by rw [hx.1]; exact (List.getElem?_eq_some_iff.1 hxs).1
    obtain ⟨r1, r2⟩ := hx.2 i _ xs (List.getElem?_eq_getElem hi) hxs
    have hv := r2.same (w1 := w) (P' := P) fun b hb => ⟨hQ b hb, rfl⟩
    have hlx : xs.length = d := by have := hv.1; simp at this; omega
    refine ⟨hlx, fun q y hy => ?_⟩
    obtain ⟨v, hv1, hv2⟩ := hv.2 q y hy
    refine ⟨v, ?_, hv2⟩
    have hq : q < d := by have := (List.getElem?_eq_some_iff.1 hy).1; omega
    have := h.cells (g := g) rfl (i * d + q) v (by rw [flatten_at rows hx.all i _ (List.getElem?_eq_getElem hi) q hq]; simpa using hv1)
    rw [Addr.add_mid, Nat.zero_add] at this
    rw [Nat.zero_add]
    exact this
theorem xrow_ofb {w : World} {P : Nat → Prop} {N d : Nat} {xs : List Atom} (hf : FlatAt w P N 0 xs) (hl : xs.length = d) : ∃ cs : List Value, cs.length = d ∧ (∀ j v, cs[j]? = some v → w.cell? ⟨N, j, none⟩ = some v) ∧ Vals w P cs.toArray xs := by
  have hc : ∀ j, j < d → ((List.range d).map fun j => (w.cell? ⟨N, j, none⟩).getD undef)[j]? = w.cell? ⟨N, j, none⟩ := fun j hj => by
    obtain ⟨v, h1, _⟩ := hf j _ (List.getElem?_eq_getElem (by omega))
    rw [Nat.zero_add] at h1
    rw [List.getElem?_map, List.getElem?_range hj]
    simp [h1]
  refine ⟨(List.range d).map fun j => (w.cell? ⟨N, j, none⟩).getD undef, by simp, fun j v hv => ?_, ⟨by simp [hl], fun j x hx => ?_⟩⟩
  · have hj : j < d := by have := (List.getElem?_eq_some_iff.1 hv).1; simpa using this
    rw [hc j hj] at hv
    exact hv
  · obtain ⟨v, h1, h2⟩ := hf j x hx
    rw [Nat.zero_add] at h1
    have hj : j < d := by have := (List.getElem?_eq_some_iff.1 hx).1; omega
    refine ⟨v, ?_, h2⟩
    simp only [List.getElem?_toArray]
    rw [hc j hj]
    exact h1
theorem XS.base {w : World} {B B' W R : Nat} {a : Option Addr} {n cp : Nat} {bs : List Int} {s : St} (h : XS w B W R a n cp bs s) (hB : B' ≤ w.heap.size) : XS w B' W R a n cp bs s := ⟨h.c1, h.rd, h.ne, h.ap, h.home, h.small, hB⟩
end Go.Proofs.YtmajhkmgdkbjoaaGreat
