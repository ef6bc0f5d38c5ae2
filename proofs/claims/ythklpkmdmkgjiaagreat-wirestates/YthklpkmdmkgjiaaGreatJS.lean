/- What the document's walk reads of a mark. No condition but the size. The document's walk as it reads: how many there are; may it go on; what goes with its walk over a list of structs of numbers, flags and strings. No condition but the size. What goes with the document's walk as it reads a list of structs that hold bytes: the rows that were read so far, and where their bytes lie. No condition but the size. -/
import Derived.Test.YthklpkmdmkgjiaaGreatJM
import Derived.Test.YthklpkmdmkgjiaaGreatJL
import Derived.Test.YthklpkmdmkgjiaaGreatJK
import Derived.Test.YthklpkmdmkgjiaaGreatJR
import Derived.Test.YthklpkmdmkgjiaaGreatFAppendWide
namespace Go.Proofs.YthklpkmdmkgjiaaGreat
open Go.ChangeShapes Go.WideShapes Go.ChangeAt Go.RowKit B8 Cm Wm
set_option linter.unusedVariables false

theorem xanswer_any {B W R : Nat} {a : Option Addr} {n cp : Nat} {bs : List Int} {s : St} {M o : Nat} {w : World} (h : XS w B W R a n cp bs s) (hF : Far W R a M) (hM : M < w.heap.size) (hr : Room w M o 4) (hz : ∃ z : Int, w.cell? ⟨M, o, none⟩ = some (.int .i64 z)) :
    Calls Tryz.prog 88 #[.pointer (some ⟨W, 0, none⟩), .pointer (some ⟨M, o, none⟩)] w (XP B W R a n cp bs s M o w [0, 0, 0, 0]) := by
  obtain ⟨z, hc⟩ := hz
  have hb0 : Below w.heap.size w (w.alloc (.cells #[.int .i64 z] 3)) := Below.alloc (Below.refl _ _) (Nat.le_refl _) _
  have st0 : Stq (Rown W R) w (w.alloc (.cells #[.int .i64 z] 3)) := rq_below W R hb0
  have hrow : (w.alloc (.cells #[.int .i64 z] 3)).heap[w.heap.size]? = some (.cells #[.int .i64 z] 3 (0, 0)) := heap_alloc_new w _
  have hlt := h.lt
  have fN : Far W R a w.heap.size := ⟨by omega, by omega, fun b off e => by have := (h.ap b off e).2; omega⟩
  have ltN : w.heap.size < (w.alloc (.cells #[.int .i64 z] 3)).heap.size := (Array.getElem?_eq_some_iff.1 hrow).1
  have rN : Room (w.alloc (.cells #[.int .i64 z] 3)) w.heap.size 0 1 := fun j hj => by
    obtain rfl : j = 0 := by omega
    exact ⟨⟨.int .i64 z, by rw [cell_of_row _ _ _ _ _ _ hrow]; rfl⟩, frozen_of_row _ _ _ _ _ hrow⟩
  exact doc_answer (M := M) (o := o) (W := W) (z := z)
    (R0 := fun u => u = w)
    (R1 := fun N u => N = w.heap.size ∧ XS u B W R a n cp bs (atomA bs 0 s).s ∧ FlatAt u (OutB B (Rown W R) N u) N 0 [(atomA bs 0 s).v] ∧ Stp (Rown W R) N 0 (0 + 1) (w.alloc (.cells #[.int .i64 z] 3)) u)
    (R2 := XI B W R a n cp bs s M o w [0])
    (R3 := XI B W R a n cp bs s M o w [0, 0, 0, 0])
    (fun u hu => by subst hu; exact hc)
    (fun u hu => by
      subst hu
      exact (xnum_any (h.below hb0) fN ltN rN).mono fun e w' ⟨h1, h2, h3, h4⟩ => ⟨h1, rfl, h2, h3, h4⟩)
    (fun N u hu => by
      obtain ⟨rfl, hx, hf, hs⟩ := hu
      have hst := hs.inner st0 (Nat.le_refl _)
      have eM := hst.block M hM (far_own hF w)
      obtain ⟨v, hv, hA⟩ := hf 0 _ rfl
      obtain ⟨rfl, _, _⟩ := atom_int hA rfl
      have cM := (World.cell?_of_block (w := w) (a := ⟨M, o, none⟩) eM).trans hc
      refine ⟨_, hv, ⟨_, cM⟩, (World.frozen?_of_block (w := w) (a := ⟨M, o, none⟩) eM).trans (hr 0 (by omega)).2, hx.store hF _, ?_, stp_set hst hM (far_own hF w) (fun v k hk => hk) _⟩
      intro j y hy
      match j, hy with
      | 0, hy =>
        have ey : (atomA bs 0 s).v = y := by simpa [flatA] using hy
        subst ey
        exact ⟨_, World.cell?_setCell_same _ _ _ cM, .inl ⟨rfl, rfl, (atom_int hA rfl).2⟩⟩)
    (fun u hu => (xnums_call (k := 3) hu.1 hF (hu.lt hM) (hu.room hr (show 1 + 3 ≤ 4 by omega)) #[.pointer (some ⟨M, o + 1, none⟩), .pointer (some ⟨M, o + 2, none⟩), .pointer (some ⟨M, o + 3, none⟩)] 82 (fun j hj => match j, hj with | 0, _ => rfl | 1, _ => rfl | 2, _ => rfl)).mono fun e w' ⟨h1, h2⟩ => ⟨h1, hu.more h2⟩)
    w rfl
theorem xmark_any {B W R : Nat} {a : Option Addr} {n cp : Nat} {bs : List Int} {s : St} {M o : Nat} {w : World} (h : XS w B W R a n cp bs s) (hF : Far W R a M) (hM : M < w.heap.size) (hr : Room w M o 7) (hz : ∃ z : Int, w.cell? ⟨M, o + 3, none⟩ = some (.int .i64 z)) :
    Calls Tryz.prog 71 #[.pointer (some ⟨W, 0, none⟩), .pointer (some ⟨M, o, none⟩)] w (XP B W R a n cp bs s M o w [0, 0, 2, 0, 0, 0, 0]) := by
  exact doc_mark (M := M) (o := o) (W := W)
    (R0 := XI B W R a n cp bs s M o w [])
    (R1 := XI B W R a n cp bs s M o w [0, 0])
    (R2 := XI B W R a n cp bs s M o w [0, 0, 2])
    (R3 := XI B W R a n cp bs s M o w [0, 0, 2, 0, 0, 0, 0])
    (fun u hu => (xnums_call hu.1 hF (hu.lt hM) (hu.room hr (show 0 + 2 ≤ 7 by omega)) #[.pointer (some ⟨M, o, none⟩), .pointer (some ⟨M, o + 1, none⟩)] 82 (fun j hj => match j, hj with | 0, _ => rfl | 1, _ => rfl)).mono fun e w' ⟨h1, h2⟩ => ⟨h1, hu.more h2⟩)
    (fun u hu => (xflag_call hu.1 hF (hu.lt hM) (hu.room hr (show 2 + 1 ≤ 7 by omega))).mono fun e w' ⟨h1, h2⟩ => ⟨h1, hu.more h2⟩)
    (fun u hu => (xanswer_any hu.1 hF (hu.lt hM) (hu.room hr (show 3 + 4 ≤ 7 by omega)) (by obtain ⟨z, hz⟩ := hz; exact ⟨z, (hu.2.2.cell (o + 3) (by show ¬ (o ≤ o + 3 ∧ o + 3 < o + 3); omega)).trans hz⟩)).mono fun e w' ⟨h1, h2⟩ => ⟨h1, hu.more h2⟩)
    w (XI.start h)
end Go.Proofs.YthklpkmdmkgjiaaGreat

namespace Go.Proofs.YthklpkmdmkgjiaaGreat
open Go.ChangeShapes Go.WideShapes Go.ChangeAt Go.RowKit B8 Cm Wm
set_option linter.unusedVariables false

theorem xmany_any {w : World} {B W R : Nat} {a : Option Addr} {n cp : Nat} {bs : List Int} {s : St} (x : Int) (h : XS w B W R a n cp bs s) :
    Calls Tryz.prog 68 #[.pointer (some ⟨W, 0, none⟩), .int .i64 x] w fun e w' => e = .returned (.int .i64 ((countA bs 1024 s).v : Nat)) ∧ XS w' B W R a n cp bs (countA bs 1024 s).s ∧ Stq (Rown W R) w w' := by
  have c1 := h.c1
  have C := hide (count_any (s := s) 1024 (by omega) h.rd)
  have H := hide h
  clear h
  go_enter Tryz.func68, Tryz.ntmps68
  go_wp2_with fail
  refine C.out.mono ?_
  rintro e w1 ⟨rfl, hr1, hg1⟩
  have X1 := hide (H.out.read hr1 hg1)
  have S1 : Hid (Stq (Rown W R) w w1) := ⟨hg1.os, hg1.tape, hg1.output, hg1.size, fun k hk hs => hg1.block k hk (fun e => hs (.inr (by simpa using e))), fun k hk => .inl hk⟩
  clear hr1 hg1 c1 C
  go_wp2_with fail
  go_ret
  exact ⟨rfl, X1.out, S1.out⟩
theorem xmore_any {w : World} {B W R : Nat} {a : Option Addr} {n cp : Nat} {bs : List Int} {s : St} (h : XS w B W R a n cp bs s) :
    Calls Tryz.prog 69 #[.pointer (some ⟨W, 0, none⟩)] w fun e w' => e = .returned (.bool (decide (s.err = 0))) ∧ w' = w := by
  have c1 := h.c1
  have c2 := h.rd.c2
  clear h
  generalize s.err = E at *
  by_cases he : E = 0
  · subst he
    go_enter Tryz.func69, Tryz.ntmps69
    go_wp2_with fail
    go_ret
    exact ⟨rfl, rfl⟩
  · have hx : (E == 0) = false := by simpa using he
    have hd : Hid (decide (E = 0) = false) := by show _ = _; simpa using he
    have HE := hide he
    clear he
    go_enter Tryz.func69, Tryz.ntmps69
    go_wp2_with fail
    go_ret
    rw [hd.out]
    exact ⟨rfl, rfl⟩
/-- a field that is no list of bytes hangs on no memory -/
theorem AtomV.free {w w' : World} {P P' : Nat → Prop} {v : Value} {x : Atom} (h : AtomV w P v x) (hk : x.k ≤ 3) : AtomV w' P' v x := by
  rcases h with h | h | h | h | h
  · exact .inl h
  · exact .inr (.inl h)
  · exact .inr (.inr (.inl h))
  · exact .inr (.inr (.inr (.inl h)))
  · exact absurd h.1 (by omega)
theorem timesA_later {α : Type} (item : St → Ans α) (hi : ∀ s, ¬ s.err = 0 → (item s).s = s) (j : Nat) (s : St) (h : ¬ (timesA item j s).s.err = 0) : ∀ m, (timesA item (j + m) s).s = (timesA item j s).s
  | 0 => rfl
  | m + 1 => by
    rw [← Nat.add_assoc, timesA_snoc]
    show (item (timesA item (j + m) s).s).s = _
    rw [timesA_later item hi j s h m]
    exact hi _ h
/-- the rows that were read so far, as cells -/
def Xrows (rows : List (List Value)) (xss : List (List Atom)) (d : Nat) : Prop := rows.length = xss.length ∧ ∀ (i : Nat) (row : List Value) (xs : List Atom), rows[i]? = some row → xss[i]? = some xs → row.length = d ∧ ∀ (w : World) (P : Nat → Prop), Vals w P row.toArray xs
theorem Xrows.snoc {rows : List (List Value)} {xss : List (List Atom)} {d : Nat} (h : Xrows rows xss d) {row : List Value} {xs : List Atom} (hl : row.length = d) (hv : ∀ (w : World) (P : Nat → Prop), Vals w P row.toArray xs) : Xrows (rows ++ [row]) (xss ++ [xs]) d := by
  refine ⟨by simp [h.1], fun i r x hr hx => ?_⟩
  by_cases hi : i < rows.length
  · rw [List.getElem?_append_left hi] at hr
    rw [List.getElem?_append_left (by rw [← h.1]; exact hi)] at hx
    exact h.2 i r x hr hx
  · rw [List.getElem?_append_right (by omega)] at hr
    rw [List.getElem?_append_right (by rw [← h.1]; omega), ← h.1] at hx
    have h0 : i - rows.length = 0 := by have := (List.getElem?_eq_some_iff.1 hr).1; simp at this; omega
    rw [h0] at hr hx
    obtain rfl : row = r := by simpa using hr
    obtain rfl : xs = x := by simpa using hx
    exact ⟨hl, hv⟩
theorem flatten_at {d : Nat} : ∀ (rows : List (List Value)), (∀ r ∈ rows, r.length = d) → ∀ (i : Nat) (row : List Value), rows[i]? = some row → ∀ j, j < d → rows.flatten[i * d + j]? = row[j]?
  | [], _, i, row, hr, _, _ => by simp at hr
  | r :: rs, h, 0, row, hr, j, hj => by
    simp at hr
    subst hr
    rw [List.flatten_cons, List.getElem?_append_left (by rw [h r (by simp)]; omega)]
    simp
  | r :: rs, h, i + 1, row, hr, j, hj => by
    have hl := h r (by simp)
    rw [List.flatten_cons, List.getElem?_append_right (by rw [hl, Nat.add_mul]; omega), hl, show (i + 1) * d + j - d = i * d + j by rw [Nat.add_mul]; omega]
    exact flatten_at rs (fun x hx => h x (by simp [hx])) i row (by simpa using hr) j hj
theorem Xrows.all {rows : List (List Value)} {xss : List (List Atom)} {d : Nat} (h : Xrows rows xss d) : ∀ r ∈ rows, r.length = d := fun r hr => by
  obtain ⟨i, hi, e⟩ := List.getElem_of_mem hr
  exact (h.2 i r (xss[i]'(by rw [← h.1]; exact hi)) (by rw [List.getElem?_eq_getElem hi, e]) (List.getElem?_eq_getElem (by rw [← h.1]; exact hi))).1
/-- the list in memory -/
theorem ls_of_rows {w : World} {B0 T d j cv : Nat} {av : Option Addr} {P : Nat → Prop} {rows : List (List Value)} {xss : List (List Atom)} (h : w.ownsRow B0 T d (.slice av j cv) j rows.flatten) (hx : Xrows rows xss d) (hl : xss.length = j) (hd : 0 < d) (hP : ∀ k, (Value.slice av j cv).ownBlock = some k → P k) : Ls w P av j cv d xss := by
  rcases h.2 with ⟨e1, e2⟩ | ⟨g, cp, cur, e1, _, _, hjc, _⟩
  · obtain ⟨rfl, rfl, rfl⟩ : av = none ∧ j = 0 ∧ cv = 0 := by simpa using e1
    exact ⟨hl, Nat.le_refl _, fun _ => rfl, fun h0 => absurd h0 (by omega)⟩
  · obtain ⟨rfl, rfl⟩ : av = some ⟨g, 0, none⟩ ∧ cv = cp := by simpa using e1
    refine ⟨hl, hjc, (fun e => by cases e), fun _ => ⟨g, 0, rfl, hP g rfl, fun i xs hxs => ?_⟩⟩
    have hi : i < rows.length := by rw [hx.1]; exact (List.getElem?_eq_some_iff.1 hxs).1
    obtain ⟨r1, r2⟩ := hx.2 i _ xs (List.getElem?_eq_getElem hi) hxs
    have hv := r2 w P
    have hlx : xs.length = d := by have := hv.1; simp at this; omega
    refine ⟨hlx, fun q y hy => ?_⟩
    obtain ⟨v, hv1, hv2⟩ := hv.2 q y hy
    refine ⟨v, ?_, hv2⟩
    have hq : q < d := by have := (List.getElem?_eq_some_iff.1 hy).1; omega
    have := h.cells (g := g) rfl (i * d + q) v (by rw [flatten_at rows hx.all i _ (List.getElem?_eq_getElem hi) q hq]; simpa using hv1)
    rw [Addr.add_mid, Nat.zero_add] at this
    rw [Nat.zero_add]
    exact this

theorem XS.grown {w w1 : World} {B W R : Nat} {a : Option Addr} {n cp : Nat} {bs : List Int} {s : St} {row : Option Nat} (h : XS w B W R a n cp bs s) (hg : w.grownBy w1 row) (hW : some W ≠ row) (hR : some R ≠ row) (ha : ∀ b off, a = some ⟨b, off, none⟩ → some b ≠ row) : XS w1 B W R a n cp bs s :=
  ⟨hg.cell h.c1 hW, h.rd.grown hg hR ha, h.ne, fun b off e => ⟨(h.ap b off e).1, Nat.lt_of_lt_of_le (h.ap b off e).2 hg.size⟩, h.home, h.small, Nat.le_trans h.low hg.size⟩
theorem xrow_of {w : World} {P : Nat → Prop} {N d : Nat} {xs : List Atom} (hf : FlatAt w P N 0 xs) (hl : xs.length = d) (hk : ∀ x ∈ xs, x.k ≤ 3) : ∃ cs : List Value, cs.length = d ∧ (∀ j v, cs[j]? = some v → w.cell? ⟨N, j, none⟩ = some v) ∧ ∀ (w' : World) (P' : Nat → Prop), Vals w' P' cs.toArray xs := by
  have hc : ∀ j, j < d → ((List.range d).map fun j => (w.cell? ⟨N, j, none⟩).getD undef)[j]? = w.cell? ⟨N, j, none⟩ := fun j hj => by
    obtain ⟨v, h1, _⟩ := hf j _ (List.getElem?_eq_getElem (by omega))
    rw [Nat.zero_add] at h1
    rw [List.getElem?_map, List.getElem?_range hj]
    simp [h1]
  refine ⟨(List.range d).map fun j => (w.cell? ⟨N, j, none⟩).getD undef, by simp, fun j v hv => ?_, fun w' P' => ⟨by simp [hl], fun j x hx => ?_⟩⟩
  · have hj : j < d := by have := (List.getElem?_eq_some_iff.1 hv).1; simpa using this
    rw [hc j hj] at hv
    exact hv
  · obtain ⟨v, h1, h2⟩ := hf j x hx
    rw [Nat.zero_add] at h1
    have hj : j < d := by have := (List.getElem?_eq_some_iff.1 hx).1; omega
    refine ⟨v, ?_, h2.free (hk x (List.mem_of_getElem? hx))⟩
    simp only [List.getElem?_toArray]
    rw [hc j hj]
    exact h1
theorem kinds_small {xs : List Atom} {ks : List Nat} (h : xs.map Atom.k = ks) (hk : ∀ k ∈ ks, k ≤ 3) : ∀ x ∈ xs, x.k ≤ 3 := fun x hx => hk _ (by rw [← h]; exact List.mem_map_of_mem hx)
theorem own_same {w w' : World} {B T n : Nat} {v : Value} {xs : List Value} {sz : Nat} (h : w.ownsRow B T sz v n xs) (hb : ∀ k, v.ownBlock = some k → w'.heap[k]? = w.heap[k]?) : w'.ownsRow B T sz v n xs := by
  obtain ⟨hl, h | ⟨g, cp, cur, h1, h2, h3, h4, h5, h6, h7⟩⟩ := h
  · exact ⟨hl, .inl h⟩
  · exact ⟨hl, .inr ⟨g, cp, cur, h1, h2, (hb g (by rw [h1]; rfl)).trans h3, h4, h5, h6, h7⟩⟩
/-- behind a step that turns no old block but the reader's, a store into the list's cell -/
theorem stp_app {w wx w4 : World} {W R M p : Nat} {a : Option Addr} (h : Stp (Rown W R) M p (p + 1) w wx) (hF : Far W R a M) (hM : M < w.heap.size) (e1 : w4.os = wx.os) (e2 : w4.tape = wx.tape) (e3 : w4.output = wx.output) (hs : wx.heap.size ≤ w4.heap.size) (hb : ∀ k, k < w.heap.size → ¬ Rown W R w k → w4.heap[k]? = wx.heap[k]?) (v : Value) : Stp (Rown W R) M p (p + 1) w (w4.setCell ⟨M, p, none⟩ v) := by
  have eM := hb M hM (far_own hF w)
  refine ⟨e1.trans h.os, e2.trans h.tape, e3.trans h.output, by simp only [World.setCell, Array.size_modify]; exact Nat.le_trans h.size hs, fun k hk hs2 hne => ?_, fun o ho => ?_, fun o => ?_, fun k hk => .inl hk⟩
  · rw [Below.heap_setCell _ _ _ _ hne, hb k hk hs2]; exact h.block k hk hs2 hne
  · have ne : (⟨M, p, none⟩ : Addr) ≠ ⟨M, o, none⟩ := fun e => by
      have : p = o := by injection e
      omega
    rw [World.cell?_setCell_other _ _ _ _ ne, World.cell?_of_block (w := wx) (a := ⟨M, o, none⟩) eM]
    exact h.cell o ho
  · rw [World.frozen?_setCell, World.frozen?_of_block (w := wx) (a := ⟨M, o, none⟩) eM]
    exact h.frozen o
end Go.Proofs.YthklpkmdmkgjiaaGreat

namespace Go.Proofs.YthklpkmdmkgjiaaGreat
open Go.ChangeShapes Go.WideShapes Go.ChangeAt Go.RowKit B8 Cm Wm
set_option linter.unusedVariables false

/-- the bytes lie in blocks from lo on, none of them the list's own -/
def Qr (lo : Nat) (own : Option Nat) (u : World) (k : Nat) : Prop := lo ≤ k ∧ k < u.heap.size ∧ own ≠ some k
/-- the rows that were read so far, as cells -/
def Xrw (u : World) (P : Nat → Prop) (rows : List (List Value)) (xss : List (List Atom)) (d : Nat) : Prop := rows.length = xss.length ∧ ∀ (i : Nat) (row : List Value) (xs : List Atom), rows[i]? = some row → xss[i]? = some xs → row.length = d ∧ Vals u P row.toArray xs
theorem Xrw.same {u u' : World} {P P' : Nat → Prop} {rows : List (List Value)} {xss : List (List Atom)} {d : Nat} (h : Xrw u P rows xss d) (hb : ∀ b, P b → P' b ∧ u'.heap[b]? = u.heap[b]?) : Xrw u' P' rows xss d :=
  ⟨h.1, fun i r x hr hx => ⟨(h.2 i r x hr hx).1, (h.2 i r x hr hx).2.same hb⟩⟩
theorem Xrw.snoc {u : World} {P : Nat → Prop} {rows : List (List Value)} {xss : List (List Atom)} {d : Nat} (h : Xrw u P rows xss d) {row : List Value} {xs : List Atom} (hl : row.length = d) (hv : Vals u P row.toArray xs) : Xrw u P (rows ++ [row]) (xss ++ [xs]) d := by
  refine ⟨by simp [h.1], fun i r x hr hx => ?_⟩
  by_cases hi : i < rows.length
  · rw [List.getElem?_append_left hi] at hr
    rw [List.getElem?_append_left (by rw [← h.1]; exact hi)] at hx
    exact h.2 i r x hr hx
  · rw [List.getElem?_append_right (by omega)] at hr
    rw [List.getElem?_append_right (by rw [← h.1]; omega), ← h.1] at hx
    have h0 : i - rows.length = 0 := by have := (List.getElem?_eq_some_iff.1 hr).1; simp at this; omega
    rw [h0] at hr hx
    obtain rfl : row = r := by simpa using hr
    obtain rfl : xs = x := by simpa using hx
    exact ⟨hl, hv⟩
theorem Xrw.all {u : World} {P : Nat → Prop} {rows : List (List Value)} {xss : List (List Atom)} {d : Nat} (h : Xrw u P rows xss d) : ∀ r ∈ rows, r.length = d := fun r hr => by
  obtain ⟨i, hi, e⟩ := List.getElem_of_mem hr
  exact (h.2 i r (xss[i]'(by rw [← h.1]; exact hi)) (by rw [List.getElem?_eq_getElem hi, e]) (List.getElem?_eq_getElem (by rw [← h.1]; exact hi))).1
/-- the list in memory -/
theorem ls_of_rowsb {w : World} {B0 T d j cv : Nat} {av : Option Addr} {P Q : Nat → Prop} {rows : List (List Value)} {xss : List (List Atom)} (h : w.ownsRow B0 T d (.slice av j cv) j rows.flatten) (hx : Xrw w Q rows xss d) (hQ : ∀ k, Q k → P k) (hl : xss.length = j) (hd : 0 < d) (hP : ∀ k, (Value.slice av j cv).ownBlock = some k → P k) : Ls w P av j cv d xss := by
  rcases h.2 with ⟨e1, e2⟩ | ⟨g, cp, cur, e1, _, _, hjc, _⟩
  · obtain ⟨rfl, rfl, rfl⟩ : av = none ∧ j = 0 ∧ cv = 0 := by simpa using e1
    exact ⟨hl, Nat.le_refl _, fun _ => rfl, fun h0 => absurd h0 (by omega)⟩
  · obtain ⟨rfl, rfl⟩ : av = some ⟨g, 0, none⟩ ∧ cv = cp := by simpa using e1
    refine ⟨hl, hjc, (fun e => by cases e), fun _ => ⟨g, 0, rfl, hP g rfl, fun i xs hxs => ?_⟩⟩
    have hi : i < rows.length := by rw [hx.1]; exact (List.getElem?_eq_some_iff.1 hxs).1
    obtain ⟨r1, r2⟩ := hx.2 i _ xs (List.getElem?_eq_getElem hi) hxs
    have hv := r2.same (w1 := w) (P' := P) fun b hb => ⟨hQ b hb, rfl⟩
    have hlx : xs.length = d := by have := hv.1; simp at this; omega
    refine ⟨hlx, fun q y hy => ?_⟩
    obtain ⟨v, hv1, hv2⟩ := hv.2 q y hy
    refine ⟨v, ?_, hv2⟩
    have hq : q < d := by have := (List.getElem?_eq_some_iff.1 hy).1; omega
    have := h.cells (g := g) rfl (i * d + q) v (by rw [flatten_at rows hx.all i _ (List.getElem?_eq_getElem hi) q hq]; simpa using hv1)
    rw [Addr.add_mid, Nat.zero_add] at this
    rw [Nat.zero_add]
    exact this
theorem xrow_ofb {w : World} {P : Nat → Prop} {N d : Nat} {xs : List Atom} (hf : FlatAt w P N 0 xs) (hl : xs.length = d) : ∃ cs : List Value, cs.length = d ∧ (∀ j v, cs[j]? = some v → w.cell? ⟨N, j, none⟩ = some v) ∧ Vals w P cs.toArray xs := by
  have hc : ∀ j, j < d → ((List.range d).map fun j => (w.cell? ⟨N, j, none⟩).getD undef)[j]? = w.cell? ⟨N, j, none⟩ := fun j hj => by
    obtain ⟨v, h1, _⟩ := hf j _ (List.getElem?_eq_getElem (by omega))
    rw [Nat.zero_add] at h1
    rw [List.getElem?_map, List.getElem?_range hj]
    simp [h1]
  refine ⟨(List.range d).map fun j => (w.cell? ⟨N, j, none⟩).getD undef, by simp, fun j v hv => ?_, ⟨by simp [hl], fun j x hx => ?_⟩⟩
  · have hj : j < d := by have := (List.getElem?_eq_some_iff.1 hv).1; simpa using this
    rw [hc j hj] at hv
    exact hv
  · obtain ⟨v, h1, h2⟩ := hf j x hx
    rw [Nat.zero_add] at h1
    have hj : j < d := by have := (List.getElem?_eq_some_iff.1 hx).1; omega
    refine ⟨v, ?_, h2⟩
    simp only [List.getElem?_toArray]
    rw [hc j hj]
    exact h1
theorem XS.base {w : World} {B B' W R : Nat} {a : Option Addr} {n cp : Nat} {bs : List Int} {s : St} (h : XS w B W R a n cp bs s) (hB : B' ≤ w.heap.size) : XS w B' W R a n cp bs s := ⟨h.c1, h.rd, h.ne, h.ap, h.home, h.small, hB⟩
end Go.Proofs.YthklpkmdmkgjiaaGreat
