/- The document's walk as it reads: how many there are; may it go on; what goes with its walk over a list of structs of numbers, flags and strings. No condition but the size. -/
import Derived.Test.YtmajhkmgdkbjoaaGreatJM
import Derived.Test.YtmajhkmgdkbjoaaGreatJL
import Derived.Test.YtmajhkmgdkbjoaaGreatFWireVlRow
import Derived.Test.YtmajhkmgdkbjoaaGreatFAppendWide
namespace Go.Proofs.YtmajhkmgdkbjoaaGreat
open Go.ChangeShapes Go.WideShapes Go.ChangeAt Go.RowKit B8 Cm Wm
set_option linter.unusedVariables false

theorem xmany_any {w : World} {B W R : Nat} {a : Option Addr} {n cp : Nat} {bs : List Int} {s : St} (x : Int) (h : XS w B W R a n cp bs s) :
    Calls Tryz.prog 48 #[.pointer (some ⟨W, 0, none⟩), .int .i64 x] w fun e w' => e = .returned (.int .i64 ((countA bs 1024 s).v : Nat)) ∧ XS w' B W R a n cp bs (countA bs 1024 s).s ∧ Stq (Rown W R) w w' := by
  have c1 := h.c1
  have C := hide (count_any (s := s) 1024 (by omega) h.rd)
  have H := hide h
  clear h
  go_enter Tryz.func48, Tryz.ntmps48
  go_wp2_with fail
  refine C.out.mono ?_
  rintro e w1 ⟨rfl, hr1, hg1⟩
  have X1 := hide (H.out.read hr1 hg1)
  have S1 : Hid (Stq (Rown W R) w w1) := ⟨hg1.os, hg1.tape, hg1.output, hg1.size, fun k hk hs => hg1.block k hk (fun e => hs (.inr (by simpa using e))), fun k hk => .inl hk⟩
  clear hr1 hg1 c1 C
  go_wp2_with fail
  go_ret
  exact ⟨rfl, X1.out, S1.out⟩
theorem xmore_any {w : World} {B W R : Nat} {a : Option Addr} {n cp : Nat} {bs : List Int} {s : St} (h : XS w B W R a n cp bs s) :
    Calls Tryz.prog 49 #[.pointer (some ⟨W, 0, none⟩)] w fun e w' => e = .returned (.bool (decide (s.err = 0))) ∧ w' = w := by
  have c1 := h.c1
  have c2 := h.rd.c2
  clear h
  generalize s.err = E at *
  by_cases he : E = 0
  · subst he
    go_enter Tryz.func49, Tryz.ntmps49
    go_wp2_with fail
    go_ret
    exact ⟨rfl, rfl⟩
  · have hx : (E == 0) = false := by simpa using he
    have hd : Hid (decide (E = 0) = false) := by show _ = _; simpa using he
    have HE := hide he
    clear he
    go_enter Tryz.func49, Tryz.ntmps49
    go_wp2_with fail
    go_ret
    rw [hd.out]
    exact ⟨rfl, rfl⟩
/-- a field that is no list of bytes hangs on no memory -/
theorem AtomV.free {w w' : World} {P P' : Nat → Prop} {v : Value} {x : Atom} (h : AtomV w P v x) (hk : x.k ≤ 3) : AtomV w' P' v x := by
  rcases h with h | h | h | h | h
  · exact .inl h
  · exact .inr (.inl h)
  · exact .inr (.inr (.inl h))
  · exact .inr (.inr (.inr (.inl h)))
  · exact absurd h.1 (by omega)
theorem timesA_later {α : Type} (item : St → Ans α) (hi : ∀ s, ¬ s.err = 0 → (item s).s = s) (j : Nat) (s : St) (h : ¬ (timesA item j s).s.err = 0) : ∀ m, (timesA item (j + m) s).s = (timesA item j s).s
  | 0 => rfl
  | m + 1 => by
    rw [← Nat.add_assoc, timesA_snoc]
    show (item (timesA item (j + m) s).s).s = _
    rw [timesA_later item hi j s h m]
    exact hi _ h
/-- the rows that were read so far, as cells -/
def Xrows (rows : List (List Value)) (xss : List (List Atom)) (d : Nat) : Prop := rows.length = xss.length ∧ ∀ (i : Nat) (row : List Value) (xs : List Atom), rows[i]? = some row → xss[i]? = some xs → row.length = d ∧ ∀ (w : World) (P : Nat → Prop), Vals w P row.toArray xs
theorem Xrows.snoc {rows : List (List Value)} {xss : List (List Atom)} {d : Nat} (h : Xrows rows xss d) {row : List Value} {xs : List Atom} (hl : row.length = d) (hv : ∀ (w : World) (P : Nat → Prop), Vals w P row.toArray xs) : Xrows (rows ++ [row]) (xss ++ [xs]) d := by
  refine ⟨by simp [h.1], fun i r x hr hx => ?_⟩
  by_cases hi : i < rows.length
  · rw [List.getElem?_append_left hi] at hr
    rw [List.getElem?_append_left (by rw [← h.1]; exact hi)] at hx
    exact h.2 i r x hr hx
  · rw [List.getElem?_append_right (by omega)] at hr
    rw [List.getElem?_append_right (by rw [← h.1]; omega), ← h.1] at hx
    have h0 : i - rows.length = 0 := by have := (List.getElem?_eq_some_iff.1 hr).1; simp at this; omega
    rw [h0] at hr hx
    obtain rfl : row = r := by simpa using hr
    obtain rfl : xs = x := by simpa using hx
    exact ⟨hl, hv⟩
theorem flatten_at {d : Nat} : ∀ (rows : List (List Value)), (∀ r ∈ rows, r.length = d) → ∀ (i : Nat) (row : List Value), rows[i]? = some row → ∀ j, j < d → rows.flatten[i * d + j]? = row[j]?
  | [], _, i, row, hr, _, _ => by simp at hr
  | r :: rs, h, 0, row, hr, j, hj => by
    simp at hr
    subst hr
    rw [List.flatten_cons, List.getElem?_append_left (by rw [h r (by simp)]; omega)]
    simp
  | r :: rs, h, i + 1, row, hr, j, hj => by
    have hl := h r (by simp)
    rw [List.flatten_cons, List.getElem?_append_right (by rw [hl, Nat.add_mul]; omega), hl, show (i + 1) * d + j - d = i * d + j by rw [Nat.add_mul]; omega]
    exact flatten_at rs (fun x hx => h x (by simp [hx])) i row (by simpa using hr) j hj
theorem Xrows.all {rows : List (List Value)} {xss : List (List Atom)} {d : Nat} (h : Xrows rows xss d) : ∀ r ∈ rows, r.length = d := fun r hr => by
  obtain ⟨i, hi, e⟩ := List.getElem_of_mem hr
  exact (h.2 i r (xss[i]'(by rw [← h.1]; exact hi)) (by rw [List.getElem?_eq_getElem hi, e]) (List.getElem?_eq_getElem (by rw [← h.1]; exact hi))).1
/-- the list in memory -/
theorem ls_of_rows {w : World} {B0 T d j cv : Nat} {av : Option Addr} {P : Nat → Prop} {rows : List (List Value)} {xss : List (List Atom)} (h : w.ownsRow B0 T d (.slice av j cv) j rows.flatten) (hx : Xrows rows xss d) (hl : xss.length = j) (hd : 0 < d) (hP : ∀ k, (Value.slice av j cv).ownBlock = some k → P k) : Ls w P av j cv d xss := by
  rcases h.2 with ⟨e1, e2⟩ | ⟨g, cp, cur, e1, _, _, hjc, _⟩
  · obtain ⟨rfl, rfl, rfl⟩ : av = none ∧ j = 0 ∧ cv = 0 := by simpa using e1
    exact ⟨hl, Nat.le_refl _, fun _ => rfl, fun h0 => absurd h0 (by omega)⟩
  · obtain ⟨rfl, rfl⟩ : av = some ⟨g, 0, none⟩ ∧ cv = cp := by simpa using e1
    refine ⟨hl, hjc, (fun e => by cases e), fun _ => ⟨g, 0, rfl, hP g rfl, fun i xs hxs => ?_⟩⟩
    have hi : i < rows.length := by rw [hx.1]; exact (List.getElem?_eq_some_iff.1 hxs).1
    obtain ⟨r1, r2⟩ := hx.2 i _ xs (List.getElem?_eq_getElem hi) hxs
    have hv := r2 w P
    have hlx : xs.length = d := by have := hv.1; simp at this; omega
    refine ⟨hlx, fun q y hy => ?_⟩
    obtain ⟨v, hv1, hv2⟩ := hv.2 q y hy
    refine ⟨v, ?_, hv2⟩
    have hq : q < d := by have := (List.getElem?_eq_some_iff.1 hy).1; omega
    have := h.cells (g := g) rfl (i * d + q) v (by rw [flatten_at rows hx.all i _ (List.getElem?_eq_getElem hi) q hq]; simpa using hv1)
    rw [Addr.add_mid, Nat.zero_add] at this
    rw [Nat.zero_add]
    exact this

theorem XS.grown {w w1 : World} {B W R : Nat} {a : Option Addr} {n cp : Nat} {bs : List Int} {s : St} {row : Option Nat} (h : XS w B W R a n cp bs s) (hg : w.grownBy w1 row) (hW : some W ≠ row) (hR : some R ≠ row) (ha : ∀ b off, a = some ⟨b, off, none⟩ → some b ≠ row) : XS w1 B W R a n cp bs s :=
  ⟨hg.cell h.c1 hW, h.rd.grown hg hR ha, h.ne, fun b off e => ⟨(h.ap b off e).1, Nat.lt_of_lt_of_le (h.ap b off e).2 hg.size⟩, h.home, h.small, Nat.le_trans h.low hg.size⟩
theorem xrow_of {w : World} {P : Nat → Prop} {N d : Nat} {xs : List Atom} (hf : FlatAt w P N 0 xs) (hl : xs.length = d) (hk : ∀ x ∈ xs, x.k ≤ 3) : ∃ cs : List Value, cs.length = d ∧ (∀ j v, cs[j]? = some v → w.cell? ⟨N, j, none⟩ = some v) ∧ ∀ (w' : World) (P' : Nat → Prop), Vals w' P' cs.toArray xs := by
  have hc : ∀ j, j < d → ((List.range d).map fun j => (w.cell? ⟨N, j, none⟩).getD undef)[j]? = w.cell? ⟨N, j, none⟩ := fun j hj => by
    obtain ⟨v, h1, _⟩ := hf j _ (List.getElem?_eq_getElem (by omega))
    rw [Nat.zero_add] at h1
    rw [List.getElem?_map, List.getElem?_range hj]
    simp [h1]
  refine ⟨(List.range d).map fun j => (w.cell? ⟨N, j, none⟩).getD undef, by simp, fun j v hv => ?_, fun w' P' => ⟨by simp [hl], fun j x hx => ?_⟩⟩
  · have hj : j < d := by have := (List.getElem?_eq_some_iff.1 hv).1; simpa using this
    rw [hc j hj] at hv
    exact hv
  · obtain ⟨v, h1, h2⟩ := hf j x hx
    rw [Nat.zero_add] at h1
    have hj : j < d := by have := (List.getElem?_eq_some_iff.1 hx).1; omega
    refine ⟨v, ?_, h2.free (hk x (List.mem_of_getElem? hx))⟩
    simp only [List.getElem?_toArray]
    rw [hc j hj]
    exact h1
theorem kinds_small {xs : List Atom} {ks : List Nat} (h : xs.map Atom.k = ks) (hk : ∀ k ∈ ks, k ≤ 3) : ∀ x ∈ xs, x.k ≤ 3 := fun x hx => hk _ (by rw [← h]; exact List.mem_map_of_mem hx)
theorem own_same {w w' : World} {B T n : Nat} {v : Value} {xs : List Value} {sz : Nat} (h : w.ownsRow B T sz v n xs) (hb : ∀ k, v.ownBlock = some k → w'.heap[k]? = w.heap[k]?) : w'.ownsRow B T sz v n xs := by
  obtain ⟨hl, h | ⟨g, cp, cur, h1, h2, h3, h4, h5, h6, h7⟩⟩ := h
  · exact ⟨hl, .inl h⟩
  · exact ⟨hl, .inr ⟨g, cp, cur, h1, h2, (hb g (by rw [h1]; rfl)).trans h3, h4, h5, h6, h7⟩⟩
/-- behind a step that turns no old block but the reader's, a store into the list's cell -/
theorem stp_app {w wx w4 : World} {W R M p : Nat} {a : Option Addr} (h : Stp (Rown W R) M p (p + 1) w wx) (hF : Far W R a M) (hM : M < w.heap.size) (e1 : w4.os = wx.os) (e2 : w4.tape = wx.tape) (e3 : w4.output = wx.output) (hs : wx.heap.size ≤ w4.heap.size) (hb : ∀ k, k < w.heap.size → ¬ Rown W R w k → w4.heap[k]? = wx.heap[k]?) (v : Value) : Stp (Rown W R) M p (p + 1) w (w4.setCell ⟨M, p, none⟩ v) := by
  have eM := hb M hM (far_own hF w)
  refine ⟨e1.trans h.os, e2.trans h.tape, e3.trans h.output, by simp only [World.setCell, Array.size_modify]; exact Nat.le_trans h.size hs, fun k hk hs2 hne => ?_, fun o ho => ?_, fun o => ?_, fun k hk => .inl hk⟩
  · rw [Below.heap_setCell _ _ _ _ hne, hb k hk hs2]; exact h.block k hk hs2 hne
  · have ne : (⟨M, p, none⟩ : Addr) ≠ ⟨M, o, none⟩ := fun e => by
      have : p = o := by injection e
      omega
    rw [World.cell?_setCell_other _ _ _ _ ne, World.cell?_of_block (w := wx) (a := ⟨M, o, none⟩) eM]
    exact h.cell o ho
  · rw [World.frozen?_setCell, World.frozen?_of_block (w := wx) (a := ⟨M, o, none⟩) eM]
    exact h.frozen o
end Go.Proofs.YtmajhkmgdkbjoaaGreat
