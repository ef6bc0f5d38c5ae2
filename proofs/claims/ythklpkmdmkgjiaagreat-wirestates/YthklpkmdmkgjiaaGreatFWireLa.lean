/- What the landed writer and reader make of a list of accounts. No condition but the size. -/
import Derived.Test.YthklpkmdmkgjiaaGreatFWireAccMem
import Derived.Test.YthklpkmdmkgjiaaGreatFWireListAccount
namespace Go.Proofs.YthklpkmdmkgjiaaGreat
open Go.ChangeShapes Go.WideShapes Go.ChangeAt Go.RowKit B8 Cm Wm
set_option linter.unusedVariables false

/-- the slice at a, of n accounts -/
structure La (w : World) (P : Nat → Prop) (a : Option Addr) (n cp : Nat) (xs : List Acc) : Prop where
  length : xs.length = n
  lecap : n ≤ cp
  nil : a = none → cp = 0
  rows : 0 < n → ∃ b off, a = some ⟨b, off, none⟩ ∧ P b ∧ ∀ i x, xs[i]? = some x → AccAt w P b (off + i * 10) x
theorem La.same {w w1 : World} {P P' : Nat → Prop} {a : Option Addr} {n cp : Nat} {xs : List Acc} (h : La w P a n cp xs) (hk : ∀ x ∈ xs, AccK x) (hb : ∀ b, P b → P' b ∧ w1.heap[b]? = w.heap[b]?) : La w1 P' a n cp xs :=
  ⟨h.length, h.lecap, h.nil, fun h0 => by
    obtain ⟨b, off, e, hp, hr⟩ := h.rows h0
    exact ⟨b, off, e, (hb b hp).1, fun i x hx => (hr i x hx).same (fun j _ => World.cell?_of_block (w := w) (hb b hp).2) (hk x (List.mem_of_getElem? hx)) hb⟩⟩
theorem La.nil_ (w : World) (P : Nat → Prop) : La w P none 0 0 [] := ⟨rfl, Nat.le_refl _, fun _ => rfl, fun h => absurd h (by omega)⟩
/-- the cells of the first k accounts -/
theorem La.cells {w : World} {P : Nat → Prop} {a : Option Addr} {n cp : Nat} {xs : List Acc} (h : La w P a n cp xs) (hk : ∀ x ∈ xs, AccK x) (k : Nat) (hkn : k ≤ n) :
    ∃ cs : List Value, cs.length = k * 10 ∧ (∀ v ∈ cs, v.oneCell' = true) ∧ (0 < cs.length → ∃ ad, a = some ad ∧ ∀ j v, cs[j]? = some v → w.cell? (ad.add j) = some v) ∧
      ∀ i x, i < k → xs[i]? = some x → AccC w P (fun q => cs[i * 10 + q]?) x := by
  by_cases h0 : 0 < k
  · obtain ⟨b, off, rfl, hp, hr⟩ := h.rows (by omega)
    have hget : ∀ j, j < k * 10 → ∃ v, w.cell? ⟨b, off + j, none⟩ = some v ∧ v.oneCell' = true := fun j hj => by
      have h1 : j / 10 < k := by omega
      obtain ⟨x, hx⟩ : ∃ x, xs[j / 10]? = some x := ⟨_, List.getElem?_eq_getElem (by rw [h.length]; omega)⟩
      obtain ⟨v, h2, h3⟩ := (hr _ _ hx).cell (hk x (List.mem_of_getElem? hx)) (j % 10) (by omega)
      have e : off + j / 10 * 10 + j % 10 = off + j := by omega
      have h2 : w.cell? ⟨b, off + j / 10 * 10 + j % 10, none⟩ = some v := h2
      rw [e] at h2
      exact ⟨v, h2, h3⟩
    have hcs : ∀ j, j < k * 10 → ((List.range (k * 10)).map fun j => (w.cell? ⟨b, off + j, none⟩).getD undef)[j]? = w.cell? ⟨b, off + j, none⟩ := fun j hj => by
      obtain ⟨v, hc, _⟩ := hget j hj
      rw [List.getElem?_map, List.getElem?_range hj]
      simp [hc]
    refine ⟨(List.range (k * 10)).map fun j => (w.cell? ⟨b, off + j, none⟩).getD undef, by simp, fun v hv => ?_, fun _ => ⟨_, rfl, fun j v hv => ?_⟩, fun i x hi hx => ?_⟩
    · obtain ⟨j, hj, rfl⟩ := List.mem_map.1 hv
      obtain ⟨v, hc, ho⟩ := hget j (List.mem_range.1 hj)
      rw [hc]
      exact ho
    · have hj : j < k * 10 := by have := (List.getElem?_eq_some_iff.1 hv).1; simpa using this
      rw [hcs j hj] at hv
      rw [Addr.add_lit]
      exact hv
    · refine (hr i x hx).same (w1 := w) (P' := P) (fun j hj => ?_) (hk x (List.mem_of_getElem? hx)) (fun b hb => ⟨hb, rfl⟩)
      show _ = w.cell? ⟨b, off + i * 10 + j, none⟩
      rw [hcs (i * 10 + j) (by omega), Nat.add_assoc]
  · obtain rfl : k = 0 := by omega
    exact ⟨[], by simp, fun v hv => by simp at hv, fun h => absurd h (by simp), fun i x hi => absurd hi (by omega)⟩
theorem AccAt.stp {S : World → Nat → Prop} {w w1 : World} {M lo hi o : Nat} {x : Acc} (h : AccAt w (Out S M w) M o x) (hk : AccK x) (g : Stp S M lo hi w w1) (hl : hi ≤ o) : AccAt w1 (Out S M w1) M o x :=
  AccC.same h (fun j _ => g.cell (o + j) (by omega)) hk (fun b hb => g.out hb)

/-- a list of accounts at the cell p of M, a writer behind the fields fs -/
structure Wap (w : World) (B W : Nat) (fs : List Fld) (M p : Nat) (a : Option Addr) (n cp : Nat) (xs : List Acc) : Prop where
  h : WS w B W fs
  hB : B ≤ w.heap.size
  hc : w.cell? ⟨M, p, none⟩ = some (.slice a n cp)
  hz : w.frozen? ⟨M, p, none⟩ = false
  hL : La w (Out (Wown W) M w) a n cp xs
  hk : ∀ x ∈ xs, AccK x
  hS : ¬ Wown W w M
def Wa2 (w : World) (B W : Nat) (fs : List Fld) (n : Nat) (xs : List Acc) (k g i : Nat) (u : World) : Prop :=
  w.heap.size ≤ g ∧ g < u.heap.size ∧ ¬ Wown W u g ∧ Stq (Wown W) w u ∧ (∀ o, u.frozen? ⟨g, o, none⟩ = false) ∧
    ((k = n ∧ n ≤ 1024 ∧ WS u B W (fs ++ fldN n :: ((xs.take i).map Acc.flds).flatten) ∧ ∀ j x, i ≤ j → xs[j]? = some x → AccAt u (Out (Wown W) g u) g (j * 10) x) ∨ (k = 0 ∧ (okAll fs = false ∨ 1024 < n) ∧ WSbad u B W))
def Wa3 (w : World) (B W : Nat) (fs : List Fld) (M p : Nat) (xs : List Acc) (u : World) : Prop := WS u B W (fs ++ listF Acc.flds xs) ∧ Stp (Wown W) M p (p + 1) w u
section
variable {w : World} {B W : Nat} {fs : List Fld} {M p : Nat} {a : Option Addr} {n cp : Nat} {xs : List Acc}
theorem Wap.lt (h : Wap w B W fs M p a n cp xs) : M < w.heap.size := World.block_lt_of_cell? w _ h.hc
theorem wa_count (h : Wap w B W fs M p a n cp xs) : Calls Tryz.prog 110 #[.pointer (some ⟨W, 0, none⟩), .int .i64 n] w.drew fun e w' => ∃ k : Nat, k ≤ 1024 ∧ e = .returned (.int .i64 k) ∧ Wl1 w B W fs n k w' := by
  have hd : WS w.drew B W fs := h.h.below ⟨rfl, rfl, rfl, Nat.le_refl _, fun _ _ => rfl⟩
  have st : ∀ {u}, Stq (Wown W) w.drew u → Stq (Wown W) w u := fun g => ⟨g.os, g.tape, g.output, g.size, g.block, g.own⟩
  by_cases h1 : okAll fs = true ∧ n ≤ 1024
  · exact (wcount_yes hd h.hB h1.1 h1.2).mono fun e w' ⟨h2, h3, h4⟩ => ⟨n, h1.2, h2, st h4, .inl ⟨rfl, h1.2, h3⟩⟩
  · have h2 : okAll fs = false ∨ 1024 < n := by
      cases ho : okAll fs with
      | false => exact .inl rfl
      | true => exact .inr (by have : ¬ n ≤ 1024 := fun h5 => h1 ⟨ho, h5⟩; omega)
    exact (wcount_no hd h2).mono fun e w' ⟨h3, h4, h5⟩ => ⟨0, by omega, h3, st h5, .inr ⟨rfl, h2, h4⟩⟩
theorem wa_copy (h : Wap w B W fs M p a n cp xs) (T : TypeId) (k : Nat) (u : World) (h1 : Wl1 w B W fs n k u) : u.cell? ⟨M, p, none⟩ = some (.slice a n cp) ∧ ∃ cs : List Value, cs.length = Nat.min n k * 10 ∧ (∀ v ∈ cs, v.oneCell' = true) ∧ (0 < cs.length → ∃ ad, a = some ad ∧ ∀ j v, cs[j]? = some v → u.cell? (ad.add j) = some v) ∧
      ∀ (zs : List Value) (w' : World), w'.heap[u.heap.size]? = some (.cells (cs ++ zs).toArray T (0, 0)) → Below u.heap.size u w' → Wa2 w B W fs n xs k u.heap.size 0 w' := by
  refine ⟨h1.1.cell h.hc h.hS, ?_⟩
  obtain ⟨gs, hws⟩ := wl1_ws h1
  have ng : ∀ {w'}, Below u.heap.size u w' → ¬ Wown W w' u.heap.size := fun hb hk => by have := (hws.base _ (wown_of_below hws hb hk)).2; omega
  rcases h1.2 with ⟨rfl, hn, hw⟩ | ⟨rfl, hn, hw⟩
  · have hLu : La u (Out (Wown W) M u) a k cp xs := h.hL.same h.hk (fun b hb => ⟨⟨Nat.lt_of_lt_of_le hb.1 h1.1.size, h1.1.keep hb.1 hb.2.1, hb.2.2⟩, h1.1.block b hb.1 hb.2.1⟩)
    obtain ⟨cs, e1, e2, e3, e4⟩ := hLu.cells h.hk k (Nat.le_refl _)
    refine ⟨cs, by rw [e1]; congr 1; simp, e2, e3, fun zs w' hr hb => ⟨h1.1.size, (Array.getElem?_eq_some_iff.1 hr).1, ng hb, h1.1.trans (wq_below hws hb), fun o => frozen_of_row w' _ _ _ _ hr, .inl ⟨rfl, hn, by simpa using hw.below hb, fun j x _ hx => ?_⟩⟩⟩
    have hj : j < k := by have := (List.getElem?_eq_some_iff.1 hx).1; have := h.hL.length; omega
    refine (e4 j x hj hx).same (fun q hq => ?_) (h.hk x (List.mem_of_getElem? hx)) (fun b hb2 => ⟨⟨Nat.lt_of_lt_of_le hb2.1 hb.size, fun hk => hb2.2.1 (wown_of_below hws hb hk), by have := hb2.1; omega⟩, hb.block b hb2.1⟩)
    rw [cell_of_row w' _ _ _ _ _ hr]
    have hl : j * 10 + q < cs.length := by rw [e1]; omega
    simp only [List.getElem?_toArray]
    rw [List.getElem?_append_left hl]
  · refine ⟨[], by simp, fun v hv => by simp at hv, fun h0 => absurd h0 (by simp), fun zs w' hr hb => ⟨h1.1.size, (Array.getElem?_eq_some_iff.1 hr).1, ng hb, h1.1.trans (wq_below hws hb), fun o => frozen_of_row w' _ _ _ _ hr, .inr ⟨rfl, hn, hw.below hb⟩⟩⟩
theorem wa_item (h : Wap w B W fs M p a n cp xs) {k g i : Nat} {u : World} (hi : i < k) (h2 : Wa2 w B W fs n xs k g i u) :
    Calls Tryz.prog 30 #[.iface 76 (.pointer (some ⟨W, 0, none⟩)), .pointer (some ⟨g, i * 10, none⟩)] u fun e w' => e = .returned (.tuple #[]) ∧ Wa2 w B W fs n xs k g (i + 1) w' := by
  obtain ⟨hg1, hg2, hg3, hst, hfz, ⟨rfl, hn, hw, hf⟩ | ⟨rfl, _, _⟩⟩ := h2
  · have hl := h.hL.length
    obtain ⟨x, hx⟩ : ∃ x, xs[i]? = some x := ⟨_, List.getElem?_eq_getElem (by omega)⟩
    refine (waccount_any hw (Nat.le_trans h.hB hst.size) (hf i x (Nat.le_refl _) hx) (h.hk x (List.mem_of_getElem? hx)) (hfz _) hg3).mono fun e w' ⟨h3, h4, h5⟩ => ⟨h3, hg1, Nat.lt_of_lt_of_le hg2 h5.size, h5.keep hg2 hg3, h5.inner hst hg1, fun o => (h5.frozen o).trans (hfz o), .inl ⟨rfl, hn, ?_, fun j y hj hy => (hf j y (by omega) hy).stp (h.hk y (List.mem_of_getElem? hy)) h5 (by omega)⟩⟩
    have e : xs.take (i + 1) = xs.take i ++ [x] := by rw [List.take_add_one, hx]; rfl
    rw [e, List.map_append, List.flatten_append]
    simpa using h4
  · omega
theorem wa_store (h : Wap w B W fs M p a n cp xs) {k g : Nat} {u : World} (h2 : Wa2 w B W fs n xs k g k u) :
    (∃ v, u.cell? ⟨M, p, none⟩ = some v) ∧ u.frozen? ⟨M, p, none⟩ = false ∧ ∀ v, Wa3 w B W fs M p xs (u.setCell ⟨M, p, none⟩ v) := by
  obtain ⟨hg1, hg2, hg3, hst, hfz, hor⟩ := h2
  have hM := h.lt
  have nM : ¬ Wown W u M := hst.keep hM h.hS
  have fM : u.frozen? ⟨M, p, none⟩ = false := (World.frozen?_of_block (w := w) (a := ⟨M, p, none⟩) (hst.block M hM h.hS)).trans h.hz
  refine ⟨⟨_, hst.cell h.hc h.hS⟩, fM, fun v => ⟨?_, ?_⟩⟩
  · have hws : WS u B W (fs ++ listF Acc.flds xs) := by
      unfold listF
      rw [h.hL.length]
      rcases hor with ⟨rfl, _, hw, _⟩ | ⟨rfl, hn, hw⟩
      · rw [List.take_of_length_le (by rw [h.hL.length]; exact Nat.le_refl _)] at hw
        exact hw
      · exact hw.some hn _
    exact hws.other nM v
  · have g := hst.to hM h.hS p (p + 1)
    refine ⟨g.os, g.tape, g.output, by simpa [World.setCell] using g.size, fun k hk hs hne => (Below.heap_setCell _ ⟨M, p, none⟩ _ _ hne).trans (g.block k hk hs hne), fun o ho => ?_, fun o => (World.frozen?_setCell _ _ _ _).trans (g.frozen o), fun k hk => g.own k (wown_other (fun e => nM (.inl e)) hk)⟩
    have ne : (⟨M, p, none⟩ : Addr) ≠ ⟨M, o, none⟩ := fun e => by
      have : p = o := by injection e
      omega
    rw [World.cell?_setCell_other _ _ _ _ ne]
    exact g.cell o ho
end
theorem call_state1 (args : Array Value) (w : World) : (callFunc 29 args).run Tryz.prog w = .ok (.enter 29 args) w := by kernel_rfl
theorem wlist_state1 {w : World} {B W : Nat} {fs : List Fld} {M p : Nat} {a : Option Addr} {n cp : Nat} {xs : List Acc} {C : Nat} (h : Wap w B W fs M p a n cp xs) (hC : w.cell? ⟨C, 0, none⟩ = some (.iface 76 (.pointer (some ⟨W, 0, none⟩)))) (hS : ¬ Wown W w C) :
    Calls Tryz.prog 28 #[.iface 76 (.pointer (some ⟨W, 0, none⟩)), .pointer (some ⟨M, p, none⟩), .func (.func 29) #[] #[.pointer (some ⟨C, 0, none⟩)]] w fun e w' => e = .returned (.tuple #[]) ∧ Wa3 w B W fs M p xs w' :=
  go_list_account (D := 76) (W := W) (M := M) (p := p) (a := a) (n := n) (cp := cp) (Fi := 29) (cap := #[.pointer (some ⟨C, 0, none⟩)]) nilw_count methw_count callw_count call_state1
    (R0 := fun u => u = w) (R1 := Wl1 w B W fs n) (R2 := Wa2 w B W fs n xs) (R3 := Wa3 w B W fs M p xs)
    (fun u hu => by subst hu; exact h.hc) (fun u hu => by subst hu; exact wa_count h)
    (fun k u h1 => by obtain ⟨c, cs, e1, e2, e3, e4⟩ := wa_copy h 94 k u h1; exact ⟨c, cs, e1, e2, e3, fun w' hr hb => e4 _ w' hr hb⟩)
    (fun k g i u hi h2 => clos_state1 (R0 := fun x => x = u) (fun x e => by subst e; exact h2.2.2.2.1.cell hC hS) (fun x e => by subst e; exact wa_item h hi h2) u rfl)
    (fun k g u h2 => by obtain ⟨a1, a2, a3⟩ := wa_store h h2; exact ⟨a1, a2, a3 _⟩) w rfl

/-- the reader -/
theorem RS.rebase {w : World} {B B' RR R : Nat} {a : Option Addr} {n cp : Nat} {bs : List Int} {s : St} (h : RS w B RR R a n cp bs s) (hB : B' ≤ w.heap.size) : RS w B' RR R a n cp bs s := by
  obtain ⟨s1, wide, h⟩ := h
  exact ⟨s1, wide, h.c0, h.c1, h.f1, h.rd, h.ne, h.ap, h.small, hB, h.no, h.yes⟩
def Ra2 (B RR R : Nat) (a : Option Addr) (n cp : Nat) (bs : List Int) (s : St) (w : World) (k g i : Nat) (u : World) : Prop :=
  w.heap.size ≤ g ∧ g < u.heap.size ∧ Far RR R a g ∧ Room u g (i * 10) ((k - i) * 10) ∧ (∀ j, i ≤ j → j < k → u.cell? ⟨g, j * 10 + 5, none⟩ = some (.slice none 0 0)) ∧ Stq (Rown RR R) w u ∧ ((countA bs 1024 s).s.err = 0 → k = (countA bs 1024 s).v) ∧
    RS u (g + 1) RR R a n cp bs (timesA (accA bs) i (countA bs 1024 s).s).s ∧
    ((timesA (accA bs) i (countA bs 1024 s).s).s.err = 0 → ∀ j x, (timesA (accA bs) i (countA bs 1024 s).s).v[j]? = some x → AccAt u (OutB (g + 1) (Rown RR R) g u) g (j * 10) x)
def Ra3 (B RR R : Nat) (a : Option Addr) (n cp : Nat) (bs : List Int) (s : St) (w : World) (M p : Nat) (u : World) : Prop :=
  RS u B RR R a n cp bs (listA bs (accA bs) s).s ∧ ((listA bs (accA bs) s).s.err = 0 → ∃ ad k, u.cell? ⟨M, p, none⟩ = some (.slice ad k k) ∧ La u (OutB B (Rown RR R) M u) ad k k (listA bs (accA bs) s).v) ∧ Stp (Rown RR R) M p (p + 1) w u
section
variable {B RR R : Nat} {a : Option Addr} {n cp : Nat} {bs : List Int} {s : St} {w : World} {M p : Nat}
theorem made_acc (k j : Nat) (hj : j < k * 10) (h5 : j % 10 = 5) : (madeCells #[.string ⟨#[]⟩, .int .i64 0, .int .i64 0, .int .i64 0, .int .i64 0, .slice none 0 0, .int .i64 0, .int .i64 0, .int .i64 0, .int .i64 0] (k * 10))[j]? = some (.slice none 0 0) := by
  unfold madeCells
  simp only [List.size_toArray, List.length_cons, List.length_nil, Nat.reduceAdd]
  simp [hj, h5]
theorem ra_copy (h : Rlp B RR R a n cp bs s [0] w M p) (T : TypeId) (k : Nat) (u : World) (h1 : Rl1 B RR R a n cp bs s w k u) : u.cell? ⟨M, p, none⟩ = some (.slice none 0 0) ∧
      ∀ (w' : World), w'.heap[u.heap.size]? = some (.cells (madeCells #[.string ⟨#[]⟩, .int .i64 0, .int .i64 0, .int .i64 0, .int .i64 0, .slice none 0 0, .int .i64 0, .int .i64 0, .int .i64 0, .int .i64 0] (k * 10)) T (0, 0)) → Below u.heap.size u w' → Ra2 B RR R a n cp bs s w k u.heap.size 0 w' := by
  obtain ⟨hk, hr, he, hst⟩ := h1
  have hM := h.lt
  refine ⟨(World.cell?_of_block (w := w) (a := ⟨M, p, none⟩) (hst.block M hM (far_own h.hF w))).trans h.hc, fun w' hrow hb => ⟨hst.size, (Array.getElem?_eq_some_iff.1 hrow).1, ?_, ?_, fun j _ hj => ?_, hst.trans (rq_below RR R hb), he, (hr.below hb).rebase (Array.getElem?_eq_some_iff.1 hrow).1, fun _ j x hx => by simp [timesA] at hx⟩⟩
  · have hlt := hr.lt
    obtain ⟨s1, wide, hrr⟩ := hr
    exact ⟨by omega, by omega, fun b off e => by have := (hrr.ap b off e).2; omega⟩
  · intro j hj
    have hj2 : j < (madeCells #[.string ⟨#[]⟩, .int .i64 0, .int .i64 0, .int .i64 0, .int .i64 0, .slice none 0 0, .int .i64 0, .int .i64 0, .int .i64 0, .int .i64 0] (k * 10)).size := by rw [size_madeCells]; simpa using hj
    refine ⟨⟨(madeCells #[.string ⟨#[]⟩, .int .i64 0, .int .i64 0, .int .i64 0, .int .i64 0, .slice none 0 0, .int .i64 0, .int .i64 0, .int .i64 0, .int .i64 0] (k * 10))[j], ?_⟩, frozen_of_row w' _ _ _ _ hrow⟩
    rw [cell_of_row w' _ _ _ _ _ hrow, Nat.zero_mul, Nat.zero_add]
    exact Array.getElem?_eq_getElem hj2
  · rw [cell_of_row w' _ _ _ _ _ hrow]
    exact made_acc k _ (by omega) (by omega)
theorem ra_item (h : Rlp B RR R a n cp bs s [0] w M p) {k g i : Nat} {u : World} (hi : i < k) (h2 : Ra2 B RR R a n cp bs s w k g i u) :
    Calls Tryz.prog 30 #[.iface 131 (.pointer (some ⟨RR, 0, none⟩)), .pointer (some ⟨g, i * 10, none⟩)] u fun e w' => e = .returned (.tuple #[]) ∧ Ra2 B RR R a n cp bs s w k g (i + 1) w' := by
  obtain ⟨hg1, hg2, hF, hroom, hcs, hst, he, hr, hf⟩ := h2
  refine (raccount_any hr hF (by omega) hg2 (hroom.left (by omega)) (hcs i (Nat.le_refl _) hi)).mono fun e w' ⟨h3, h4, h5, h6⟩ => ⟨h3, hg1, Nat.lt_of_lt_of_le hg2 h6.size, hF, ?_, fun j hj1 hj2 => (h6.cell (j * 10 + 5) (by omega)).trans (hcs j (by omega) hj2), h6.inner hst hg1, he, ?_, ?_⟩
  · have := hroom.part (a := 10) (m := (k - (i + 1)) * 10) (by omega)
    rw [show (i + 1) * 10 = i * 10 + 10 by omega]
    exact this.step h6 (.inl (Nat.le_refl _))
  · rw [timesA_snoc]
    exact h4
  · rw [timesA_snoc]
    intro he2 j x hx
    have he2' : (accA bs (timesA (accA bs) i (countA bs 1024 s).s).s).s.err = 0 := he2
    have he1 : (timesA (accA bs) i (countA bs 1024 s).s).s.err = 0 := err_back (accA bs) (fun s hs => accA_stuck bs s hs) (timesA (accA bs) i (countA bs 1024 s).s).s he2'
    have hlen := timesA_length (accA bs) i (countA bs 1024 s).s
    by_cases hj : j < i
    · rw [List.getElem?_append_left (by omega)] at hx
      have kx : AccK x := timesA_all (Q := AccK) (accA bs) (fun s => accK_A bs s) _ _ x (List.mem_of_getElem? hx)
      exact (hf he1 j x hx).same (fun q hq => h6.cell (j * 10 + q) (by omega)) kx (fun b hb => h6.outB hb)
    · rw [List.getElem?_append_right (by omega), hlen] at hx
      have hj0 : j = i := by
        have := (List.getElem?_eq_some_iff.1 hx).1
        simp at this
        omega
      subst hj0
      have ex : (accA bs (timesA (accA bs) j (countA bs 1024 s).s).s).v = x := by simpa using hx
      subst ex
      exact h5 he2
theorem ra_store (h : Rlp B RR R a n cp bs s [0] w M p) {k g : Nat} {u : World} (h2 : Ra2 B RR R a n cp bs s w k g k u) :
    (∃ v, u.cell? ⟨M, p, none⟩ = some v) ∧ u.frozen? ⟨M, p, none⟩ = false ∧ Ra3 B RR R a n cp bs s w M p (u.setCell ⟨M, p, none⟩ (.slice (some ⟨g, 0, none⟩) k k)) := by
  obtain ⟨hg1, hg2, hF, hroom, hcs, hst, he, hr, hf⟩ := h2
  have hM := h.lt
  have eM := hst.block M hM (far_own h.hF w)
  have cM : u.cell? ⟨M, p, none⟩ = some (.slice none 0 0) := (World.cell?_of_block (w := w) (a := ⟨M, p, none⟩) eM).trans h.hc
  have hMg : M ≠ g := by omega
  have es : (timesA (accA bs) k (countA bs 1024 s).s).s = (listA bs (accA bs) s).s ∧ ((listA bs (accA bs) s).s.err = 0 → timesA (accA bs) k (countA bs 1024 s).s = listA bs (accA bs) s) := by
    unfold listA
    by_cases h0 : (countA bs 1024 s).s.err = 0
    · rw [he h0]; exact ⟨rfl, fun _ => rfl⟩
    · rw [timesA_stuck _ (fun s hs => accA_stuck bs s hs) _ _ h0, timesA_stuck _ (fun s hs => accA_stuck bs s hs) _ _ h0]
      exact ⟨rfl, fun h5 => absurd h5 h0⟩
  have lowB : B ≤ w.heap.size := by obtain ⟨s1, wide, hh⟩ := h.h; exact hh.low
  refine ⟨⟨_, cM⟩, (World.frozen?_of_block (w := w) (a := ⟨M, p, none⟩) eM).trans h.hz, ?_, fun h0 => ?_, ?_⟩
  · rw [← es.1]
    obtain ⟨s1, wide, hh⟩ := hr.rebase (B' := B) (by omega)
    exact ⟨s1, wide, hh.store h.hF _⟩
  · rw [← es.2 h0]
    have h0' : (timesA (accA bs) k (countA bs 1024 s).s).s.err = 0 := by rw [es.1]; exact h0
    have ob : ∀ b, b ≠ M → (u.setCell ⟨M, p, none⟩ (.slice (some ⟨g, 0, none⟩) k k)).heap[b]? = u.heap[b]? := fun b hb => Below.heap_setCell _ ⟨M, p, none⟩ _ _ hb
    have sz : (u.setCell ⟨M, p, none⟩ (.slice (some ⟨g, 0, none⟩) k k)).heap.size = u.heap.size := by simp [World.setCell]
    refine ⟨some ⟨g, 0, none⟩, k, World.cell?_setCell_same _ _ _ cM, timesA_length _ _ _, Nat.le_refl _, (fun e => by cases e), fun _ => ⟨g, 0, rfl, ⟨by omega, by rw [sz]; exact hg2, far_own hF _, fun e => hMg e.symm⟩, fun j x hx => ?_⟩⟩
    have kx : AccK x := timesA_all (Q := AccK) (accA bs) (fun s => accK_A bs s) _ _ x (List.mem_of_getElem? hx)
    refine (hf h0' j x hx).same (fun q _ => ?_) kx (fun b hb => ?_)
    · rw [Nat.zero_add]
      exact World.cell?_of_block (w := u) (a := ⟨g, j * 10 + q, none⟩) (ob g (fun e => hMg e.symm))
    · have hb1 := hb.1
      have hbM : b ≠ M := by omega
      exact ⟨⟨by omega, by rw [sz]; exact hb.2.1, hb.2.2.1, hbM⟩, ob b hbM⟩
  · have g2 := hst.to hM (far_own h.hF w) p (p + 1)
    refine ⟨g2.os, g2.tape, g2.output, by simpa [World.setCell] using g2.size, fun k hk hs hne => (Below.heap_setCell _ ⟨M, p, none⟩ _ _ hne).trans (g2.block k hk hs hne), fun o ho => ?_, fun o => (World.frozen?_setCell _ _ _ _).trans (g2.frozen o), fun k hk => g2.own k hk⟩
    have ne : (⟨M, p, none⟩ : Addr) ≠ ⟨M, o, none⟩ := fun e => by
      have : p = o := by injection e
      omega
    rw [World.cell?_setCell_other _ _ _ _ ne]
    exact g2.cell o ho
end
theorem rlist_state1 {B RR R : Nat} {a : Option Addr} {n cp : Nat} {bs : List Int} {s : St} {w : World} {M p C : Nat} (h : Rlp B RR R a n cp bs s [0] w M p) (hC : w.cell? ⟨C, 0, none⟩ = some (.iface 131 (.pointer (some ⟨RR, 0, none⟩)))) (hS : ¬ Rown RR R w C) :
    Calls Tryz.prog 28 #[.iface 131 (.pointer (some ⟨RR, 0, none⟩)), .pointer (some ⟨M, p, none⟩), .func (.func 29) #[] #[.pointer (some ⟨C, 0, none⟩)]] w fun e w' => e = .returned (.tuple #[]) ∧ Ra3 B RR R a n cp bs s w M p w' :=
  go_list_account (D := 131) (W := RR) (M := M) (p := p) (a := none) (n := 0) (cp := 0) (Fi := 29) (cap := #[.pointer (some ⟨C, 0, none⟩)]) nilr_count methr_count callr_count call_state1
    (R0 := fun u => u = w) (R1 := Rl1 B RR R a n cp bs s w) (R2 := Ra2 B RR R a n cp bs s w) (R3 := Ra3 B RR R a n cp bs s w M p)
    (fun u hu => by subst hu; exact h.hc) (fun u hu => by subst hu; exact rl_count h)
    (fun k u h1 => by obtain ⟨c, e4⟩ := ra_copy h 94 k u h1; exact ⟨c, [], by simp, fun v hv => by simp at hv, fun h0 => absurd h0 (by simp), fun w' hr hb => e4 w' (by simpa using hr) hb⟩)
    (fun k g i u hi h2 => clos_state1 (R0 := fun x => x = u) (fun x e => by subst e; exact (World.cell?_of_block (w := w) (a := ⟨C, 0, none⟩) (h2.2.2.2.2.2.1.block C (World.block_lt_of_cell? w _ hC) hS)).trans hC) (fun x e => by subst e; exact ra_item h hi h2) u rfl)
    (fun k g u h2 => ra_store h h2) w rfl
end Go.Proofs.YthklpkmdmkgjiaaGreat
