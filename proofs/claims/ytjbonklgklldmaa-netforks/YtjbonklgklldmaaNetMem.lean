/- A net in memory: which blocks are its own, what a step leaves of all others. No condition. -/
import Derived.Test.YtjbonklgklldmaaNetMath
import Derived.Test.YtjbonklgklldmaaSq8
import Derived.Maps.OwnSet
import Derived.DeepKeys4
import Derived.Deep.MidRow
import Derived.Deep.DeepAppendWide
namespace Go.Proofs.Ytjbonklgklldmaa
open Go.ChangeShapes Go.WideShapes Go.ChangeAt Go.RowKit B8 Nm
set_option linter.unusedVariables false

/-- of the blocks that there were none has turned but those of L -/
structure Chg (L : Nat → Prop) (w w' : World) : Prop where
  os : w'.os = w.os
  tape : w'.tape = w.tape
  output : w'.output = w.output
  size : w.heap.size ≤ w'.heap.size
  block : ∀ k, k < w.heap.size → ¬ L k → w'.heap[k]? = w.heap[k]?

section
variable {L L' : Nat → Prop} {w w1 w2 : World}
theorem Chg.refl (L : Nat → Prop) (w : World) : Chg L w w := ⟨rfl, rfl, rfl, Nat.le_refl _, fun _ _ _ => rfl⟩
theorem Chg.trans (h : Chg L w w1) (g : Chg L' w1 w2) (hl : ∀ k, k < w.heap.size → L' k → L k) : Chg L w w2 :=
  ⟨g.os.trans h.os, g.tape.trans h.tape, g.output.trans h.output, Nat.le_trans h.size g.size, fun k hk hn => (g.block k (Nat.lt_of_lt_of_le hk h.size) (fun h' => hn (hl k hk h'))).trans (h.block k hk hn)⟩
theorem Chg.mono (h : Chg L w w1) (hl : ∀ k, k < w.heap.size → L k → L' k) : Chg L' w w1 := (Chg.refl L' w).trans h hl
theorem Chg.drew (h : Chg L w w1) : Chg L w w1.drew := ⟨h.os, h.tape, h.output, h.size, h.block⟩
theorem Chg.alloc (h : Chg L w w1) (o : Obj) : Chg L w (w1.alloc o) :=
  ⟨h.os, h.tape, h.output, Nat.le_trans h.size (by simp), fun k hk hn => (Below.heap_alloc _ _ _ (Nat.lt_of_lt_of_le hk h.size)).trans (h.block k hk hn)⟩
theorem Chg.setCell (h : Chg L w w1) {p : Addr} (hp : L p.block ∨ w.heap.size ≤ p.block) (u : Value) : Chg L w (w1.setCell p u) :=
  ⟨h.os, h.tape, h.output, Nat.le_trans h.size (by simp [World.setCell]), fun k hk hn => (Below.heap_setCell _ _ _ _ (fun e => by subst e; rcases hp with hp | hp; exact hn hp; omega)).trans (h.block k hk hn)⟩
theorem Chg.setRow (h : Chg L w w1) {g : Nat} (hp : L g ∨ w.heap.size ≤ g) (cs : Array Value) : Chg L w (w1.setRow g cs) :=
  ⟨h.os, h.tape, h.output, Nat.le_trans h.size (by simp [World.setRow]), fun k hk hn => (setRow_other w1 g k cs (fun e => by subst e; rcases hp with hp | hp; exact hn hp; omega)).trans (h.block k hk hn)⟩
theorem Chg.grown (h : Chg L w w1) {row : Option Nat} (hg : w1.grownBy w2 row) (hr : ∀ k, row = some k → L k ∨ w.heap.size ≤ k) : Chg L w w2 :=
  ⟨hg.os.trans h.os, hg.tape.trans h.tape, hg.output.trans h.output, Nat.le_trans h.size hg.size, fun k hk hn => (hg.block k (Nat.lt_of_lt_of_le hk h.size) (fun e => by rcases hr k e.symm with h1 | h1; exact hn h1; omega)).trans (h.block k hk hn)⟩
theorem Chg.below (h : Chg L w w1) {B : Nat} (hB : B ≤ w.heap.size) (hl : ∀ k, L k → B ≤ k) : Below B w w1 :=
  ⟨h.os, h.tape, h.output, h.size, fun k hk => h.block k (by omega) (fun h' => by have := hl k h'; omega)⟩
theorem Chg.of_below (h : Below w.heap.size w w1) (L : Nat → Prop) : Chg L w w1 := ⟨h.os, h.tape, h.output, h.size, fun k hk _ => h.block k hk⟩
theorem Chg.drewN (L : Nat → Prop) (w : World) (n : Nat) : Chg L w (w.drewN n) := ⟨rfl, rfl, rfl, Nat.le_refl _, fun _ _ _ => rfl⟩
end
theorem row_same {w w' : World} {B T n : Nat} {v : Value} {xs : List Value} {sz : Nat} (h : w.ownsRow B T sz v n xs) (hb : ∀ k, v.ownBlock = some k → w'.heap[k]? = w.heap[k]?) : w'.ownsRow B T sz v n xs := by
  obtain ⟨hl, h | ⟨g, cp, cur, h1, h2, h3, h4, h5, h6, h7⟩⟩ := h
  · exact ⟨hl, .inl h⟩
  · exact ⟨hl, .inr ⟨g, cp, cur, h1, h2, (hb g (by rw [h1]; rfl)).trans h3, h4, h5, h6, h7⟩⟩

/-- a packet as it lies -/
structure Pv where
  f : Int
  t : Int
  a : Option Addr
  n : Nat
  cp : Nat
  b : List Int
def Pv.cells (p : Pv) : List Value := [.int .i64 p.f, .int .i64 p.t, .slice p.a p.n p.cp]
def Pv.pk (p : Pv) : Pk := ⟨p.f, p.t, p.b⟩
def pcells (l : List Pv) : List Value := l.flatMap Pv.cells
theorem pcells_append (l r : List Pv) : pcells (l ++ r) = pcells l ++ pcells r := by simp [pcells]
theorem pcells_length : ∀ (l : List Pv), (pcells l).length = l.length * 3
  | [] => rfl
  | p :: r => by show (p.cells ++ pcells r).length = _; rw [List.length_append, pcells_length r]; simp [Pv.cells]; omega
theorem pcells_at : ∀ (l : List Pv) (i : Nat) (p : Pv), l[i]? = some p → ∀ j, j < 3 → (pcells l)[i * 3 + j]? = p.cells[j]?
  | [], i, p, hx, _, _ => by simp at hx
  | y :: r, 0, p, hx, j, hj => by
    simp at hx
    subst hx
    show (y.cells ++ pcells r)[0 * 3 + j]? = _
    rw [List.getElem?_append_left (by simp [Pv.cells]; omega)]
    simp
  | y :: r, i + 1, p, hx, j, hj => by
    show (y.cells ++ pcells r)[(i + 1) * 3 + j]? = _
    rw [List.getElem?_append_right (by simp [Pv.cells]; omega), show (i + 1) * 3 + j - y.cells.length = i * 3 + j by simp [Pv.cells]; omega]
    exact pcells_at r i p (by simpa using hx) j hj
theorem pcells_one (l : List Pv) : ∀ v ∈ pcells l, v.oneCell' = true := by
  intro v hv
  obtain ⟨p, _, hp⟩ := List.mem_flatMap.1 hv
  simp [Pv.cells] at hp
  rcases hp with rfl | rfl | rfl <;> rfl
/-- its body's bytes are there -/
def Pv.In (w : World) (p : Pv) : Prop := Sq w p.a p.n p.cp p.b ∧ ∀ ad, p.a = some ad → ad.block < w.heap.size
theorem Pv.In.same {w w' : World} {p : Pv} (h : p.In w) (hs : w.heap.size ≤ w'.heap.size) (hb : ∀ ad, p.a = some ad → w'.heap[ad.block]? = w.heap[ad.block]?) : p.In w' := by
  refine ⟨⟨h.1.length, h.1.lecap, h.1.nil, fun h0 => ?_, h.1.wf⟩, fun ad e => Nat.lt_of_lt_of_le (h.2 ad e) hs⟩
  obtain ⟨b, off, e, hc⟩ := h.1.cells h0
  exact ⟨b, off, e, fun j hj => (World.cell?_of_block (w := w) (w' := w') (a := ⟨b, off + j, none⟩) (hb ⟨b, off, none⟩ e)).trans (hc j hj)⟩
theorem Pv.In.below {w w' : World} {p : Pv} (h : p.In w) (hb : Below w.heap.size w w') : p.In w' := h.same hb.size (fun ad e => hb.block _ (h.2 ad e))

/-- the key of a pair -/
noncomputable def pkey (a b : Int) : Lit := .string (keyBytes [.int .i64 a, .int .i64 b])
theorem netLaid : laidOutB Try.prog = true := by kernel_rfl
theorem pairRow : (57 : TypeId) < Try.prog.types.size := of_decide_eq_true (by kernel_rfl)
theorem pairWide : (match Try.prog.underlying 57 with | some (.array _ _) | some (.struct _) => true | _ => false) = true := by kernel_rfl
theorem pairLaw : WideMaps.KeyLaw Try.prog 57 := deep_law_laid netLaid (m := 2) (by omega) pairRow (by kernel_rfl) pairWide
theorem pairKeyed : Maps.Keyed Try.prog 57 := Maps.Keyed.of_law pairLaw
theorem wf64 {a : Int} (h1 : -9223372036854775808 ≤ a) (h2 : a ≤ 9223372036854775807) : (Lit.int .i64 a).wf = true := WalkArith.wf_i64 ⟨h1, h2⟩
theorem pairIs : Try.prog.keyType 57 = true := by kernel_rfl
theorem pairCells : Try.prog.cellsOf 57 = 2 := by kernel_rfl
theorem intCells : Try.prog.cellsOf 3 = 1 := by kernel_rfl
theorem typesSize : ∃ m, Try.prog.types.size = m + 1 := ⟨85 - 1, by kernel_rfl⟩
theorem keyOf_pair {a b : Int} (wa : (Lit.int .i64 a).wf = true) (wb : (Lit.int .i64 b).wf = true) : keyOf Try.prog 57 (.agg #[.int .i64 a, .int .i64 b]) = some (pkey a b) := by
  obtain ⟨m, hm⟩ := typesSize
  unfold keyOf
  simp only [Try.underlying57]
  rw [if_pos (by simp [pairIs, Value.formed, Try.underlying57, pairCells]), hm]
  unfold Program.keyLits
  simp only [Try.underlying57, Value.cells]
  rw [if_pos (by rw [pairCells]; simp)]
  simp [intCells, Program.keyLits, Try.underlying3, wa, wb, pkey]

/-- pairs that are cut, in the map at mb: at most kk entries -/
def Cuts (w : World) (mb kk : Nat) (cuts : List (Int × Int)) : Prop :=
  ∃ D : DataW Unit, w.ownsMap Try.prog 57 unitElem mb kk D ∧ ∀ lo hi : Int, (Lit.int .i64 lo).wf = true → (Lit.int .i64 hi).wf = true → Maps.has D (pkey lo hi) = cuts.any fun p => decide (min p.1 p.2 = lo ∧ max p.1 p.2 = hi)
/-- where a net lies -/
structure Lay where
  N : Nat
  mb : Nat
  av : Option Addr
  m : Nat
  cv : Nat
  l : List Pv
def Lay.v (L : Lay) : Value := .slice L.av L.m L.cv
/-- the blocks that its calls may write -/
def Lay.M (L : Lay) (k : Nat) : Prop := k = L.N ∨ k = L.mb ∨ L.v.ownBlock = some k
/-- the blocks of its bodies -/
def Lay.R (L : Lay) (k : Nat) : Prop := ∃ p ∈ L.l, ∃ ad, p.a = some ad ∧ ad.block = k
/-- a landed net -/
structure Nt (w : World) (L : Lay) (kk : Nat) (s : Ns) : Prop where
  c0 : w.cell? ⟨L.N, 0, none⟩ = some (.int .i64 s.n)
  c1 : w.cell? ⟨L.N, 1, none⟩ = some (.slice L.av L.m L.cv)
  c2 : w.cell? ⟨L.N, 2, none⟩ = some (.map (some L.mb))
  f : ∀ o, w.frozen? ⟨L.N, o, none⟩ = false
  row : w.ownsRow 0 33 3 (.slice L.av L.m L.cv) L.m (pcells L.l)
  len : L.m = L.l.length
  ps : s.ps = L.l.map Pv.pk
  ins : ∀ p ∈ L.l, p.In w
  cuts : Cuts w L.mb kk s.cuts
  v1 : (Value.slice L.av L.m L.cv).ownBlock ≠ some L.N
  dis : ∀ k, L.M k → ¬ L.R k
  ok : Ok s
section
variable {w w' : World} {L : Lay} {kk : Nat} {s : Ns}
theorem Nt.ltN (h : Nt w L kk s) : L.N < w.heap.size := World.block_lt_of_cell? w _ h.c0
theorem Cuts.lt {mb kk : Nat} {cuts : List (Int × Int)} (h : Cuts w mb kk cuts) : mb < w.heap.size := by obtain ⟨D, h, _⟩ := h; exact h.lt
theorem Cuts.same {mb kk : Nat} {cuts : List (Int × Int)} (h : Cuts w mb kk cuts) (e : w'.heap[mb]? = w.heap[mb]?) : Cuts w' mb kk cuts := by
  obtain ⟨D, ⟨es, clock, hb, r⟩, h2⟩ := h
  exact ⟨D, ⟨es, clock, e.trans hb, r⟩, h2⟩
theorem Cuts.mono {mb kk k2 : Nat} {cuts : List (Int × Int)} (h : Cuts w mb kk cuts) (e : kk ≤ k2) : Cuts w mb k2 cuts := by
  obtain ⟨D, h, h2⟩ := h
  exact ⟨D, h.mono e, h2⟩
theorem Nt.ltR (h : Nt w L kk s) : ∀ k, L.R k → k < w.heap.size := fun k ⟨p, hp, ad, e, hk⟩ => hk ▸ (h.ins p hp).2 ad e
theorem Nt.lt (h : Nt w L kk s) : ∀ k, L.M k → k < w.heap.size := fun k hk => by
  rcases hk with rfl | rfl | hk
  · exact h.ltN
  · exact h.cuts.lt
  · exact (h.row.lt k hk).2
theorem Nt.mN (h : Nt w L kk s) : L.mb ≠ L.N := fun e => by
  obtain ⟨D, ⟨es, clock, hb, _⟩, _⟩ := h.cuts
  have := h.c0
  rw [← e] at this
  simp [World.cell?, hb] at this
theorem Nt.vM (h : Nt w L kk s) : (Value.slice L.av L.m L.cv).ownBlock ≠ some L.mb := fun e => by
  obtain ⟨D, ⟨es, clock, hb, _⟩, _⟩ := h.cuts
  obtain ⟨_, ⟨h1, _⟩ | ⟨g, cp, cur, h1, _, h3, _⟩⟩ := h.row
  · rw [h1] at e
    simp [Value.ownBlock] at e
  · rw [h1] at e
    simp [Value.ownBlock] at e
    subst e
    rw [hb] at h3
    cases h3
/-- where none of its blocks has turned -/
theorem Nt.same (h : Nt w L kk s) (hs : w.heap.size ≤ w'.heap.size) (hb : ∀ k, L.M k ∨ L.R k → w'.heap[k]? = w.heap[k]?) : Nt w' L kk s := by
  have eN := hb L.N (.inl (.inl rfl))
  have c : ∀ o, w'.cell? ⟨L.N, o, none⟩ = w.cell? ⟨L.N, o, none⟩ := fun o => World.cell?_of_block (a := ⟨L.N, o, none⟩) eN
  exact ⟨(c 0).trans h.c0, (c 1).trans h.c1, (c 2).trans h.c2, fun o => (World.frozen?_of_block (a := ⟨L.N, o, none⟩) eN).trans (h.f o), row_same h.row (fun k hk => hb k (.inl (.inr (.inr hk)))), h.len, h.ps, fun p hp => (h.ins p hp).same hs (fun ad e => hb _ (.inr ⟨p, hp, ad, e, rfl⟩)), h.cuts.same (hb _ (.inl (.inr (.inl rfl)))), h.v1, h.dis, h.ok⟩
theorem Nt.below (h : Nt w L kk s) (hb : Below w.heap.size w w') : Nt w' L kk s := h.same hb.size (fun k hk => hb.block k (by rcases hk with hk | hk; exact h.lt k hk; exact h.ltR k hk))
theorem Nt.drew (h : Nt w L kk s) : Nt w.drew L kk s := h.same (Nat.le_refl _) (fun _ _ => rfl)
theorem Nt.drewN (h : Nt w L kk s) (n : Nat) : Nt (w.drewN n) L kk s := h.same (Nat.le_refl _) (fun _ _ => rfl)
theorem Nt.mono {k2 : Nat} (h : Nt w L kk s) (e : kk ≤ k2) : Nt w L k2 s := ⟨h.c0, h.c1, h.c2, h.f, h.row, h.len, h.ps, h.ins, h.cuts.mono e, h.v1, h.dis, h.ok⟩
theorem Nt.far {M' : Nat → Prop} (h : Nt w L kk s) (hc : Chg M' w w') (hd : ∀ k, L.M k ∨ L.R k → ¬ M' k) : Nt w' L kk s :=
  h.same hc.size (fun k hk => hc.block k (by rcases hk with hk | hk; exact h.lt k hk; exact h.ltR k hk) (hd k hk))
end
/-- what a call on a net leaves: the net, its blocks those of before or new ones; all else as it was -/
def Mv (w : World) (L : Lay) (kk : Nat) (s : Ns) (w' : World) : Prop :=
  Chg L.M w w' ∧ ∃ L', Nt w' L' kk s ∧ L'.N = L.N ∧ (∀ k, L'.M k → L.M k ∨ w.heap.size ≤ k) ∧ (∀ k, L'.R k → L.R k ∨ w.heap.size ≤ k)
theorem Mv.stay {w : World} {L : Lay} {kk : Nat} {s : Ns} (h : Nt w L kk s) : Mv w L kk s w := ⟨Chg.refl _ _, L, h, rfl, fun k hk => .inl hk, fun k hk => .inl hk⟩
theorem Mv.below {w w' : World} {L : Lay} {kk : Nat} {s : Ns} (h : Nt w L kk s) (hb : Below w.heap.size w w') : Mv w L kk s w' := ⟨Chg.of_below hb _, L, h.below hb, rfl, fun k hk => .inl hk, fun k hk => .inl hk⟩
end Go.Proofs.Ytjbonklgklldmaa
