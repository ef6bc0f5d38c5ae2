/- A disk in memory: which blocks are its own, what a step leaves of all others. No condition. -/
import Derived.Test.YtfkclebngldjmaaDiskMath
import Derived.Deep.MidRow
import Derived.Deep.DeepAppendWide
namespace Go.Proofs.Ytfkclebngldjmaa
open Go.ChangeShapes Go.WideShapes Go.ChangeAt Go.RowKit B8 Dm
set_option linter.unusedVariables false

/-- of the blocks that there were none has turned but those of L -/
structure Chg (L : Nat → Prop) (w w' : World) : Prop where
  os : w'.os = w.os
  tape : w'.tape = w.tape
  output : w'.output = w.output
  size : w.heap.size ≤ w'.heap.size
  block : ∀ k, k < w.heap.size → ¬ L k → w'.heap[k]? = w.heap[k]?

section
variable {L L' : Nat → Prop} {w w1 w2 : World}
theorem Chg.refl (L : Nat → Prop) (w : World) : Chg L w w := ⟨rfl, rfl, rfl, Nat.le_refl _, fun _ _ _ => rfl⟩
/-- behind it a step that turns no other block that there was at first -/
theorem Chg.trans (h : Chg L w w1) (g : Chg L' w1 w2) (hl : ∀ k, k < w.heap.size → L' k → L k) : Chg L w w2 :=
  ⟨g.os.trans h.os, g.tape.trans h.tape, g.output.trans h.output, Nat.le_trans h.size g.size, fun k hk hn => (g.block k (Nat.lt_of_lt_of_le hk h.size) (fun h' => hn (hl k hk h'))).trans (h.block k hk hn)⟩
theorem Chg.mono (h : Chg L w w1) (hl : ∀ k, k < w.heap.size → L k → L' k) : Chg L' w w1 := (Chg.refl L' w).trans h hl
theorem Chg.drew (h : Chg L w w1) : Chg L w w1.drew := ⟨h.os, h.tape, h.output, h.size, h.block⟩
theorem Chg.alloc (h : Chg L w w1) (o : Obj) : Chg L w (w1.alloc o) :=
  ⟨h.os, h.tape, h.output, Nat.le_trans h.size (by simp), fun k hk hn => (Below.heap_alloc _ _ _ (Nat.lt_of_lt_of_le hk h.size)).trans (h.block k hk hn)⟩
theorem Chg.setCell (h : Chg L w w1) {p : Addr} (hp : L p.block ∨ w.heap.size ≤ p.block) (u : Value) : Chg L w (w1.setCell p u) :=
  ⟨h.os, h.tape, h.output, Nat.le_trans h.size (by simp [World.setCell]), fun k hk hn => (Below.heap_setCell _ _ _ _ (fun e => by subst e; rcases hp with hp | hp; exact hn hp; omega)).trans (h.block k hk hn)⟩
theorem Chg.setCells (b : Nat) (hp : L b ∨ w.heap.size ≤ b) : ∀ (vs : List Value) (o : Nat) {w1 : World}, Chg L w w1 → Chg L w (w1.setCells b o vs)
  | [], _, _, h => h
  | v :: r, o, _, h => by
    rw [World.setCells]
    exact Chg.setCells b hp r (o + 1) (h.setCell (p := ⟨b, o, none⟩) hp v)
theorem Chg.setRow (h : Chg L w w1) {g : Nat} (hp : L g ∨ w.heap.size ≤ g) (cs : Array Value) : Chg L w (w1.setRow g cs) :=
  ⟨h.os, h.tape, h.output, Nat.le_trans h.size (by simp [World.setRow]), fun k hk hn => (setRow_other w1 g k cs (fun e => by subst e; rcases hp with hp | hp; exact hn hp; omega)).trans (h.block k hk hn)⟩
theorem Chg.grown (h : Chg L w w1) {row : Option Nat} (hg : w1.grownBy w2 row) (hr : ∀ k, row = some k → L k ∨ w.heap.size ≤ k) : Chg L w w2 :=
  ⟨hg.os.trans h.os, hg.tape.trans h.tape, hg.output.trans h.output, Nat.le_trans h.size hg.size, fun k hk hn => (hg.block k (Nat.lt_of_lt_of_le hk h.size) (fun e => by rcases hr k e.symm with h1 | h1; exact hn h1; omega)).trans (h.block k hk hn)⟩
theorem Chg.below (h : Chg L w w1) {B : Nat} (hB : B ≤ w.heap.size) (hl : ∀ k, L k → B ≤ k) : Below B w w1 :=
  ⟨h.os, h.tape, h.output, h.size, fun k hk => h.block k (by omega) (fun h' => by have := hl k h'; omega)⟩
theorem Chg.of_below (h : Below w.heap.size w w1) (L : Nat → Prop) : Chg L w w1 := ⟨h.os, h.tape, h.output, h.size, fun k hk _ => h.block k hk⟩
theorem Chg.drewN (L : Nat → Prop) (w : World) (n : Nat) : Chg L w (w.drewN n) := ⟨rfl, rfl, rfl, Nat.le_refl _, fun _ _ _ => rfl⟩
end

/-- blocks of bytes, one behind the other -/
structure Bks (w : World) (g n : Nat) (K : Nat → List Int) : Prop where
  cells : ∀ i, i < n → w.rangeAt g (i * 64) (vals (K i))
  there : ∀ i, i < n → w.there g (i * 64) 64
theorem rangeAt_same {w w' : World} {b o : Nat} {cs : List Value} (h : w.rangeAt b o cs) (e : w'.heap[b]? = w.heap[b]?) : w'.rangeAt b o cs := fun j v hv => (World.cell?_of_block (w := w) (w' := w') (a := ⟨b, o + j, none⟩) e).trans (h j v hv)
theorem there_same {w w' : World} {b o n : Nat} (h : w.there b o n) (e : w'.heap[b]? = w.heap[b]?) : w'.there b o n := fun j hj => by
  rw [World.cell?_of_block (w := w) (w' := w') (a := ⟨b, o + j, none⟩) e, World.frozen?_of_block (w := w) (w' := w') (a := ⟨b, o + j, none⟩) e]
  exact h j hj
theorem Bks.same {w w' : World} {g n : Nat} {K : Nat → List Int} (h : Bks w g n K) (e : w'.heap[g]? = w.heap[g]?) : Bks w' g n K :=
  ⟨fun i hi => rangeAt_same (h.cells i hi) e, fun i hi => there_same (h.there i hi) e⟩
theorem vals_length (zs : List Int) : (vals zs).length = zs.length := by simp [vals]
/-- one block is written -/
theorem Bks.set {w : World} {g n : Nat} {K : Nat → List Int} (h : Bks w g n K) (hK : ∀ i, i < n → (K i).length = 64) {i : Nat} {bs : List Int} (hi : i < n) (hb : bs.length = 64) : Bks (w.setCells g (i * 64) (vals bs)) g n (upd K (i, bs)) := by
  refine ⟨fun j hj => ?_, fun j hj => World.there_setCells (h.there j hj) _ _ _⟩
  by_cases e : j = i
  · subst e
    have : upd K (j, bs) j = bs := by simp [upd]
    rw [this]
    exact World.rangeAt_setCells_same _ _ _ _ (by rw [vals_length, hb]; exact h.there j hj)
  · have : upd K (i, bs) j = K j := by simp [upd, e]
    rw [this]
    refine World.rangeAt_setCells_apart (h.cells j hj) _ _ _ (.inr ?_)
    rw [vals_length, vals_length, hb, hK j hj]
    omega
theorem heap_setCells (b : Nat) : ∀ (vs : List Value) (o : Nat) (w : World) (k : Nat), k ≠ b → (w.setCells b o vs).heap[k]? = w.heap[k]?
  | [], _, _, _, _ => rfl
  | v :: r, o, w, k, h => by rw [World.setCells, heap_setCells b r (o + 1) _ k h]; exact Below.heap_setCell w ⟨b, o, none⟩ v k h
theorem size_setCells (b : Nat) : ∀ (vs : List Value) (o : Nat) (w : World), (w.setCells b o vs).heap.size = w.heap.size
  | [], _, _ => rfl
  | v :: r, o, w => by rw [World.setCells, size_setCells b r (o + 1)]; simp [World.setCell]

/-- a write that waits, as cells -/
def wcell (x : Nat × List Int) : List Value := .int .i64 x.1 :: vals x.2
def wcells (ws : List (Nat × List Int)) : List Value := ws.flatMap wcell
theorem wcells_snoc (ws : List (Nat × List Int)) (x : Nat × List Int) : wcells (ws ++ [x]) = wcells ws ++ wcell x := by simp [wcells]
theorem wcell_length {x : Nat × List Int} (h : x.2.length = 64) : (wcell x).length = 65 := by simp [wcell, vals, h]
theorem wcell_one (x : Nat × List Int) : ∀ v ∈ wcell x, v.oneCell' = true := by
  intro v hv
  simp only [wcell, List.mem_cons] at hv
  rcases hv with rfl | hv
  · rfl
  · exact vals_one _ v hv
theorem wcells_at : ∀ (ws : List (Nat × List Int)), (∀ x ∈ ws, x.2.length = 64) → ∀ (i : Nat) (x : Nat × List Int), ws[i]? = some x → ∀ j, j < 65 → (wcells ws)[i * 65 + j]? = (wcell x)[j]?
  | [], _, i, x, hx, _, _ => by simp at hx
  | y :: r, h, 0, x, hx, j, hj => by
    simp at hx
    subst hx
    show (wcell y ++ wcells r)[0 * 65 + j]? = _
    rw [List.getElem?_append_left (by rw [wcell_length (h y (by simp))]; omega)]
    simp
  | y :: r, h, i + 1, x, hx, j, hj => by
    show (wcell y ++ wcells r)[(i + 1) * 65 + j]? = _
    have hl := wcell_length (h y (by simp))
    rw [List.getElem?_append_right (by omega), hl, show (i + 1) * 65 + j - 65 = i * 65 + j by omega]
    exact wcells_at r (fun z hz => h z (by simp [hz])) i x (by simpa using hx) j hj
/-- the i-th write that waits -/
theorem row_at {w : World} {B T : Nat} {g cp m : Nat} {ws : List (Nat × List Int)} (h : w.ownsRow B T 65 (.slice (some ⟨g, 0, none⟩) m cp) m (wcells ws)) (hw : ∀ x ∈ ws, x.2.length = 64) {i : Nat} {x : Nat × List Int} (hx : ws[i]? = some x) : w.rangeAt g (i * 65) (wcell x) := by
  intro j v hv
  have hj : j < 65 := by
    have h1 := (List.getElem?_eq_some_iff.1 hv).1
    rw [wcell_length (hw x (List.mem_of_getElem? hx))] at h1
    exact h1
  have := h.cells (g := g) rfl (i * 65 + j) v (by rw [wcells_at ws hw i x hx j hj]; exact hv)
  rw [Addr.add_mid, Nat.zero_add] at this
  exact this

/-- a landed disk at D: the rows of what is kept and what is shown, the list of what waits -/
structure Dk (w : World) (D gk ck gs cs : Nat) (av : Option Addr) (m cv : Nat) (s : Ds) : Prop where
  c0 : w.cell? ⟨D, 0, none⟩ = some (.slice (some ⟨gk, 0, none⟩) s.n ck)
  c1 : w.cell? ⟨D, 1, none⟩ = some (.slice (some ⟨gs, 0, none⟩) s.n cs)
  c2 : w.cell? ⟨D, 2, none⟩ = some (.slice av m cv)
  c3 : w.cell? ⟨D, 3, none⟩ = some (.int .i64 s.left)
  c4 : w.cell? ⟨D, 4, none⟩ = some (.bool s.down)
  f : ∀ o, w.frozen? ⟨D, o, none⟩ = false
  kept : Bks w gk s.n s.kept
  shown : Bks w gs s.n (over s.kept s.ws)
  len : m = s.ws.length
  ws : w.ownsRow 0 74 65 (.slice av m cv) m (wcells s.ws)
  kcap : s.n ≤ ck
  scap : s.n ≤ cs
  k1 : gk ≠ D
  s1 : gs ≠ D
  ks : gk ≠ gs
  v1 : (Value.slice av m cv).ownBlock ≠ some D
  v2 : (Value.slice av m cv).ownBlock ≠ some gk
  v3 : (Value.slice av m cv).ownBlock ≠ some gs
  ok : Ok s

def Own (D gk gs : Nat) (v : Value) (k : Nat) : Prop := k = D ∨ k = gk ∨ k = gs ∨ v.ownBlock = some k
/-- a landed disk at D, all of whose blocks are in L -/
def Dsk (w : World) (D : Nat) (s : Ds) (L : Nat → Prop) : Prop := ∃ gk ck gs cs av m cv, Dk w D gk ck gs cs av m cv s ∧ ∀ k, Own D gk gs (.slice av m cv) k → L k

section
variable {w w' : World} {D gk ck gs cs m cv : Nat} {av : Option Addr} {s : Ds} {L : Nat → Prop}
theorem Dk.ltD (h : Dk w D gk ck gs cs av m cv s) : D < w.heap.size := World.block_lt_of_cell? w _ h.c0
theorem Bks.lt {K : Nat → List Int} {g n : Nat} (h : Bks w g n K) (hn : 1 ≤ n) : g < w.heap.size := by
  have h1 := (h.there 0 (by omega) 0 (by omega)).1
  obtain ⟨v, hv⟩ := Option.isSome_iff_exists.1 h1
  exact World.block_lt_of_cell? w _ hv
theorem Dk.ltk (h : Dk w D gk ck gs cs av m cv s) : gk < w.heap.size := h.kept.lt h.ok.lo
theorem Dk.lts (h : Dk w D gk ck gs cs av m cv s) : gs < w.heap.size := h.shown.lt h.ok.lo
theorem Dk.lt (h : Dk w D gk ck gs cs av m cv s) : ∀ k, Own D gk gs (.slice av m cv) k → k < w.heap.size := fun k hk => by
  rcases hk with rfl | rfl | rfl | hk
  · exact h.ltD
  · exact h.ltk
  · exact h.lts
  · exact (h.ws.lt k hk).2
theorem row_same {B T n : Nat} {v : Value} {xs : List Value} {sz : Nat} (h : w.ownsRow B T sz v n xs) (hb : ∀ k, v.ownBlock = some k → w'.heap[k]? = w.heap[k]?) : w'.ownsRow B T sz v n xs := by
  obtain ⟨hl, h | ⟨g, cp, cur, h1, h2, h3, h4, h5, h6, h7⟩⟩ := h
  · exact ⟨hl, .inl h⟩
  · exact ⟨hl, .inr ⟨g, cp, cur, h1, h2, (hb g (by rw [h1]; rfl)).trans h3, h4, h5, h6, h7⟩⟩
/-- where none of its blocks has turned -/
theorem Dk.same (h : Dk w D gk ck gs cs av m cv s) (hb : ∀ k, Own D gk gs (.slice av m cv) k → w'.heap[k]? = w.heap[k]?) : Dk w' D gk ck gs cs av m cv s := by
  have eD := hb D (.inl rfl)
  have c : ∀ o, w'.cell? ⟨D, o, none⟩ = w.cell? ⟨D, o, none⟩ := fun o => World.cell?_of_block (a := ⟨D, o, none⟩) eD
  exact ⟨(c 0).trans h.c0, (c 1).trans h.c1, (c 2).trans h.c2, (c 3).trans h.c3, (c 4).trans h.c4, fun o => (World.frozen?_of_block (a := ⟨D, o, none⟩) eD).trans (h.f o), h.kept.same (hb gk (.inr (.inl rfl))), h.shown.same (hb gs (.inr (.inr (.inl rfl)))), h.len, row_same h.ws (fun k hk => hb k (.inr (.inr (.inr hk)))), h.kcap, h.scap, h.k1, h.s1, h.ks, h.v1, h.v2, h.v3, h.ok⟩
theorem Dsk.lt (h : Dsk w D s L) : Dsk w D s (fun k => L k ∧ k < w.heap.size) := by
  obtain ⟨gk, ck, gs, cs, av, m, cv, h, hl⟩ := h
  exact ⟨gk, ck, gs, cs, av, m, cv, h, fun k hk => ⟨hl k hk, h.lt k hk⟩⟩
theorem Dsk.mono {L' : Nat → Prop} (h : Dsk w D s L) (hl : ∀ k, k < w.heap.size → L k → L' k) : Dsk w D s L' := by
  obtain ⟨gk, ck, gs, cs, av, m, cv, h, hk⟩ := h
  exact ⟨gk, ck, gs, cs, av, m, cv, h, fun k hj => hl k (h.lt k hj) (hk k hj)⟩
theorem Dsk.same (h : Dsk w D s L) (hb : ∀ k, k < w.heap.size → L k → w'.heap[k]? = w.heap[k]?) : Dsk w' D s L := by
  obtain ⟨gk, ck, gs, cs, av, m, cv, h, hk⟩ := h
  exact ⟨gk, ck, gs, cs, av, m, cv, h.same (fun k hj => hb k (h.lt k hj) (hk k hj)), hk⟩
theorem Dsk.far {L' : Nat → Prop} (h : Dsk w D s L) (hc : Chg L' w w') (hd : ∀ k, L k → ¬ L' k) : Dsk w' D s L := h.same (fun k hk hl => hc.block k hk (hd k hl))
theorem Dsk.below (h : Dsk w D s L) (hb : Below w.heap.size w w') : Dsk w' D s L := h.same (fun k hk _ => hb.block k hk)
theorem Dsk.ok (h : Dsk w D s L) : Ok s := by obtain ⟨_, _, _, _, _, _, _, h, _⟩ := h; exact h.ok
theorem Dsk.drew (h : Dsk w D s L) : Dsk w.drew D s L := h.same (fun _ _ _ => rfl)
theorem Dsk.drewN (h : Dsk w D s L) (n : Nat) : Dsk (w.drewN n) D s L := h.same (fun _ _ _ => rfl)
end
/-- what a call on the disk at D leaves: the disk, its blocks those of before or new ones; all else as it was -/
def Mv (w : World) (D : Nat) (L : Nat → Prop) (s : Ds) (w' : World) : Prop := Chg L w w' ∧ Dsk w' D s (fun k => L k ∨ w.heap.size ≤ k)
end Go.Proofs.Ytfkclebngldjmaa
