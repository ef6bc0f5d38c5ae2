/- The document's net in memory: which blocks are its own, what a step leaves of all others. No condition. -/
import Derived.Test.YtbgejpkkocedbaaNetSmall
namespace Go.Proofs.Ytbgejpkkocedbaa
open Go.ChangeShapes Go.WideShapes Go.ChangeAt Go.RowKit B8 Nm
set_option linter.unusedVariables false

def ccells (l : List (Int × Int)) : List Value := l.flatMap fun p => [.int .i64 p.1, .int .i64 p.2]
theorem ccells_append (l r : List (Int × Int)) : ccells (l ++ r) = ccells l ++ ccells r := by simp [ccells]
theorem ccells_length : ∀ (l : List (Int × Int)), (ccells l).length = l.length * 2
  | [] => rfl
  | p :: r => by show ([Value.int .i64 p.1, Value.int .i64 p.2] ++ ccells r).length = _; rw [List.length_append, ccells_length r]; simp; omega
theorem ccells_at : ∀ (l : List (Int × Int)) (i : Nat) (p : Int × Int), l[i]? = some p → (ccells l)[i * 2]? = some (.int .i64 p.1) ∧ (ccells l)[i * 2 + 1]? = some (.int .i64 p.2)
  | [], i, p, hx => by simp at hx
  | y :: r, 0, p, hx => by
    simp at hx
    subst hx
    exact ⟨rfl, rfl⟩
  | y :: r, i + 1, p, hx => by
    have h := ccells_at r i p (by simpa using hx)
    show ([Value.int .i64 y.1, Value.int .i64 y.2] ++ ccells r)[(i + 1) * 2]? = _ ∧ ([Value.int .i64 y.1, Value.int .i64 y.2] ++ ccells r)[(i + 1) * 2 + 1]? = _
    rw [List.getElem?_append_right (by simp; omega), List.getElem?_append_right (by simp; omega), show (i + 1) * 2 - [Value.int .i64 y.1, Value.int .i64 y.2].length = i * 2 by simp; omega, show (i + 1) * 2 + 1 - [Value.int .i64 y.1, Value.int .i64 y.2].length = i * 2 + 1 by simp; omega]
    exact h
/-- where it lies -/
structure RLay where
  N : Nat
  av : Option Addr
  m : Nat
  cv : Nat
  l : List Pv
  ca : Option Addr
  cm : Nat
  cc : Nat
def RLay.M (L : RLay) (k : Nat) : Prop := k = L.N ∨ (Value.slice L.av L.m L.cv).ownBlock = some k ∨ (Value.slice L.ca L.cm L.cc).ownBlock = some k
def RLay.R (L : RLay) (k : Nat) : Prop := ∃ p ∈ L.l, ∃ ad, p.a = some ad ∧ ad.block = k
structure Rt (w : World) (L : RLay) (s : Ns) : Prop where
  c0 : w.cell? ⟨L.N, 0, none⟩ = some (.int .i64 s.n)
  c1 : w.cell? ⟨L.N, 1, none⟩ = some (.slice L.av L.m L.cv)
  c2 : w.cell? ⟨L.N, 2, none⟩ = some (.slice L.ca L.cm L.cc)
  f : ∀ o, w.frozen? ⟨L.N, o, none⟩ = false
  row : w.ownsRow 0 39 3 (.slice L.av L.m L.cv) L.m (pcells L.l)
  crow : w.ownsRow 0 80 2 (.slice L.ca L.cm L.cc) L.cm (ccells s.cuts)
  len : L.m = L.l.length
  clen : L.cm = s.cuts.length
  ps : s.ps = L.l.map Pv.pk
  ins : ∀ p ∈ L.l, p.In w
  v1 : (Value.slice L.av L.m L.cv).ownBlock ≠ some L.N
  v2 : (Value.slice L.ca L.cm L.cc).ownBlock ≠ some L.N
  dis : ∀ k, L.M k → ¬ L.R k
  ok : Ok s
theorem own_cells' {W : World} {N T sz n : Nat} {v : Value} {xs : List Value} (h : W.ownsRow N T sz v n xs) {k : Nat} (hk : v.ownBlock = some k) : ∃ cs, W.heap[k]? = some (.cells cs T (0, 0)) := by
  obtain ⟨_, ⟨rfl, _⟩ | ⟨g, cp, cur, rfl, _, h3, _⟩⟩ := h
  · simp [Value.ownBlock] at hk
  · simp [Value.ownBlock] at hk
    subst hk
    exact ⟨cur, h3⟩
section
variable {w w' : World} {L : RLay} {s : Ns}
theorem Rt.v12 (h : Rt w L s) : ∀ k, (Value.slice L.av L.m L.cv).ownBlock = some k → (Value.slice L.ca L.cm L.cc).ownBlock ≠ some k := fun k h1 h2 => by
  obtain ⟨c1, e1⟩ := own_cells' h.row h1
  obtain ⟨c2, e2⟩ := own_cells' h.crow h2
  rw [e1] at e2
  simp at e2
theorem Rt.ltN (h : Rt w L s) : L.N < w.heap.size := World.block_lt_of_cell? w _ h.c0
theorem Rt.ltR (h : Rt w L s) : ∀ k, L.R k → k < w.heap.size := fun k ⟨p, hp, ad, e, hk⟩ => hk ▸ (h.ins p hp).2 ad e
theorem Rt.lt (h : Rt w L s) : ∀ k, L.M k → k < w.heap.size := fun k hk => by
  rcases hk with rfl | hk | hk
  · exact h.ltN
  · exact (h.row.lt k hk).2
  · exact (h.crow.lt k hk).2
theorem Rt.same (h : Rt w L s) (hs : w.heap.size ≤ w'.heap.size) (hb : ∀ k, L.M k ∨ L.R k → w'.heap[k]? = w.heap[k]?) : Rt w' L s := by
  have eN := hb L.N (.inl (.inl rfl))
  have c : ∀ o, w'.cell? ⟨L.N, o, none⟩ = w.cell? ⟨L.N, o, none⟩ := fun o => World.cell?_of_block (a := ⟨L.N, o, none⟩) eN
  exact ⟨(c 0).trans h.c0, (c 1).trans h.c1, (c 2).trans h.c2, fun o => (World.frozen?_of_block (a := ⟨L.N, o, none⟩) eN).trans (h.f o), row_same h.row (fun k hk => hb k (.inl (.inr (.inl hk)))), row_same h.crow (fun k hk => hb k (.inl (.inr (.inr hk)))), h.len, h.clen, h.ps, fun p hp => (h.ins p hp).same hs (fun ad e => hb _ (.inr ⟨p, hp, ad, e, rfl⟩)), h.v1, h.v2, h.dis, h.ok⟩
theorem Rt.below (h : Rt w L s) (hb : Below w.heap.size w w') : Rt w' L s := h.same hb.size (fun k hk => hb.block k (by rcases hk with hk | hk; exact h.lt k hk; exact h.ltR k hk))
theorem Rt.drew (h : Rt w L s) : Rt w.drew L s := h.same (Nat.le_refl _) (fun _ _ => rfl)
theorem Rt.far {M' : Nat → Prop} (h : Rt w L s) (hc : Chg M' w w') (hd : ∀ k, L.M k ∨ L.R k → ¬ M' k) : Rt w' L s :=
  h.same hc.size (fun k hk => hc.block k (by rcases hk with hk | hk; exact h.lt k hk; exact h.ltR k hk) (hd k hk))
end
/-- what a call leaves -/
def RMv (w : World) (L : RLay) (s : Ns) (w' : World) : Prop :=
  Chg L.M w w' ∧ ∃ L', Rt w' L' s ∧ L'.N = L.N ∧ (∀ k, L'.M k → L.M k ∨ w.heap.size ≤ k) ∧ (∀ k, L'.R k → L.R k ∨ w.heap.size ≤ k)
theorem RMv.stay {w : World} {L : RLay} {s : Ns} (h : Rt w L s) : RMv w L s w := ⟨Chg.refl _ _, L, h, rfl, fun k hk => .inl hk, fun k hk => .inl hk⟩
theorem RMv.below {w w' : World} {L : RLay} {s : Ns} (h : Rt w L s) (hb : Below w.heap.size w w') : RMv w L s w' := ⟨Chg.of_below hb _, L, h.below hb, rfl, fun k hk => .inl hk, fun k hk => .inl hk⟩
theorem RMv.behind {w w1 w2 : World} {L : RLay} {s : Ns} (hb : Below w.heap.size w w1) (h : RMv w1 L s w2) : RMv w L s w2 := by
  obtain ⟨hc, L', h1, h2, h3, h4⟩ := h
  exact ⟨(Chg.of_below hb L.M).trans hc (fun k _ hk => hk), L', h1, h2, fun k hk => (h3 k hk).imp id (fun h => Nat.le_trans hb.size h), fun k hk => (h4 k hk).imp id (fun h => Nat.le_trans hb.size h)⟩

/-- the list of packets is another one -/
theorem Rt.relist {w w3 : World} {L : RLay} {s : Ns} {ps : List Pk} (h : Rt w L s) (hc : Chg (fun k => (Value.slice L.av L.m L.cv).ownBlock = some k) w w3) {a' : Option Addr} {m' c' : Nat} {l' : List Pv}
    (hown : w3.ownsRow 0 39 3 (.slice a' m' c') m' (pcells l')) (hl : m' = l'.length) (hps : ps = l'.map Pv.pk) (hg : ∀ k, (Value.slice a' m' c').ownBlock = some k → (Value.slice L.av L.m L.cv).ownBlock = some k ∨ w.heap.size ≤ k)
    (hin : ∀ p ∈ l', p.In w3) (hpb : ∀ p ∈ l', ∀ ad, p.a = some ad → (L.R ad.block ∨ w.heap.size ≤ ad.block) ∧ (Value.slice a' m' c').ownBlock ≠ some ad.block) (hok : Ok { s with ps := ps }) :
    RMv w L { s with ps := ps } (w3.setCell ⟨L.N, 1, none⟩ (.slice a' m' c')) := by
  obtain ⟨w4, e4⟩ : ∃ w4, w4 = w3.setCell ⟨L.N, 1, none⟩ (.slice a' m' c') := ⟨_, rfl⟩
  have o4 : ∀ k, k ≠ L.N → w4.heap[k]? = w3.heap[k]? := fun k hk => by rw [e4]; exact Below.heap_setCell _ _ _ _ hk
  have s4 : w4.heap.size = w3.heap.size := by rw [e4]; simp [World.setCell]
  have nv : ∀ k, k < w.heap.size → (Value.slice L.av L.m L.cv).ownBlock ≠ some k → w3.heap[k]? = w.heap[k]? := fun k hk hn => hc.block k hk hn
  have eN := nv L.N h.ltN h.v1
  have c3 : ∀ o, w3.cell? ⟨L.N, o, none⟩ = w.cell? ⟨L.N, o, none⟩ := fun o => World.cell?_of_block (a := ⟨L.N, o, none⟩) eN
  have gN : ∀ k, (Value.slice a' m' c').ownBlock = some k → k ≠ L.N := fun k hk => by
    rcases hg k hk with h1 | h1
    · exact fun e => h.v1 (e ▸ h1)
    · have := h.ltN; omega
  have pN : ∀ p ∈ l', ∀ ad, p.a = some ad → ad.block ≠ L.N := fun p hp ad e => by
    rcases (hpb p hp ad e).1 with h1 | h1
    · exact fun e2 => h.dis L.N (.inl rfl) (e2 ▸ h1)
    · have := h.ltN; omega
  rw [← e4]
  have hch : Chg L.M w w4 := by
    rw [e4]
    exact (hc.mono (fun k _ hk => .inr (.inl hk))).setCell (p := ⟨L.N, 1, none⟩) (.inl (.inl rfl)) _
  have cb : ∀ k, (Value.slice L.ca L.cm L.cc).ownBlock = some k → w4.heap[k]? = w.heap[k]? := fun k hk => (o4 k (fun e => h.v2 (e ▸ hk))).trans (nv k (h.crow.lt k hk).2 (fun e => h.v12 k e hk))
  refine ⟨hch, { L with av := a', m := m', cv := c', l := l' }, ⟨?_, ?_, ?_, fun o => ?_, ?_, row_same h.crow cb, hl, h.clen, hps, fun p hp => (hin p hp).same (by rw [s4]; exact Nat.le_refl _) (fun ad e => o4 _ (pN p hp ad e)), fun e => gN _ e rfl, h.v2, ?_, hok⟩, rfl, fun k hk => ?_, fun k hk => ?_⟩
  · show w4.cell? ⟨L.N, 0, none⟩ = _
    rw [e4, World.cell?_setCell_other _ _ _ _ (by simp), c3]; exact h.c0
  · show w4.cell? ⟨L.N, 1, none⟩ = _
    rw [e4]; exact World.cell?_setCell_same' _ _ _ (by rw [c3, h.c1]; rfl)
  · show w4.cell? ⟨L.N, 2, none⟩ = _
    rw [e4, World.cell?_setCell_other _ _ _ _ (by simp), c3]; exact h.c2
  · show w4.frozen? ⟨L.N, o, none⟩ = _
    rw [e4, World.frozen?_setCell]
    exact (World.frozen?_of_block (a := ⟨L.N, o, none⟩) eN).trans (h.f o)
  · exact row_same hown (fun k hk => o4 k (gN k hk))
  · rintro k hk ⟨p, hp, ad, e, rfl⟩
    have hb := hpb p hp ad e
    rcases hk with hk | hk | hk
    · exact pN p hp ad e hk
    · exact hb.2 hk
    · rcases hb.1 with h1 | h1
      · exact h.dis _ (.inr (.inr hk)) h1
      · have := (h.crow.lt _ hk).2; omega
  · rcases hk with hk | hk | hk
    · exact .inl (.inl hk)
    · exact (hg k hk).imp (fun h => .inr (.inl h)) id
    · exact .inl (.inr (.inr hk))
  · obtain ⟨p, hp, ad, e, rfl⟩ := hk
    exact (hpb p hp ad e).1
end Go.Proofs.Ytbgejpkkocedbaa
