/- A loop over a sequence that gathers what it is told into a list in a box. No condition. -/
import Derived.Test.YthfjndlmihepbaaSeqMem
import Derived.Test.YthfjndlmihepbaaChgMem
import Derived.Test.YthfjndlmihepbaaHeld
import Derived.Test.YthfjndlmihepbaaAppendWide
import Derived.OwnWalkIn
import Derived.RangeFuncBox
namespace Go.Proofs.Ythfjndlmihepbaa
open Go.ChangeShapes Go.WideShapes Go.ChangeAt Go.RowKit
set_option linter.unusedVariables false

/-- what the rounds may write: the box, and the row of the list in it -/
def Ub (bx : Nat) (W : World) (b : Nat) : Prop := b = bx ∨ ∃ v, W.cell? ⟨bx, 0, none⟩ = some v ∧ v.ownBlock = some b
/-- k things were gathered, their cells are xs; of the blocks of w1 none has turned but the box -/
structure Gt (w1 : World) (bx : Nat) (TS TE : TypeId) (sz : Nat) (xs : List Value) (k : Nat) (W : World) : Prop where
  chg : Chg (fun b => b = bx) w1 W
  ex : ∃ a c, Boxed W bx TS (.slice a k c) ∧ W.ownsRow w1.heap.size TE sz (.slice a k c) k xs
theorem own_cells {W : World} {N T sz n : Nat} {v : Value} {xs : List Value} (h : W.ownsRow N T sz v n xs) {k : Nat} (hk : v.ownBlock = some k) : ∃ cs, W.heap[k]? = some (.cells cs T (0, 0)) := by
  obtain ⟨_, ⟨rfl, _⟩ | ⟨g, cp, cur, rfl, _, h3, _⟩⟩ := h
  · simp [Value.ownBlock] at hk
  · simp [Value.ownBlock] at hk
    subst hk
    exact ⟨cur, h3⟩
theorem ub_same {bx : Nat} {W W' : World} (h : W'.heap[bx]? = W.heap[bx]?) : ∀ b, Ub bx W' b → Ub bx W b := fun b hb => by
  rcases hb with rfl | ⟨v, h1, h2⟩
  · exact .inl rfl
  · exact .inr ⟨v, by rw [← h1]; exact (World.cell?_of_block (a := ⟨bx, 0, none⟩) h).symm, h2⟩
section
variable {w1 W W' : World} {bx TS TE sz k : Nat} {xs : List Value}
theorem gt_stab (hb : bx < w1.heap.size) : Stab (Ub bx) w1.heap.size (Gt w1 bx TS TE sz xs k) := by
  constructor
  · rintro W W' ⟨hc, a, c, h1, h2⟩ hs
    refine ⟨⟨hs.os.trans hc.os, hs.tape.trans hc.tape, hs.output.trans hc.output, Nat.le_trans hc.size hs.size, fun j hj hn => (hs.at hj (Nat.lt_of_lt_of_le hj hc.size)).trans (hc.block j hj hn)⟩, a, c, hs.same _ _ h1 (.inl hb), row_same h2 (fun j hj => ?_)⟩
    obtain ⟨cs, h3⟩ := own_cells h2 hj
    rw [h3]
    exact hs.same _ _ h3 (.inr (.inr ⟨_, h1.cell, hj⟩))
  · rintro W W' ⟨hc, a, c, h1, h2⟩ hs
    exact ub_same (hs.at hb h1.lt)
theorem gt_new (hb : Boxed w1 bx TS (.slice none 0 0)) : Gt w1 bx TS TE sz [] 0 w1 := ⟨Chg.refl _ _, none, 0, hb, ⟨by simp, .inl ⟨rfl, rfl⟩⟩⟩
/-- one more is gathered -/
theorem gt_add {a : Option Addr} {c k' g cp : Nat} {ys : List Value} {tmp : Obj} (ht : TS ≠ TE) (hc : Chg (fun b => b = bx) w1 W) (hbx : bx < w1.heap.size) (h1 : Boxed W bx TS (.slice a k c)) (h2 : W.ownsRow w1.heap.size TE sz (.slice a k c) k xs)
    {w4 : World} (hown : w4.ownsRow w1.heap.size TE sz (.slice (some ⟨g, 0, none⟩) k' cp) k' ys) (hgrow : (W.alloc tmp).grownBy w4 (Value.slice a k c).ownBlock) (wh : (Value.slice a k c).ownBlock = some g ∨ g = (W.alloc tmp).heap.size) :
    Boxed w4 bx TS (.slice a k c) ∧ Gt w1 bx TS TE sz ys k' (w4.setCell ⟨bx, 0, none⟩ (.slice (some ⟨g, 0, none⟩) k' cp)) ∧ KeepU (Ub bx) W (w4.setCell ⟨bx, 0, none⟩ (.slice (some ⟨g, 0, none⟩) k' cp)) ∧ KeepsOthers W (w4.setCell ⟨bx, 0, none⟩ (.slice (some ⟨g, 0, none⟩) k' cp)) := by
  have hv1 : Boxed w4 bx TS (.slice a k c) := (h1.alloc tmp).kept hgrow (h1.not_row ht h2)
  have nb : ∀ j, (Value.slice (some ⟨g, 0, none⟩) k' cp).ownBlock = some j → j ≠ bx := fun j hj e => hv1.not_row ht hown (by rw [hj, e])
  have oth : ∀ (j : Nat), j < W.heap.size → j ≠ bx → (Value.slice a k c).ownBlock ≠ some j → (w4.setCell ⟨bx, 0, none⟩ (.slice (some ⟨g, 0, none⟩) k' cp)).heap[j]? = W.heap[j]? := fun j hj n1 n2 =>
    (Below.heap_setCell _ _ _ _ n1).trans ((hgrow.block j (by rw [World.size_alloc]; omega) (fun e => n2 e.symm)).trans (Below.heap_alloc _ _ _ hj))
  have sz1 : W.heap.size ≤ (w4.setCell ⟨bx, 0, none⟩ (.slice (some ⟨g, 0, none⟩) k' cp)).heap.size := by
    have := hgrow.size
    rw [World.size_alloc] at this
    simp [World.setCell]
    omega
  refine ⟨hv1, ⟨⟨?_, ?_, ?_, Nat.le_trans hc.size sz1, fun j hj hn => ?_⟩, _, _, hv1.set _, row_same hown (fun j hj => Below.heap_setCell _ _ _ _ (nb j hj))⟩, ⟨sz1, fun b o hb hcl hn => ?_, fun b hb => ?_⟩, ⟨sz1, fun j o hj ho => ?_⟩⟩
  · exact (show w4.os = W.os from hgrow.os).trans hc.os
  · exact (show w4.tape = W.tape from hgrow.tape).trans hc.tape
  · exact (show w4.output = W.output from hgrow.output).trans hc.output
  · exact (oth j (Nat.lt_of_lt_of_le hj hc.size) hn (fun e => by have := (h2.lt j e).1; omega)).trans (hc.block j hj hn)
  · exact (oth b (Array.getElem?_eq_some_iff.1 hb).1 (fun e => hn (.inl e)) (fun e => hn (.inr ⟨_, h1.cell, e⟩))).trans hb
  · rcases hb with rfl | ⟨v, e1, e2⟩
    · exact .inl (.inl rfl)
    · rw [(hv1.set _).cell] at e1
      cases e1
      obtain rfl : g = b := by simpa [Value.ownBlock] using e2
      rcases wh with e | e
      · exact .inl (.inr ⟨_, h1.cell, e⟩)
      · rw [World.size_alloc] at e
        exact .inr (by omega)
  · refine (oth j (Array.getElem?_eq_some_iff.1 hj).1 (fun e => ?_) (fun e => ?_)).trans hj
    · rw [e, show W.heap[bx]? = _ from h1] at hj
      cases hj
      cases ho
    · obtain ⟨cs, h3⟩ := own_cells h2 e
      rw [h3] at hj
      cases hj
      cases ho
end
theorem wpListIn_append_where {F : Fence} {n : Nat} {P : Program} (w : World) {ops : Array Oper} {rest : List Oper} {o : Oper} {a : Act} {Q : Exit → Act → World → Prop}
    (hg : o.guard = none) (s x : Operand) (t : TypeId) (hop : o.op = Op.call { callee := Callee.builtin Builtin.append, args := #[s, x], argTypes := #[t, t] })
    (base : Nat) (e : TypeId) (i : TypeInfo) (z : Value) (size bytes : Nat) (h1 : P.underlying t = some (.slice e)) (h2 : P.info? e = some i) (h3 : i.zero = some z) (h4 : i.size = size) (h5 : i.bytes = bytes) (h6 : z.cells.size = size) (h7 : 0 < size)
    (a0 : Option Addr) (k c0 : Nat) (xs : List Value) (hs : a.eval s = .slice a0 k c0) (hown : w.ownsRow base e size (.slice a0 k c0) k xs) (ad : Addr) (m c : Nat) (news : List Value) (hx : a.eval x = .slice (some ad) m c) (hn : news.length = m * size)
    (hc : ∀ j u, news[j]? = some u → w.cell? (ad.add j) = some u) (h1c : ∀ u ∈ news, u.oneCell' = true) (hm : 0 < m) (b1 : k + m ≤ maxLen) (b2 : ((k + m) + (k + m) / 4 + 192) * bytes ≤ 281474976710656) (b3 : base ≤ w.heap.size)
    (hK : ∀ g cp w', w'.ownsRow base e size (.slice (some ⟨g, 0, none⟩) (k + m) cp) (k + m) (xs ++ news) → w.grownBy w' (Value.slice a0 k c0).ownBlock → ((Value.slice a0 k c0).ownBlock = some g ∨ g = w.heap.size) → wpListIn F n P ops Q rest (a.put o.dst (.slice (some ⟨g, 0, none⟩) (k + m) cp)) w') :
    wpListIn F n P ops Q (o :: rest) a w := by
  refine wpListIn_plain hg fun K hK' => ?_
  obtain ⟨g, cp, w', hrun, r1, r2, r3⟩ := run_append_where (P := P) w base t o.type e i z size bytes h1 h2 h3 h4 h5 h6 h7 a0 k c0 xs hown ad m c news hn hc h1c hm b1 b2 b3
  unfold Oper.wpIn
  refine ⟨?_, ?_⟩
  · simp [Oper.about, hop, resolve, Target.leads, Sem.run_pure]
  · rw [Oper.semAt_plain F _ _ (by rw [hop]; intro c hc'; cases hc')]
    simp [execOp, hop, resolve, invoke, builtin, hs, hx, hrun, Result.andThen]
    exact hK' _ _ (hK g cp w' r1 r2 r3)
theorem results_cells {P : Program} {fn : Func} {p q r s : Tmp} {t u x y : TypeId} (h : fn.results = #[.cell p t, .cell q u, .cell r x, .cell s y]) (tmps : Array Value) (w : World) (a b c d : Nat) (v1 v2 v3 v4 : Value)
    (hp : tmps.getD p undef = .pointer (some ⟨a, 0, none⟩)) (hq : tmps.getD q undef = .pointer (some ⟨b, 0, none⟩)) (hr : tmps.getD r undef = .pointer (some ⟨c, 0, none⟩)) (hs : tmps.getD s undef = .pointer (some ⟨d, 0, none⟩))
    (h1 : (loadVar t ⟨a, 0, none⟩).run P w = .ok v1 w) (h2 : (loadVar u ⟨b, 0, none⟩).run P w = .ok v2 w) (h3 : (loadVar x ⟨c, 0, none⟩).run P w = .ok v3 w) (h4 : (loadVar y ⟨d, 0, none⟩).run P w = .ok v4 w) :
    (results fn tmps).run P w = .ok (.tuple #[v1, v2, v3, v4]) w := by
  have hp' : tmps[p]?.getD undef = .pointer (some ⟨a, 0, none⟩) := by simpa using hp
  have hq' : tmps[q]?.getD undef = .pointer (some ⟨b, 0, none⟩) := by simpa using hq
  have hr' : tmps[r]?.getD undef = .pointer (some ⟨c, 0, none⟩) := by simpa using hr
  have hs' : tmps[s]?.getD undef = .pointer (some ⟨d, 0, none⟩) := by simpa using hs
  simp [results, h, hp', hq', hr', hs', asAddr, h1, h2, h3, h4]
theorem below_put {N D : Nat} {W W' : World} (h : Below N W W') (hD : N ≤ D) (o : Obj) : Below N W (W'.putObj D o) :=
  ⟨h.os, h.tape, h.output, Nat.le_trans h.size (by rw [World.putObj_size]; exact Nat.le_refl _), fun k hk => (World.putObj_heap_other (by omega)).trans (h.block k hk)⟩
theorem box_put {W : World} {B D : Nat} {t : TypeId} {v : Value} (h : Boxed W B t v) (hD : B ≠ D) (o : Obj) : Boxed (W.putObj D o) B t v := (World.putObj_heap_other hD).trans h
theorem row_put {W : World} {N T sz n D : Nat} {v : Value} {xs : List Value} {o : Obj} (h : W.ownsRow N T sz v n xs) (hd : W.heap[D]? = some o) (ho : o.isCells = false) (o' : Obj) : (W.putObj D o').ownsRow N T sz v n xs :=
  row_same h (fun k hk => World.putObj_heap_other (fun e => by
    obtain ⟨cs, h3⟩ := own_cells h hk
    rw [e, hd] at h3
    cases h3
    cases ho))
theorem row_cell {W : World} {N T sz n b : Nat} {t : TypeId} {v v0 u : Value} {xs : List Value} (h : W.ownsRow N T sz v n xs) (hb : Boxed W b t v0) (ht : t ≠ T) : (W.setCell ⟨b, 0, none⟩ u).ownsRow N T sz v n xs :=
  row_same h (fun k hk => Below.heap_setCell _ _ _ _ (fun e => hb.not_row ht h (by rw [hk]; exact congrArg some e.symm)))
theorem set_id {w : World} {b : Nat} {t : TypeId} {v : Value} (h : Boxed w b t v) : w.setCell ⟨b, 0, none⟩ v = w := by
  have hl := h.lt
  have e : w.heap[b] = .cells #[v] t (0, 0) := (Array.getElem?_eq_some_iff.1 h).2
  have hh : (w.setCell ⟨b, 0, none⟩ v).heap = w.heap := by
    apply Array.ext
    · simp [World.setCell]
    · intro i h1 h2
      by_cases hi : i = b
      · subst hi
        have := (Array.getElem?_eq_some_iff.1 (h.set v)).2
        rw [this, e]
      · have := Below.heap_setCell w ⟨b, 0, none⟩ v i hi
        rw [Array.getElem?_eq_getElem h1, Array.getElem?_eq_getElem h2] at this
        exact Option.some.inj this
  cases w
  simp only [World.setCell] at hh ⊢
  rw [hh]
/-- a statement that never ends otherwise than by going on -/
theorem wp_nopanic {P : Program} {s : Code} {K : Act → World → Prop} {Q' : Exit → Act → World → Prop} {a : Act} {w : World} (h : s.wp P (Exit.then K (fun _ _ _ => False)) a w) : s.wp P (Exit.then K Q') a w := by
  refine wp_mono h ?_
  intro e a' w' hq
  cases e with
  | normal => exact hq
  | exit id => exact hq.elim
  | goto l => exact hq.elim
  | ret => exact hq.elim
  | panic ch => exact hq.elim
  | outgrown => exact hq.elim
theorem run_loadVar_box {P : Program} {w : World} {B : Nat} {t : TypeId} {v : Value} (h : Boxed w B t v) {ty : TypeId} {d : TypeDesc} (hu : P.underlying ty = some d) (hd : (match d with | .struct _ | .array _ _ => false | _ => true) = true) : (loadVar ty ⟨B, 0, none⟩).run P w = .ok v w := by
  have hc := h.cell
  cases d <;> simp at hd <;> simp [loadVar, isAgg, run_underlying hu, hc]
end Go.Proofs.Ythfjndlmihepbaa
