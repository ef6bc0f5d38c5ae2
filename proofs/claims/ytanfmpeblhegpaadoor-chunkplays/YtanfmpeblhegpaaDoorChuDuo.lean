/- The landed box and the document's side by side, and a list of bytes that the law writes over. No condition. -/
import Derived.Test.YtanfmpeblhegpaaDoorChuRefPut
namespace Go.Proofs.YtanfmpeblhegpaaDoor
open Go.ChangeShapes Go.WideShapes Go.ChangeAt Go.RowKit B8 Ck
set_option linter.unusedVariables false

theorem bm_not {w : World} {P : Nat → Prop} {B k T : Nat} {mo : Option Nat} {s : Bx} {cs : Array Value} (h : Bm w P B mo s) (hk : w.heap[k]? = some (.cells cs T (0, 0))) (hT : T ≠ 48) : ¬ BM B mo k := fun hm => by
  rcases hm with rfl | hm
  · rw [h.row] at hk
    simp at hk
    exact hT hk.2.symm
  · obtain ⟨l, hmo, _⟩ := h.ex
    obtain ⟨es, clock, hh⟩ := hmo.isMap k hm
    rw [hh] at hk
    cases hk
theorem row_type {w : World} {B n k T sz : Nat} {v : Value} {xs : List Value} (h : w.ownsRow B T sz v n xs) (hk : v.ownBlock = some k) : ∃ cs, w.heap[k]? = some (.cells cs T (0, 0)) := by
  obtain ⟨_, ⟨e, _⟩ | ⟨g, cp, cur, e, _, hg, _⟩⟩ := h
  · rw [e] at hk; cases hk
  · rw [e] at hk
    have : g = k := by simpa [Value.ownBlock] using hk
    exact ⟨_, this ▸ hg⟩
theorem rb_chg {w w' : World} {B R : Nat} {a : Option Addr} {m c : Nat} {l : List Pv} {M : Nat → Prop} (h : Rb w B R a m c l) (hc : Chg M w w') (hR : ¬ M R) (hrow : ∀ k, (Value.slice a m c).ownBlock = some k → ¬ M k) (hd : ∀ q ∈ l, ∀ k, (Value.slice q.a q.m q.cp).ownBlock = some k → ¬ M k) : Rb w' B R a m c l :=
  ⟨(hc.block R (Array.getElem?_eq_some_iff.1 h.row).1 hR).trans h.row, ⟨row_same h.lw.row (fun k hk => hc.block k (h.lw.row.lt k hk).2 (hrow k hk)), h.lw.len, fun q hq => ⟨row_same (h.lw.each q hq).1 (fun k hk => hc.block k ((h.lw.each q hq).1.lt k hk).2 (hd q hq k hk)), (h.lw.each q hq).2⟩⟩, h.base⟩
/-- both boxes, made since W; neither's bytes lie in a block of G -/
structure Duo (W w : World) (G : Nat → Prop) (B : Nat) (mo : Option Nat) (s : Bx) (R : Nat) (a : Option Addr) (m c : Nat) (l : List Pv) (s2 : Bx) : Prop where
  below : Below W.heap.size W w
  bm : Bm w (fun k => ¬ RM R a m c k ∧ ¬ G k) B mo s
  base : ∀ k, BM B mo k → W.heap.size ≤ k
  rb : Rb w W.heap.size R a m c l
  rl : Rl s2 (l.map Pv.pc)
  dq : ∀ q ∈ l, ∀ k, (Value.slice q.a q.m q.cp).ownBlock = some k → ¬ G k
section
variable {W w w' : World} {G : Nat → Prop} {B R m c : Nat} {mo : Option Nat} {s s2 : Bx} {a : Option Addr} {l : List Pv}
theorem Duo.rmlt (h : Duo W w G B mo s R a m c l s2) : ∀ k, RM R a m c k → k < w.heap.size := fun k hk => by
  rcases hk with rfl | hk
  · exact (Array.getElem?_eq_some_iff.1 h.rb.row).1
  · exact (h.rb.lw.row.lt k hk).2
theorem Duo.rmnot (h : Duo W w G B mo s R a m c l s2) : ∀ k, RM R a m c k → ¬ BM B mo k := fun k hk => by
  rcases hk with rfl | hk
  · exact bm_not h.bm h.rb.row (by decide)
  · obtain ⟨cs, e⟩ := row_type h.rb.lw.row hk
    exact bm_not h.bm e (by decide)
theorem Duo.next (h : Duo W w G B mo s R a m c l s2) (hb : Below w.heap.size w w') : Duo W w' G B mo s R a m c l s2 := ⟨below_step h.below hb, h.bm.below hb, h.base, h.rb.below hb, h.rl, h.dq⟩
theorem Duo.mark (h : Duo W w (fun _ => False) B mo s R a m c l s2) : Duo W w (fun k => k = w.heap.size) B mo s R a m c l s2 :=
  ⟨h.below, h.bm.mono (fun k hk hl => ⟨hk.1, by omega⟩), h.base, h.rb, h.rl, fun q hq k hk e => by have := ((h.rb.lw.each q hq).1.lt k hk).2; omega⟩
theorem Duo.markAt (h : Duo W w (fun _ => False) B mo s R a m c l s2) {g : Nat} (hg : w.heap.size ≤ g) : Duo W w (fun k => k = g) B mo s R a m c l s2 :=
  ⟨h.below, h.bm.mono (fun k hk hl => ⟨hk.1, by omega⟩), h.base, h.rb, h.rl, fun q hq k hk e => by have := ((h.rb.lw.each q hq).1.lt k hk).2; omega⟩
theorem Duo.drop (h : Duo W w G B mo s R a m c l s2) : Duo W w (fun _ => False) B mo s R a m c l s2 := ⟨h.below, h.bm.mono (fun k hk _ => ⟨hk.1, fun x => x⟩), h.base, h.rb, h.rl, fun _ _ _ _ x => x⟩
theorem Duo.put (h : Duo W w G B mo s R a m c l s2) (hG : ∀ k, G k → k < w.heap.size) {p : Pv} (hp : POk w (fun _ => True) p) :
    Calls Tryd.prog 8 #[.pointer (some ⟨B, 0, none⟩), .agg #[.int .i64 p.k, .int .i64 p.of, .int .u32 p.sum, .slice p.a p.m p.cp]] w fun e w' => e = .returned (.int .i64 (putE s p.pc)) ∧ (∃ mo', Duo W w' G B mo' (putS s p.pc) R a m c l s2) ∧ Chg (BM B mo) w w' :=
  (put_any h.bm hp (fun k hk => ⟨fun x => by have := h.rmlt k x; omega, fun x => by have := hG k x; omega⟩)).mono fun e w' ⟨h1, hc, mo', hm, hor⟩ => by
    refine ⟨h1, ⟨mo', h.below.trans (hc.below h.below.size h.base), hm, fun k hk => ?_, rb_chg h.rb hc (h.rmnot R (.inl rfl)) (fun k hk => h.rmnot k (.inr hk)) (fun q hq k hk => ?_), h.rl, h.dq⟩, hc⟩
    · rcases hk with hk | hk
      · exact h.base k (.inl hk)
      · rcases hor k hk with h4 | h4
        · exact h.base k (.inr h4)
        · exact Nat.le_trans h.below.size h4
    · obtain ⟨cs, e⟩ := row_type (h.rb.lw.each q hq).1 hk
      exact bm_not h.bm e (by decide)
theorem Duo.rput (h : Duo W w G B mo s R a m c l s2) (hG : ∀ k, G k → k < w.heap.size) {p : Pv} (hp : POk w (fun _ => True) p) :
    Calls Tryd.prog 9 #[.pointer (some ⟨R, 0, none⟩), .agg #[.int .i64 p.k, .int .i64 p.of, .int .u32 p.sum, .slice p.a p.m p.cp]] w fun e w' => e = .returned (.int .i64 (putE s2 p.pc)) ∧ (∃ a' m' c' l', Duo W w' G B mo s R a' m' c' l' (putS s2 p.pc)) ∧ Chg (RM R a m c) w w' :=
  (rput_any h.rb h.rl hp h.below.size).mono fun e w' ⟨h1, a', m', c', l', hb, hl, hbel, hc, hloc, hnew⟩ => by
    refine ⟨h1, ⟨a', m', c', l', h.below.trans hbel, ?_, h.base, hb, hl, fun q hq k hk hg => ?_⟩, hc⟩
    · have b1 : Bm w (fun k => (¬ RM R a m c k ∧ ¬ G k) ∧ k < w.heap.size) B mo s := h.bm.mono (fun k hk hl => ⟨hk, hl⟩)
      have b2 := b1.chg hc (fun k hk => ⟨h.rmnot k hk, .inl (fun x => x.1.1 hk)⟩)
      refine b2.mono (fun k hk _ => ⟨fun x => ?_, hk.1.2⟩)
      rcases x with x | x
      · exact hk.1.1 (.inl x)
      · rcases hloc k x with y | y
        · exact hk.1.1 (.inr y)
        · omega
    · rcases hnew q hq with y | y
      · exact h.dq q y k hk hg
      · have := y k hk
        have := hG k hg
        omega
theorem Duo.write (h : Duo W w G B mo s R a m c l s2) (hc : Chg G w w') (hg : ∀ k, G k → W.heap.size ≤ k ∧ ∃ cs, w.heap[k]? = some (.cells cs 5 (0, 0))) : Duo W w' G B mo s R a m c l s2 := by
  have nb : ∀ k, G k → ¬ BM B mo k := fun k hk => by
    obtain ⟨_, cs, e⟩ := hg k hk
    exact bm_not h.bm e (by decide)
  refine ⟨h.below.trans (hc.below h.below.size (fun k hk => (hg k hk).1)), h.bm.chg hc (fun k hk => ⟨nb k hk, .inl (fun x => x.2 hk)⟩), h.base, rb_chg h.rb hc (fun x => ?_) (fun k hk x => ?_) h.dq, h.rl, h.dq⟩
  · obtain ⟨_, cs, e⟩ := hg R x
    rw [h.rb.row] at e
    simp at e
  · obtain ⟨_, cs, e⟩ := hg k x
    obtain ⟨cs2, e2⟩ := row_type h.rb.lw.row hk
    rw [e2] at e
    simp at e
end
end Go.Proofs.YtanfmpeblhegpaaDoor
