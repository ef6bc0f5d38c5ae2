/- A log of pairs and a log of lists of bytes in one heap: each call on the one leaves the other. No condition. -/
import Derived.Test.YtpaciknmmceehaaSlotsKindMath
import Derived.Test.YtpaciknmmceehaaSlotsNextP
import Derived.Test.YtpaciknmmceehaaSlotsNextB
import Derived.Laws.IdiomStrings
namespace Go.Proofs.Ytpaciknmmceehaa
open Go.ChangeShapes Go.WideShapes Go.ChangeAt Go.RowKit Sx
set_option linter.unusedVariables false
namespace Kd
/-- the slice y has the bytes of v -/
def By (w : World) (y : Option Addr × Nat × Nat) (v : ByteArray) : Prop := ∃ g cp C fr, y = (some ⟨g, 0, none⟩, v.size, cp) ∧ w.heap[g]? = some (.cells C 5 fr) ∧ ∀ (j : Nat) (hj : j < v.data.toList.length), C[j]? = some (.int .u8 (v.data.toList[j].toNat : Int))
theorem By.same {w w' : World} {y : Option Addr × Nat × Nat} {v : ByteArray} (h : By w y v) (hk : ∀ (k : Nat) (C : Array Value) (fr : Nat × Nat), w.heap[k]? = some (.cells C 5 fr) → w'.heap[k]? = some (.cells C 5 fr)) : By w' y v := by
  obtain ⟨g, cp, C, fr, e, h1, h2⟩ := h
  exact ⟨g, cp, C, fr, e, hk g C fr h1, h2⟩
theorem add_plain (g j : Nat) : (⟨g, 0, none⟩ : Addr).add j = ⟨g, j, none⟩ := by unfold Addr.add; split <;> simp_all
theorem By.read {w : World} {y : Option Addr × Nat × Nat} {v : ByteArray} (h : By w y v) : (convert 29 9 (.slice y.1 y.2.1 y.2.2)).run Try.prog w = .ok (.string v) w := by
  obtain ⟨g, cp, C, fr, rfl, h1, h2⟩ := h
  have hl : v.size = v.data.toList.length := by rw [Array.length_toList]; rfl
  have := run_convert_bytes_back (P := Try.prog) w 29 9 5 ⟨g, 0, none⟩ cp v.data.toList Try.underlying29 Try.underlying5 Try.underlying9 (fun j hj => by
    rw [add_plain]
    simp only [World.cell?, h1]
    exact h2 j hj)
  simp only
  rw [hl, this]
section
variable {w w' wr : World} {P R : Nat} {L : Lay} {K : Lay} {s s2 : Ss (ByteArray × Int)} {t t2 : Ss (Option Addr × Nat × Nat)}
theorem p_tag (h : Lp.Lg w P L s) {k : Nat} (hk : L.M P k) : ∃ cs ty, w.heap[k]? = some (.cells cs ty (0, 0)) ∧ (ty = 45 ∨ ty = 56) := by
  rcases hk with rfl | hk
  · exact ⟨_, _, h.hd, .inl rfl⟩
  · obtain ⟨cs, h1, _⟩ := h.own hk
    exact ⟨cs, _, h1, .inr rfl⟩
theorem b_tag (h : Lb.Lg w R K t) {k : Nat} (hk : K.M R k) : ∃ cs ty, w.heap[k]? = some (.cells cs ty (0, 0)) ∧ (ty = 48 ∨ ty = 59) := by
  rcases hk with rfl | hk
  · exact ⟨_, _, h.hd, .inl rfl⟩
  · obtain ⟨cs, h1, _⟩ := h.own hk
    exact ⟨cs, _, h1, .inr rfl⟩
/-- a block of another type stands -/
theorem p_keep (h : Lp.Lg w P L s) (hc : Chg (L.M P) w w') {k : Nat} {cs : Array Value} {ty : TypeId} {fr : Nat × Nat} (hk : w.heap[k]? = some (.cells cs ty fr)) (n1 : ty ≠ 45) (n2 : ty ≠ 56) : w'.heap[k]? = some (.cells cs ty fr) :=
  (hc.block k (Array.getElem?_eq_some_iff.1 hk).1 (fun hm => by
    obtain ⟨cs', t', f1, f2⟩ := p_tag h hm
    rw [hk] at f1
    simp at f1
    obtain ⟨-, rfl, -⟩ := f1
    rcases f2 with f2 | f2
    · exact n1 f2
    · exact n2 f2)).trans hk
theorem b_keep (h : Lb.Lg w R K t) (hc : Chg (K.M R) w w') {k : Nat} {cs : Array Value} {ty : TypeId} {fr : Nat × Nat} (hk : w.heap[k]? = some (.cells cs ty fr)) (n1 : ty ≠ 48) (n2 : ty ≠ 59) : w'.heap[k]? = some (.cells cs ty fr) :=
  (hc.block k (Array.getElem?_eq_some_iff.1 hk).1 (fun hm => by
    obtain ⟨cs', t', f1, f2⟩ := b_tag h hm
    rw [hk] at f1
    simp at f1
    obtain ⟨-, rfl, -⟩ := f1
    rcases f2 with f2 | f2
    · exact n1 f2
    · exact n2 f2)).trans hk
theorem b_far (h : Lp.Lg w P L s) (g : Lb.Lg w R K t) (hc : Chg (L.M P) w w') : Lb.Lg w' R K t := g.same (fun k hk => by
  obtain ⟨cs, ty, e1, e2⟩ := b_tag g hk
  rw [e1]
  exact p_keep h hc e1 (by rcases e2 with rfl | rfl <;> decide) (by rcases e2 with rfl | rfl <;> decide)) (fun k hk => by
  obtain ⟨x, hx⟩ := g.val hk
  rw [hx]
  exact p_keep h hc hx (by decide) (by decide))
theorem p_far (h : Lp.Lg w P L s) (g : Lb.Lg w R K t) (hc : Chg (K.M R) w w') : Lp.Lg w' P L s := h.same (fun k hk => by
  obtain ⟨cs, ty, e1, e2⟩ := p_tag h hk
  rw [e1]
  exact b_keep g hc e1 (by rcases e2 with rfl | rfl <;> decide) (by rcases e2 with rfl | rfl <;> decide)) (fun k hk => by
  obtain ⟨x, hx⟩ := h.val hk
  rw [hx]
  exact b_keep g hc hx (by decide) (by decide))
/-- both logs, filled alike, and nothing old has turned -/
structure Two (w wr : World) (P R : Nat) (s : Ss (ByteArray × Int)) (t : Ss (Option Addr × Nat × Nat)) : Prop where
  old : Below w.heap.size w wr
  a : ∃ L, Lp.Lg wr P L s ∧ ∀ j, L.M P j → w.heap.size ≤ j
  b : ∃ K, Lb.Lg wr R K t ∧ ∀ j, K.M R j → w.heap.size ≤ j
/-- the things in them belong together -/
def Rb (wr : World) (x : ByteArray × Int) (y : Option Addr × Nat × Nat) : Prop := By wr y x.1
theorem Two.below (h : Two w wr P R s t) (hb : Below wr.heap.size wr w') : Two w w' P R s t := by
  obtain ⟨h1, ⟨L, h2, h3⟩, K, h4, h5⟩ := h
  exact ⟨below_step h1 hb, ⟨L, h2.below hb, h3⟩, K, h4.below hb, h5⟩
theorem by_below {y : Option Addr × Nat × Nat} {v : ByteArray} (h : By wr y v) (hb : Below wr.heap.size wr w') : By w' y v := h.same (fun k C fr hk => (hb.block k (Array.getElem?_eq_some_iff.1 hk).1).trans hk)
theorem a2_below {l : List (Option (ByteArray × Int))} {m : List (Option (Option Addr × Nat × Nat))} (h : A2 (Rb wr) l m) (hb : Below wr.heap.size wr w') : A2 (Rb w') l m := h.mono (fun x y _ hx => by_below hx hb)
/-- a call on the log of pairs -/
theorem Two.callA (h : Two w wr P R s t) : ∃ L, Lp.Lg wr P L s ∧ ∀ {s4 : Ss (ByteArray × Int)} {w4 : World}, Lp.LMv wr P L s4 w4 → Two w w4 P R s4 t ∧ (∀ {y : Option Addr × Nat × Nat} {v : ByteArray}, By wr y v → By w4 y v) ∧ ∀ {k : Nat} {cs : Array Value}, wr.heap[k]? = some (.cells cs 32 (0, 0)) → w4.heap[k]? = some (.cells cs 32 (0, 0)) := by
  obtain ⟨h1, ⟨L, h2, h3⟩, K, h4, h5⟩ := h
  refine ⟨L, h2, fun {s4 w4} ⟨hc, L4, g4, m4⟩ => ⟨⟨h1.trans (hc.below h1.size h3), ⟨L4, g4, fun j hj => ?_⟩, K, b_far h2 h4 hc, h5⟩, fun {y v} hy => hy.same (fun k C fr hk => p_keep h2 hc hk (by decide) (by decide)), fun {k cs} hk => p_keep h2 hc hk (by decide) (by decide)⟩⟩
  rcases m4 j hj with h | h
  · exact h3 j h
  · exact Nat.le_trans h1.size h
theorem Two.callB (h : Two w wr P R s t) : ∃ K, Lb.Lg wr R K t ∧ ∀ {t4 : Ss (Option Addr × Nat × Nat)} {w4 : World}, Lb.LMv wr R K t4 w4 → Two w w4 P R s t4 ∧ (∀ {y : Option Addr × Nat × Nat} {v : ByteArray}, By wr y v → By w4 y v) ∧ ∀ {k : Nat} {cs : Array Value}, wr.heap[k]? = some (.cells cs 32 (0, 0)) → w4.heap[k]? = some (.cells cs 32 (0, 0)) := by
  obtain ⟨h1, ⟨L, h2, h3⟩, K, h4, h5⟩ := h
  refine ⟨K, h4, fun {t4 w4} ⟨hc, L4, g4, m4⟩ => ⟨⟨h1.trans (hc.below h1.size h5), ⟨L, p_far h2 h4 hc, h3⟩, L4, g4, fun j hj => ?_⟩, fun {y v} hy => hy.same (fun k C fr hk => b_keep h4 hc hk (by decide) (by decide)), fun {k cs} hk => b_keep h4 hc hk (by decide) (by decide)⟩⟩
  rcases m4 j hj with h | h
  · exact h5 j h
  · exact Nat.le_trans h1.size h
end
end Kd
end Go.Proofs.Ytpaciknmmceehaa
