/- Two things by value that have the same plain fields. No condition. -/
import Derived.Test.YtfdejkfbjmkngabWireTop
import Derived.Test.YtfdejkfbjmkngabCodecAt
namespace Go.Proofs.Ytfdejkfbjmkngab
open Go.ChangeShapes Go.WideShapes Go.ChangeAt Go.RowKit B8 Cm Wm
set_option linter.unusedVariables false

theorem strB_inj {s t : ByteArray} (h : strB s = strB t) : s = t := by
  unfold strB at h
  have : s.data.toList = t.data.toList := by
    apply List.ext_getElem?
    intro j
    have := congrArg (fun l => l[j]?) h
    simp only [List.getElem?_map] at this
    cases h1 : s.data.toList[j]? with
    | none => rw [h1] at this; cases h2 : t.data.toList[j]? with
      | none => rfl
      | some y => rw [h2] at this; cases this
    | some x => rw [h1] at this; cases h2 : t.data.toList[j]? with
      | none => rw [h2] at this; cases this
      | some y =>
        rw [h2] at this
        simp at this
        have e : x = y := UInt8.toNat_inj.1 (by omega)
        rw [e]
  cases s with
  | mk a => cases t with
    | mk b => simp at this; rw [this]

section
variable {w : World} {P P' : Nat → Prop} {cs cs' : Array Value} {xs : List Atom} {ks : List Nat}
theorem vals_at (h : Vals w P cs xs) (hk : xs.map Atom.k = ks) {j k : Nat} (hj : ks[j]? = some k) : ∃ x v, xs[j]? = some x ∧ x.k = k ∧ cs[j]? = some v ∧ AtomV w P v x := by
  rw [← hk, List.getElem?_map, Option.map_eq_some_iff] at hj
  obtain ⟨x, h1, h2⟩ := hj
  obtain ⟨v, h3, h4⟩ := h.2 j x h1
  exact ⟨x, v, h1, h2, h3, h4⟩
theorem pair_int (h : Vals w P cs xs) (h' : Vals w P' cs' xs) (hk : xs.map Atom.k = ks) (j : Nat) (hj : ks[j]? = some 0) : ∃ z : Int, cs[j]? = some (.int .i64 z) ∧ cs'[j]? = some (.int .i64 z) := by
  obtain ⟨x, v, e1, e2, e3, e4⟩ := vals_at h hk hj
  obtain ⟨v', e5, e6⟩ := h'.2 j x e1
  have o1 : v = .int .i64 x.z := by
    rcases e4 with g | g | g | g | g
    · exact g.2.1
    all_goals exact absurd e2 (by have := g.1; omega)
  have o2 : v' = .int .i64 x.z := by
    rcases e6 with g | g | g | g | g
    · exact g.2.1
    all_goals exact absurd e2 (by have := g.1; omega)
  exact ⟨x.z, by rw [e3, o1], by rw [e5, o2]⟩
theorem pair_u32 (h : Vals w P cs xs) (h' : Vals w P' cs' xs) (hk : xs.map Atom.k = ks) (j : Nat) (hj : ks[j]? = some 1) : ∃ z : Int, cs[j]? = some (.int .u32 z) ∧ cs'[j]? = some (.int .u32 z) := by
  obtain ⟨x, v, e1, e2, e3, e4⟩ := vals_at h hk hj
  obtain ⟨v', e5, e6⟩ := h'.2 j x e1
  have o1 : v = .int .u32 x.z := by
    rcases e4 with g | g | g | g | g
    · exact absurd e2 (by have := g.1; omega)
    · exact g.2.1
    all_goals exact absurd e2 (by have := g.1; omega)
  have o2 : v' = .int .u32 x.z := by
    rcases e6 with g | g | g | g | g
    · exact absurd e2 (by have := g.1; omega)
    · exact g.2.1
    all_goals exact absurd e2 (by have := g.1; omega)
  exact ⟨x.z, by rw [e3, o1], by rw [e5, o2]⟩
theorem pair_bool (h : Vals w P cs xs) (h' : Vals w P' cs' xs) (hk : xs.map Atom.k = ks) (j : Nat) (hj : ks[j]? = some 2) : ∃ b : Bool, cs[j]? = some (.bool b) ∧ cs'[j]? = some (.bool b) := by
  obtain ⟨x, v, e1, e2, e3, e4⟩ := vals_at h hk hj
  obtain ⟨v', e5, e6⟩ := h'.2 j x e1
  have o1 : v = .bool (decide (x.z = 1)) := by
    rcases e4 with g | g | g | g | g
    · exact absurd e2 (by have := g.1; omega)
    · exact absurd e2 (by have := g.1; omega)
    · rcases g.2 with ⟨g1, g2⟩ | ⟨g1, g2⟩ <;> rw [g1, g2] <;> rfl
    · exact absurd e2 (by have := g.1; omega)
    · exact absurd e2 (by have := g.1; omega)
  have o2 : v' = .bool (decide (x.z = 1)) := by
    rcases e6 with g | g | g | g | g
    · exact absurd e2 (by have := g.1; omega)
    · exact absurd e2 (by have := g.1; omega)
    · rcases g.2 with ⟨g1, g2⟩ | ⟨g1, g2⟩ <;> rw [g1, g2] <;> rfl
    · exact absurd e2 (by have := g.1; omega)
    · exact absurd e2 (by have := g.1; omega)
  exact ⟨_, by rw [e3, o1], by rw [e5, o2]⟩
theorem pair_str (h : Vals w P cs xs) (h' : Vals w P' cs' xs) (hk : xs.map Atom.k = ks) (j : Nat) (hj : ks[j]? = some 3) : ∃ s : ByteArray, cs[j]? = some (.string s) ∧ cs'[j]? = some (.string s) := by
  obtain ⟨x, v, e1, e2, e3, e4⟩ := vals_at h hk hj
  obtain ⟨v', e5, e6⟩ := h'.2 j x e1
  obtain ⟨s, o1, p1⟩ : ∃ s, v = .string s ∧ x.bs = strB s := by
    rcases e4 with g | g | g | g | g
    · exact absurd e2 (by have := g.1; omega)
    · exact absurd e2 (by have := g.1; omega)
    · exact absurd e2 (by have := g.1; omega)
    · obtain ⟨_, s, g1, g2, _⟩ := g; exact ⟨s, g1, g2⟩
    · exact absurd e2 (by have := g.1; omega)
  obtain ⟨s', o2, p2⟩ : ∃ s, v' = .string s ∧ x.bs = strB s := by
    rcases e6 with g | g | g | g | g
    · exact absurd e2 (by have := g.1; omega)
    · exact absurd e2 (by have := g.1; omega)
    · exact absurd e2 (by have := g.1; omega)
    · obtain ⟨_, s, g1, g2, _⟩ := g; exact ⟨s, g1, g2⟩
    · exact absurd e2 (by have := g.1; omega)
  obtain rfl := strB_inj (p1.symm.trans p2)
  exact ⟨s, by rw [e3, o1], by rw [e5, o2]⟩
theorem pair_bytes (h : Vals w P cs xs) (h' : Vals w P' cs' xs) (hk : xs.map Atom.k = ks) (j : Nat) (hj : ks[j]? = some 4) : ∃ a n cp a' cp' bs, cs[j]? = some (.slice a n cp) ∧ cs'[j]? = some (.slice a' n cp') ∧ Sq w a n cp bs ∧ Sq w a' n cp' bs ∧ n ≤ 140737488351232 := by
  obtain ⟨x, v, e1, e2, e3, e4⟩ := vals_at h hk hj
  obtain ⟨v', e5, e6⟩ := h'.2 j x e1
  obtain ⟨a, n, cp, o1, q1, l1⟩ : ∃ a n cp, v = .slice a n cp ∧ Sq w a n cp x.bs ∧ n ≤ 140737488351232 := by
    rcases e4 with g | g | g | g | g
    · exact absurd e2 (by have := g.1; omega)
    · exact absurd e2 (by have := g.1; omega)
    · exact absurd e2 (by have := g.1; omega)
    · exact absurd e2 (by have := g.1; omega)
    · obtain ⟨_, a, n, cp, g1, g2, g3, _⟩ := g; exact ⟨a, n, cp, g1, g2, g3⟩
  obtain ⟨a', n', cp', o2, q2, l2⟩ : ∃ a n cp, v' = .slice a n cp ∧ Sq w a n cp x.bs ∧ n ≤ 140737488351232 := by
    rcases e6 with g | g | g | g | g
    · exact absurd e2 (by have := g.1; omega)
    · exact absurd e2 (by have := g.1; omega)
    · exact absurd e2 (by have := g.1; omega)
    · exact absurd e2 (by have := g.1; omega)
    · obtain ⟨_, a, n, cp, g1, g2, g3, _⟩ := g; exact ⟨a, n, cp, g1, g2, g3⟩
  obtain rfl : n = n' := by rw [← q1.length, ← q2.length]
  exact ⟨a, n, cp, a', cp', x.bs, by rw [e3, o1], by rw [e5, o2], q1, q2, l1⟩
end
/-- two things boxed one behind the other -/
theorem box2_fst (w : World) (cs cs' : Array Value) (t : TypeId) (j : Nat) {v : Value} (h : cs[j]? = some v) : ((w.alloc (.cells cs t)).alloc (.cells cs' t)).cell? ⟨w.heap.size, j, none⟩ = some v := by
  rw [cell_of_row _ _ _ _ _ _ (heap_alloc2_old w _ _)]; exact h
theorem box2_snd (w : World) (cs cs' : Array Value) (t : TypeId) (j : Nat) {v : Value} (h : cs'[j]? = some v) : ((w.alloc (.cells cs t)).alloc (.cells cs' t)).cell? ⟨w.heap.size + 1, j, none⟩ = some v := by
  rw [cell_of_row _ _ _ _ _ _ (heap_alloc2_new w _ _)]; exact h
/-- a row laid into a result of the call's own -/
theorem lay_row {w u : World} {Z cs : Array Value} {T : TypeId} {xs : List Atom} (hu : u.heap[w.heap.size]? = some (.cells Z T)) (hb : Below w.heap.size w u) (hv : Vals u (fun b => w.heap.size < b ∧ b < u.heap.size) cs xs) :
    (u.setRow w.heap.size cs).heap[w.heap.size]? = some (.cells cs T) ∧ Vals (u.setRow w.heap.size cs) (fun b => w.heap.size ≤ b ∧ b < (u.setRow w.heap.size cs).heap.size) cs xs ∧ Below w.heap.size w (u.setRow w.heap.size cs) := by
  have hother : ∀ b, b ≠ w.heap.size → (u.setRow w.heap.size cs).heap[b]? = u.heap[b]? := fun b hb => by simp only [World.setRow, Array.getElem?_modify]; rw [if_neg (fun e => hb e.symm)]
  exact ⟨setRow_heap u _ _ cs _ _ hu, hv.same fun b hb => ⟨⟨by omega, by rw [size_setRow]; omega⟩, hother b (by omega)⟩, hb.os, hb.tape, hb.output, by rw [size_setRow]; exact hb.size, fun k hk => (hother k (by omega)).trans (hb.block k hk)⟩
theorem lay_row_free {w u : World} {Z cs : Array Value} {T : TypeId} {xs : List Atom} (hu : u.heap[w.heap.size]? = some (.cells Z T)) (hb : Below w.heap.size w u) (hv : Vals u (fun b => w.heap.size < b ∧ b < u.heap.size ∧ Free u b) cs xs) :
    (u.setRow w.heap.size cs).heap[w.heap.size]? = some (.cells cs T) ∧ Vals (u.setRow w.heap.size cs) (fun b => w.heap.size ≤ b ∧ b < (u.setRow w.heap.size cs).heap.size ∧ Free (u.setRow w.heap.size cs) b) cs xs ∧ Below w.heap.size w (u.setRow w.heap.size cs) := by
  have hother : ∀ b, b ≠ w.heap.size → (u.setRow w.heap.size cs).heap[b]? = u.heap[b]? := fun b hb => by simp only [World.setRow, Array.getElem?_modify]; rw [if_neg (fun e => hb e.symm)]
  exact ⟨setRow_heap u _ _ cs _ _ hu, hv.same fun b hb => ⟨⟨by omega, by rw [size_setRow]; omega, hb.2.2.same (hother b (by omega))⟩, hother b (by omega)⟩, hb.os, hb.tape, hb.output, by rw [size_setRow]; exact hb.size, fun k hk => (hother k (by omega)).trans (hb.block k hk)⟩
theorem Vals.anyF {w : World} {B : Nat} {cs : Array Value} {xs : List Atom} (h : Vals w (fun b => B ≤ b ∧ b < w.heap.size ∧ Free w b) cs xs) : Vals w (fun b => b < w.heap.size) cs xs := h.same fun b hl => ⟨hl.2.1, rfl⟩
theorem Vals.below {w w1 : World} {cs : Array Value} {xs : List Atom} (h : Vals w (fun b => b < w.heap.size) cs xs) (hb : Below w.heap.size w w1) : Vals w1 (fun b => b < w1.heap.size) cs xs := h.same fun b hl => ⟨Nat.lt_of_lt_of_le hl hb.size, hb.block b hl⟩
theorem Vals.later {w w1 : World} {B : Nat} {cs : Array Value} {xs : List Atom} (h : Vals w (fun b => B ≤ b ∧ b < w.heap.size) cs xs) (hb : Below w.heap.size w w1) : Vals w1 (fun b => B ≤ b ∧ b < w1.heap.size) cs xs := h.same fun b hl => ⟨⟨hl.1, Nat.lt_of_lt_of_le hl.2 hb.size⟩, hb.block b hl.2⟩
theorem Vals.from {w : World} {B B' : Nat} {cs : Array Value} {xs : List Atom} (h : Vals w (fun b => B ≤ b ∧ b < w.heap.size) cs xs) (hb : B' ≤ B) : Vals w (fun b => B' ≤ b ∧ b < w.heap.size) cs xs := h.same fun b hl => ⟨⟨Nat.le_trans hb hl.1, hl.2⟩, rfl⟩
theorem Vals.any {w : World} {B : Nat} {cs : Array Value} {xs : List Atom} (h : Vals w (fun b => B ≤ b ∧ b < w.heap.size) cs xs) : Vals w (fun b => b < w.heap.size) cs xs := h.same fun b hl => ⟨hl.2, rfl⟩
theorem Vals.size_of {w : World} {P : Nat → Prop} {cs : Array Value} {xs : List Atom} {ks : List Nat} (h : Vals w P cs xs) (hk : xs.map Atom.k = ks) : cs.size = ks.length := by rw [h.1, ← hk, List.length_map]
end Go.Proofs.Ytfdejkfbjmkngab
