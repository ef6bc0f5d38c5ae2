/- A list of structs whose fields are plain, in memory: its cells, and what a copy of them holds. No condition. -/
import Derived.Test.YthklpkmdmkgjiaaGreatJA
import Derived.Test.YthklpkmdmkgjiaaGreatFWireRows
namespace Go.Proofs.YthklpkmdmkgjiaaGreat
open Go.ChangeShapes Go.WideShapes Go.ChangeAt Go.RowKit B8 Cm Wm
set_option linter.unusedVariables false

/-- the slice at a, of n elements of d cells, holds the rows xss -/
structure Ls (w : World) (P : Nat → Prop) (a : Option Addr) (n cp d : Nat) (xss : List (List Atom)) : Prop where
  length : xss.length = n
  lecap : n ≤ cp
  nil : a = none → cp = 0
  rows : 0 < n → ∃ b off, a = some ⟨b, off, none⟩ ∧ P b ∧ ∀ i xs, xss[i]? = some xs → xs.length = d ∧ FlatAt w P b (off + i * d) xs
theorem Ls.same {w w1 : World} {P P' : Nat → Prop} {a : Option Addr} {n cp d : Nat} {xss : List (List Atom)} (h : Ls w P a n cp d xss) (hb : ∀ b, P b → P' b ∧ w1.heap[b]? = w.heap[b]?) : Ls w1 P' a n cp d xss :=
  ⟨h.length, h.lecap, h.nil, fun h0 => by
    obtain ⟨b, off, e, hp, hr⟩ := h.rows h0
    exact ⟨b, off, e, (hb b hp).1, fun i xs hx => ⟨(hr i xs hx).1, (hr i xs hx).2.same (fun j _ => World.cell?_of_block (w := w) (hb b hp).2) hb⟩⟩⟩
/-- the cell j of the list -/
theorem Ls.cell {w : World} {P : Nat → Prop} {b off n d : Nat} {xss : List (List Atom)} (hd : 0 < d) (hl : xss.length = n) (hr : ∀ i xs, xss[i]? = some xs → xs.length = d ∧ FlatAt w P b (off + i * d) xs) {j : Nat} (hj : j < n * d) :
    ∃ xs x v, xss[j / d]? = some xs ∧ xs[j % d]? = some x ∧ w.cell? ⟨b, off + j, none⟩ = some v ∧ AtomV w P v x := by
  have h1 : j / d < n := (Nat.div_lt_iff_lt_mul hd).2 hj
  have h2 : j % d < d := Nat.mod_lt _ hd
  obtain ⟨xs, hx⟩ : ∃ xs, xss[j / d]? = some xs := ⟨_, List.getElem?_eq_getElem (by omega)⟩
  obtain ⟨hlen, hf⟩ := hr _ _ hx
  obtain ⟨x, hy⟩ : ∃ x, xs[j % d]? = some x := ⟨_, List.getElem?_eq_getElem (by omega)⟩
  obtain ⟨v, hc, hv⟩ := hf _ _ hy
  have e : off + j / d * d + j % d = off + j := by
    have := Nat.div_add_mod j d
    rw [Nat.mul_comm] at this
    omega
  rw [e] at hc
  exact ⟨xs, x, v, hx, hy, hc, hv⟩
/-- the cells of the first k elements, as the walk of wire's list asks for them -/
theorem Ls.cells {w : World} {P : Nat → Prop} {a : Option Addr} {n cp d : Nat} {xss : List (List Atom)} (hd : 0 < d) (h : Ls w P a n cp d xss) (k : Nat) (hk : k ≤ n) :
    ∃ cs : List Value, cs.length = k * d ∧ (∀ v ∈ cs, v.oneCell' = true) ∧ (0 < cs.length → ∃ ad, a = some ad ∧ ∀ j v, cs[j]? = some v → w.cell? (ad.add j) = some v) ∧
      ∀ i q xs x, i < k → xss[i]? = some xs → xs[q]? = some x → ∃ v, cs[i * d + q]? = some v ∧ AtomV w P v x := by
  by_cases h0 : 0 < k
  · obtain ⟨b, off, rfl, hp, hr⟩ := h.rows (by omega)
    have hkd : k * d ≤ n * d := Nat.mul_le_mul_right _ hk
    have hget : ∀ j, j < k * d → ∃ v, w.cell? ⟨b, off + j, none⟩ = some v ∧ v.oneCell' = true := fun j hj => by
      obtain ⟨_, _, v, _, _, hc, hv⟩ := Ls.cell hd h.length hr (Nat.lt_of_lt_of_le hj hkd)
      exact ⟨v, hc, atomV_one hv⟩
    have hcs : ∀ j, j < k * d → ((List.range (k * d)).map fun j => (w.cell? ⟨b, off + j, none⟩).getD undef)[j]? = w.cell? ⟨b, off + j, none⟩ := fun j hj => by
      obtain ⟨v, hc, _⟩ := hget j hj
      rw [List.getElem?_map, List.getElem?_range hj]
      simp [hc]
    refine ⟨(List.range (k * d)).map fun j => (w.cell? ⟨b, off + j, none⟩).getD undef, by simp, fun v hv => ?_, fun _ => ⟨_, rfl, fun j v hv => ?_⟩, fun i q xs x hi hx hy => ?_⟩
    · obtain ⟨j, hj, rfl⟩ := List.mem_map.1 hv
      obtain ⟨v, hc, ho⟩ := hget j (List.mem_range.1 hj)
      rw [hc]
      exact ho
    · have hj : j < k * d := by have := (List.getElem?_eq_some_iff.1 hv).1; simpa using this
      rw [hcs j hj] at hv
      rw [Addr.add_lit]
      exact hv
    · obtain ⟨hlen, hf⟩ := hr _ _ hx
      obtain ⟨v, hc, hv⟩ := hf _ _ hy
      have hq : q < d := by have := (List.getElem?_eq_some_iff.1 hy).1; omega
      have hj : i * d + q < k * d := by
        have : (i + 1) * d ≤ k * d := Nat.mul_le_mul_right _ hi
        rw [Nat.add_mul, Nat.one_mul] at this
        omega
      exact ⟨v, by rw [hcs _ hj, ← Nat.add_assoc]; exact hc, hv⟩
  · obtain rfl : k = 0 := by omega
    exact ⟨[], by simp, fun v hv => by simp at hv, fun h => absurd h (by simp), fun i q xs x hi => absurd hi (by omega)⟩
end Go.Proofs.YthklpkmdmkgjiaaGreat
