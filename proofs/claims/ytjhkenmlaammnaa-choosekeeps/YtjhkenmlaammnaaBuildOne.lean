/- A list of one struct, made in place: the struct's cells in a block of their own. No condition. -/
import Derived.Test.YtjhkenmlaammnaaBase
import Derived.OwnWalk
namespace Go.Proofs.Ytjhkenmlaammnaa
open Go.ChangeShapes Go.WideShapes Go.ChangeAt Go.RowKit
set_option linter.unusedVariables false

theorem lay_get : ∀ (l : List Value) (k : Nat) (cs : Array Value) (j : Nat), k + l.length ≤ cs.size →
    ((l.zipIdx k).foldl (fun (cs : Array Value) (p : Value × Nat) => cs.setIfInBounds p.2 p.1) cs)[j]? = if k ≤ j ∧ j < k + l.length then l[j - k]? else cs[j]?
  | [], k, cs, j, _ => by simp; omega
  | v :: r, k, cs, j, h => by
    have hk : k < cs.size := by simp at h; omega
    rw [List.zipIdx_cons, List.foldl_cons, lay_get r (k + 1) (cs.setIfInBounds k v) j (by simp at h ⊢; omega)]
    simp only [List.length_cons, Array.getElem?_setIfInBounds]
    by_cases h1 : j = k
    · subst h1
      rw [if_neg (show ¬ (j + 1 ≤ j ∧ j < j + 1 + r.length) by omega)]
      simp [hk]
    · rw [if_neg (show k ≠ j by omega)]
      by_cases h2 : k + 1 ≤ j ∧ j < k + 1 + r.length
      · rw [if_pos h2, if_pos (by omega), show j - k = (j - (k + 1)) + 1 by omega]
        simp
      · rw [if_neg h2, if_neg (by omega)]
theorem lay_size : ∀ (l : List (Value × Nat)) (cs : Array Value), (l.foldl (fun (cs : Array Value) (p : Value × Nat) => cs.setIfInBounds p.2 p.1) cs).size = cs.size
  | [], cs => rfl
  | p :: r, cs => by rw [List.foldl_cons, lay_size r]; simp
theorem lay_whole (c cs : Array Value) (h : c.size = cs.size) : c.toList.zipIdx.foldl (fun (cs : Array Value) (p : Value × Nat) => cs.setIfInBounds p.2 p.1) cs = c := by
  apply Array.ext_getElem?
  intro j
  rw [lay_get c.toList 0 cs j (by simp; omega)]
  by_cases hj : j < c.size
  · simp [hj]
  · rw [if_neg (by simp; omega), Array.getElem?_eq_none (by omega), Array.getElem?_eq_none (by omega)]
theorem build_one {P : Program} (t e : TypeId) (i : TypeInfo) (z : Value) (size : Nat) (ht : P.underlying t = some (.slice e)) (hi : P.info? e = some i) (hz : i.zero = some z) (hs : i.size = size) (h0 : 0 < size) (h24 : size ≤ 16777216)
    (c : Array Value) (hc : c.size = size) (w : World) : (Instr.buildSlice t 1 #[(0, .agg c)]).run P w = .ok (.slice (some ⟨w.heap.size, 0, none⟩) 1 1) (w.alloc (.cells c e)) := by
  have n1 : ¬ (16777216 < size) := by omega
  have n2 : size ≠ 0 := by omega
  subst hs
  have key : ∀ cs0 : Array Value, cs0.size = i.size → Array.foldl (fun (cs : Array Value) (x : Value × Nat) => cs.setIfInBounds x.snd x.fst) cs0 c.zipIdx 0 i.size = c := fun cs0 h => by
    have h3 := lay_whole c cs0 (by omega)
    rw [← Array.toList_zipIdx, Array.foldl_toList] at h3
    simpa [hc] using h3
  simp [Instr.buildSlice, run_underlying ht, sizeOf, typeInfo, hi, zeroValue, hz, n1, n2, newRow, Instr.fill, Value.cells, hc]
  rw [key _ (by simp)]
end Go.Proofs.Ytjhkenmlaammnaa
