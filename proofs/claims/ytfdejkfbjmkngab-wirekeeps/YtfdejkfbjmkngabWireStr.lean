/- A string as bytes, bytes as a string, at an operation. No condition. -/
import Derived.Test.YtfdejkfbjmkngabWireSt
import Derived.Laws.IdiomStrings
import Derived.Laws.BytesArg
namespace Go.Proofs.Ytfdejkfbjmkngab
open Go.ChangeShapes Go.WideShapes Go.ChangeAt Go.RowKit B8 Cm Wm
set_option linter.unusedVariables false

theorem strB_length (s : ByteArray) : (strB s).length = s.size := by unfold strB; simp
theorem strB_wfs (s : ByteArray) : wfs (strB s) := by
  intro j
  by_cases hj : j < (strB s).length
  · rw [List.getElem?_eq_getElem hj]
    have hm : (strB s)[j] ∈ strB s := List.getElem_mem hj
    obtain ⟨c, _, hc⟩ := List.mem_map.1 hm
    rw [Option.getD_some, ← hc]
    refine WalkArith.wf_u8 ?_
    have := c.toNat_lt
    omega
  · rw [List.getElem?_eq_none (Nat.le_of_not_lt hj)]
    decide
theorem string_bytes (w : World) (s : ByteArray) : ∃ c w', (convert 9 22 (.string s)).run Try.prog w = .ok (.slice (some ⟨w.heap.size, 0, none⟩) s.size c) w' ∧ Below w.heap.size w w' ∧ Sq w' (some ⟨w.heap.size, 0, none⟩) s.size c (strB s) := by
  refine ⟨_, _, run_bytes_of_string w 9 22 5 s Try.underlying9 Try.underlying22 Try.underlying5, (Below.alloc (Below.refl _ _).drew (Nat.le_refl _) _), strB_length s, grownCap_ge _ _ _ _, fun h => absurd h (by simp), fun h0 => ⟨_, _, rfl, fun j hj => ?_⟩, strB_wfs s⟩
  have hh : (w.drew.alloc (.cells (bytesRow s (grownCap w s.size 0 5)) 5 ((bytesRow s (grownCap w s.size 0 5)).size, (bytesRow s (grownCap w s.size 0 5)).size + 1))).cell? ⟨w.heap.size, 0 + j, none⟩ = (bytesRow s (grownCap w s.size 0 5))[j]? := by
    rw [Nat.zero_add]
    have : (w.drew.alloc (.cells (bytesRow s (grownCap w s.size 0 5)) 5 ((bytesRow s (grownCap w s.size 0 5)).size, (bytesRow s (grownCap w s.size 0 5)).size + 1))).heap[w.heap.size]? = some (.cells (bytesRow s (grownCap w s.size 0 5)) 5 ((bytesRow s (grownCap w s.size 0 5)).size, (bytesRow s (grownCap w s.size 0 5)).size + 1)) := heap_alloc_new w.drew _
    unfold World.cell?
    rw [this]
    rfl
  rw [hh]
  have hj' : j < s.data.size := hj
  unfold bytesRow strB
  rw [Array.getElem?_append_left (by simpa using hj')]
  rw [Array.getElem?_map, List.getElem?_map, Array.getElem?_toList, Array.getElem?_eq_getElem hj']
  rfl
/-- a string of numbers -/
theorem strB_of (xs : List Int) (h : wfs xs) : strB (strOfNums xs) = xs := by
  unfold strB strOfNums
  apply List.ext_getElem
  · simp
  · intro j h1 h2
    have hw := bounds_u8 (h j)
    rw [List.getElem?_eq_getElem h2] at hw
    simp at hw ⊢
    omega
theorem bytes_string {w : World} {a : Option Addr} {n cp : Nat} {xs : List Int} (h : Sq w a n cp xs) : (convert 22 9 (.slice a n cp)).run Try.prog w = .ok (.string (strOfNums xs)) w := by
  by_cases h0 : 0 < n
  · obtain ⟨b, off, rfl, hc⟩ := h.cells h0
    exact run_convert_bytes_arg w 22 5 Try.underlying22 Try.underlying5 b off n cp xs h.length (fun i hi => by rw [hc i hi]; rfl) 9 Try.underlying9
  · obtain rfl : n = 0 := by omega
    obtain rfl : xs = [] := List.eq_nil_of_length_eq_zero h.length
    cases a with
    | none => exact run_convert_bytes_nil w 22 5 Try.underlying22 Try.underlying5 0 cp 9 Try.underlying9
    | some ad =>
      obtain ⟨b, off, sp⟩ := ad
      rw [run_convert_bytes_string w 22 9 5 _ 0 cp Try.underlying22 Try.underlying5 Try.underlying9]
      have hl : (loadCells ⟨b, off, sp⟩ 0).run Try.prog w = .ok (([] : List Int).map (Value.int .u8)).toArray w := by
        have := run_loadCells_list (P := Try.prog) w ⟨b, off, sp⟩ [] (fun j v hj => by simp at hj)
        simpa using this
      rw [run_bytesToString w _ 0 cp [] hl]
      rfl
end Go.Proofs.Ytfdejkfbjmkngab
