/- bytes.Equal. No condition. -/
import Derived.Test.YtanfmpeblhegpaaDoorSq8
import Derived.Laws.IdiomStrings
import Derived.Laws.BytesArg
import Derived.Lib.Strings
namespace Go.Proofs.YtanfmpeblhegpaaDoor
open Go.ChangeShapes Go.WideShapes Go.ChangeAt Go.RowKit B8
set_option linter.unusedVariables false

theorem bounds8 {a : Int} (h : (Lit.int .u8 a).wf = true) : 0 ≤ a ∧ a ≤ 255 := by
  have := bounds_u8 h
  omega
theorem str_inj {xs ys : List Int} (h : wfs xs) (h' : wfs ys) (e : strOfNums xs = strOfNums ys) : xs = ys := by
  have e2 : (strOfNums xs).data.toList = (strOfNums ys).data.toList := by rw [e]
  rw [strOfNums_data, strOfNums_data] at e2
  have hl : xs.length = ys.length := by have := congrArg List.length e2; simpa using this
  apply List.ext_getElem hl
  intro j h1 h2
  have a1 := bounds8 (h j)
  have a2 := bounds8 (h' j)
  rw [List.getElem?_eq_getElem h1] at a1
  rw [List.getElem?_eq_getElem h2] at a2
  simp only [Option.getD_some] at a1 a2
  have e3 : (xs.map fun n => UInt8.ofNat n.toNat)[j]? = (ys.map fun n => UInt8.ofNat n.toNat)[j]? := by rw [e2]
  simp only [List.getElem?_map, List.getElem?_eq_getElem h1, List.getElem?_eq_getElem h2, Option.map_some, Option.some.injEq] at e3
  have e4 := congrArg UInt8.toNat e3
  simp at e4
  omega
theorem bytes_string {w : World} {a : Option Addr} {n cp : Nat} {xs : List Int} (h : Sq w a n cp xs) : (convert 30 9 (.slice a n cp)).run Tryd.prog w = .ok (.string (strOfNums xs)) w := by
  by_cases h0 : 0 < n
  · obtain ⟨b, off, rfl, hc⟩ := h.cells h0
    exact run_convert_bytes_arg w 30 5 Tryd.underlying30 Tryd.underlying5 b off n cp xs h.length (fun i hi => by rw [hc i hi]; rfl) 9 Tryd.underlying9
  · obtain rfl : n = 0 := by omega
    obtain rfl : xs = [] := List.eq_nil_of_length_eq_zero h.length
    cases a with
    | none => exact run_convert_bytes_nil w 30 5 Tryd.underlying30 Tryd.underlying5 0 cp 9 Tryd.underlying9
    | some ad =>
      obtain ⟨b, off, sp⟩ := ad
      rw [run_convert_bytes_string w 30 9 5 _ 0 cp Tryd.underlying30 Tryd.underlying5 Tryd.underlying9]
      have hl : (loadCells ⟨b, off, sp⟩ 0).run Tryd.prog w = .ok (([] : List Int).map (Value.int .u8)).toArray w := by
        have := run_loadCells_list (P := Tryd.prog) w ⟨b, off, sp⟩ [] (fun j v hj => by simp at hj)
        simpa using this
      rw [run_bytesToString w _ 0 cp [] hl]
      rfl
set_option maxRecDepth 100000 in
theorem equal_any {w : World} {a a' : Option Addr} {m m' cp cp' : Nat} {xs ys : List Int} (q : Sq w a m cp xs) (q' : Sq w a' m' cp' ys) :
    Calls Tryd.prog 28 #[.slice a m cp, .slice a' m' cp'] w fun e w' => e = .returned (.bool (decide (xs = ys))) ∧ w' = w := by
  have s1 := bytes_string q
  have s2 := bytes_string q'
  have wq := q.wf
  have wq' := q'.wf
  clear q q'
  by_cases e : xs = ys
  · subst e
    rw [decide_eq_true rfl]
    clear wq wq'
    generalize strOfNums xs = s at *
    go_enter Tryd.func28, Tryd.ntmps28
    go_wp2_with fail
    go_ret
    exact ⟨by simp, rfl⟩
  · rw [decide_eq_false e]
    have ne : strOfNums xs ≠ strOfNums ys := fun h => e (str_inj wq wq' h)
    have nl : ¬ (strOfNums xs).toList = (strOfNums ys).toList := fun h => ne (bytes_inj (by rw [← Lib.toList_data, ← Lib.toList_data]; exact h))
    clear wq wq' e ne
    generalize strOfNums xs = s at *
    generalize strOfNums ys = t at *
    go_enter Tryd.func28, Tryd.ntmps28
    go_wp2_with fail
    go_ret
    exact ⟨by simp [nl], rfl⟩
theorem equal_lit {w : World} {a a' : Option Addr} {m m' cp cp' : Nat} {xs ys : List Int} (q : Sq w a m cp xs) (q' : Sq w a' m' cp' ys) {b : Bool} (h : decide (xs = ys) = b) :
    Calls Tryd.prog 28 #[.slice a m cp, .slice a' m' cp'] w fun e w' => e = .returned (.bool b) ∧ w' = w := h ▸ equal_any q q'
end Go.Proofs.YtanfmpeblhegpaaDoor
