/- What the document's own Has and Meet (purseref01) return, and Meet of package num in the same words, at the landed code. No condition. -/
import Derived.Test.YtgmnhpelncbknaaNumMeet
namespace Go.Proofs.Ytgmnhpelncbknaa
open Go.ChangeShapes Go.WideShapes Go.ChangeAt Go.RowKit
set_option linter.unusedVariables false

theorem refhas_any (lo hi v : Int) (w : World) :
    Calls Try.prog 26 #[.agg #[.int .i64 lo, .int .i64 hi], .int .i64 v] w fun e w' => e = .returned (.bool (hasB lo hi v)) ∧ w' = w.alloc (.cells #[.int .i64 lo, .int .i64 hi] 34) := by
  by_cases h : lo ≤ v ∧ v ≤ hi
  · rw [hasB_true h]
    obtain ⟨h1, h2⟩ := h
    go_enter Try.func26, Try.ntmps26
    go_wp2
    go_ret
    exact ⟨rfl, rfl⟩
  · rw [hasB_false h]
    by_cases h1 : lo ≤ v
    · have h2 : ¬ v ≤ hi := fun x => h ⟨h1, x⟩
      clear h
      go_enter Try.func26, Try.ntmps26
      go_wp2
      go_ret
      exact ⟨rfl, rfl⟩
    · clear h
      go_enter Try.func26, Try.ntmps26
      go_wp2
      go_ret
      exact ⟨rfl, rfl⟩

theorem refmeet_yes (la ha lb hb lo hi : Int) (w : World) (hl : (lo = la ∧ lb ≤ la) ∨ (lo = lb ∧ la < lb)) (hh : (hi = ha ∧ ha ≤ hb) ∨ (hi = hb ∧ hb < ha)) (h : lo ≤ hi) :
    Calls Try.prog 21 #[.agg #[.int .i64 la, .int .i64 ha], .agg #[.int .i64 lb, .int .i64 hb]] w fun e w' => e = .returned (.tuple #[.agg #[.int .i64 lo, .int .i64 hi], .bool true]) ∧ Below w.heap.size w w' := by
  rcases hl with ⟨rfl, h1⟩ | ⟨rfl, h1⟩ <;> rcases hh with ⟨rfl, h2⟩ | ⟨rfl, h2⟩
  all_goals
    go_enter Try.func21, Try.ntmps21
    go_wp2_with fail
    refine bodyPost_ret (v := .tuple #[.agg #[.int .i64 lo, .int .i64 hi], .bool true]) (by simp [results, Try.results21, go_sem]) rfl ⟨rfl, ?_⟩
    repeat (first | exact Below.refl _ _ | refine Below.drew ?_ | refine Below.setCell ?_ (by simp <;> omega) _ | refine Below.alloc ?_ (by simp <;> omega) _)

theorem refmeet_no (la ha lb hb lo hi : Int) (w : World) (hl : (lo = la ∧ lb ≤ la) ∨ (lo = lb ∧ la < lb)) (hh : (hi = ha ∧ ha ≤ hb) ∨ (hi = hb ∧ hb < ha)) (h : ¬ lo ≤ hi) :
    Calls Try.prog 21 #[.agg #[.int .i64 la, .int .i64 ha], .agg #[.int .i64 lb, .int .i64 hb]] w fun e w' => e = .returned (.tuple #[.agg #[.int .i64 0, .int .i64 0], .bool false]) ∧ Below w.heap.size w w' := by
  rcases hl with ⟨rfl, h1⟩ | ⟨rfl, h1⟩ <;> rcases hh with ⟨rfl, h2⟩ | ⟨rfl, h2⟩
  all_goals
    go_enter Try.func21, Try.ntmps21
    go_wp2_with fail
    refine bodyPost_ret (v := .tuple #[.agg #[.int .i64 0, .int .i64 0], .bool false]) (by simp [results, Try.results21, go_sem]) rfl ⟨rfl, ?_⟩
    repeat (first | exact Below.refl _ _ | refine Below.drew ?_ | refine Below.setCell ?_ (by simp <;> omega) _ | refine Below.alloc ?_ (by simp <;> omega) _)

/-- what two spans have in common: its ends (0 and 0 where there is nothing), and whether there is something -/
structure Met where
  lo : Int
  hi : Int
  ok : Bool
def meetv (la ha lb hb : Int) : Met := if (if lb ≤ la then la else lb) ≤ (if ha ≤ hb then ha else hb) then ⟨if lb ≤ la then la else lb, if ha ≤ hb then ha else hb, true⟩ else ⟨0, 0, false⟩

theorem met_cases (la ha lb hb : Int) : ∃ lo hi, ((lo = la ∧ lb ≤ la) ∨ (lo = lb ∧ la < lb)) ∧ ((hi = ha ∧ ha ≤ hb) ∨ (hi = hb ∧ hb < ha)) ∧ ((lo ≤ hi ∧ meetv la ha lb hb = ⟨lo, hi, true⟩) ∨ (¬ lo ≤ hi ∧ meetv la ha lb hb = ⟨0, 0, false⟩)) := by
  refine ⟨if lb ≤ la then la else lb, if ha ≤ hb then ha else hb, ?_, ?_, ?_⟩
  · split
    · exact .inl ⟨rfl, ‹_›⟩
    · exact .inr ⟨rfl, by omega⟩
  · split
    · exact .inl ⟨rfl, ‹_›⟩
    · exact .inr ⟨rfl, by omega⟩
  · by_cases h : (if lb ≤ la then la else lb) ≤ (if ha ≤ hb then ha else hb)
    · exact .inl ⟨h, if_pos h⟩
    · exact .inr ⟨h, if_neg h⟩

theorem meet_any (la ha lb hb : Int) (w : World) :
    Calls Try.prog 20 #[.agg #[.int .i64 la, .int .i64 ha], .agg #[.int .i64 lb, .int .i64 hb]] w fun e w' => e = .returned (.tuple #[.agg #[.int .i64 (meetv la ha lb hb).lo, .int .i64 (meetv la ha lb hb).hi], .bool (meetv la ha lb hb).ok]) ∧ Below w.heap.size w w' := by
  obtain ⟨lo, hi, hl, hh, ⟨h, e⟩ | ⟨h, e⟩⟩ := met_cases la ha lb hb
  · rw [e]; exact meet_yes la ha lb hb lo hi w hl hh h
  · rw [e]; exact meet_no la ha lb hb lo hi w hl hh h

theorem refmeet_any (la ha lb hb : Int) (w : World) :
    Calls Try.prog 21 #[.agg #[.int .i64 la, .int .i64 ha], .agg #[.int .i64 lb, .int .i64 hb]] w fun e w' => e = .returned (.tuple #[.agg #[.int .i64 (meetv la ha lb hb).lo, .int .i64 (meetv la ha lb hb).hi], .bool (meetv la ha lb hb).ok]) ∧ Below w.heap.size w w' := by
  obtain ⟨lo, hi, hl, hh, ⟨h, e⟩ | ⟨h, e⟩⟩ := met_cases la ha lb hb
  · rw [e]; exact refmeet_yes la ha lb hb lo hi w hl hh h
  · rw [e]; exact refmeet_no la ha lb hb lo hi w hl hh h
end Go.Proofs.Ytgmnhpelncbknaa
