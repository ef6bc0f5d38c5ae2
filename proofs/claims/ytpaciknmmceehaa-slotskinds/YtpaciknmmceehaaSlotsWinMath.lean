/- A log of places as a plain value: what is put is there, what is counted. No program. -/
import Derived.Test.YtpaciknmmceehaaSlotsMath
namespace Go.Proofs.Ytpaciknmmceehaa.Sx
set_option linter.unusedVariables false
variable {α : Type}
theorem get_put {s : Ss α} (h : Ok s) {i : Int} {x : α} (h1 : ¬ i < s.first) (h2 : ¬ (s.most : Int) ≤ i - s.first) : getV (putS s i x) i = some x := by
  have es : putS s i x = { s with ps := putL s.ps (i - s.first).toNat x } := by unfold putS; rw [if_neg (by omega)]
  rw [es]
  unfold getV
  rw [if_neg h1]
  show ((putL _ _ _)[_]?).join = _
  rw [putL_get, if_pos rfl]
  rfl
theorem get_far {s : Ss α} (h : Ok s) {i : Int} (h2 : (s.most : Int) ≤ i - s.first) : getV s i = none := by
  unfold getV
  split
  · rfl
  · rw [List.getElem?_eq_none (by have := h.len; omega)]
    rfl
theorem get_low {s : Ss α} {i : Int} (h1 : i < s.first) : getV s i = none := by unfold getV; rw [if_pos h1]
theorem put_out {s : Ss α} {i : Int} {x : α} (h : i < s.first ∨ (s.most : Int) ≤ i - s.first) : putS s i x = s := by unfold putS; rw [if_pos h]
theorem cnt_set : ∀ (l : List (Option α)) (k : Nat) (x : α), k < l.length → cnt (l.set k (some x)) = cnt l + (if (l[k]?).join.isSome then 0 else 1)
  | some y :: r, 0, x, _ => by simp [cnt]
  | none :: r, 0, x, _ => by simp [cnt]
  | some y :: r, k + 1, x, h => by
    have := cnt_set r k x (by simpa using h)
    simp only [List.set_cons_succ, cnt, List.getElem?_cons_succ, this]; omega
  | none :: r, k + 1, x, h => by
    have := cnt_set r k x (by simpa using h)
    simp only [List.set_cons_succ, cnt, List.getElem?_cons_succ, this]
theorem cnt_putL (l : List (Option α)) (k : Nat) (x : α) : cnt (putL l k x) = cnt l + (if (l[k]?).join.isSome then 0 else 1) := by
  unfold putL
  rw [cnt_set _ _ _ (by simp; omega), cnt_append, cnt_replicate, Nat.add_zero]
  by_cases h : k < l.length
  · rw [List.getElem?_append_left h]
  · have e : (l ++ List.replicate (k + 1 - l.length) none)[k]? = some none := by rw [List.getElem?_append_right (by omega), List.getElem?_replicate, if_pos (by omega)]
    rw [e, List.getElem?_eq_none (by omega)]
    rfl
theorem cnt_put {s : Ss α} {i : Int} {x : α} (h1 : ¬ i < s.first) (h2 : ¬ (s.most : Int) ≤ i - s.first) : cnt (putS s i x).ps = cnt s.ps + (if (getV s i).isSome then 0 else 1) := by
  unfold putS getV
  rw [if_neg (by omega), if_neg h1]
  exact cnt_putL _ _ _
theorem put_first (s : Ss α) (i : Int) (x : α) : (putS s i x).first = s.first := by unfold putS; split <;> rfl
theorem put_most (s : Ss α) (i : Int) (x : α) : (putS s i x).most = s.most := by unfold putS; split <;> rfl
theorem cut_cnt (s : Ss α) (i : Int) : cnt (cutS s i).ps + cutN s i = cnt s.ps := by
  unfold cutS cutN
  split
  · simp
  · have := cnt_take_drop s.ps (cutB s i)
    simp only
    omega
theorem cut_first {s : Ss α} {i : Int} (h : ¬ stays s i) : (cutS s i).first = i := by unfold cutS; rw [if_neg h]
end Go.Proofs.Ytpaciknmmceehaa.Sx
