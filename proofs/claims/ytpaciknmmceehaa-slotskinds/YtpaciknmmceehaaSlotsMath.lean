/- A log of places as a plain value: what each call answers and leaves. No program. -/
import Derived.Test.YtpaciknmmceehaaBase
namespace Go.Proofs.Ytpaciknmmceehaa.Sx
set_option linter.unusedVariables false

structure Ss (α : Type) where
  first : Int
  most : Nat
  ps : List (Option α)
variable {α : Type}
def cl (lo hi x : Int) : Int := if x < lo then lo else if hi < x then hi else x
def newS (α : Type) (first most : Int) : Ss α := ⟨cl 1 1099511627776 first, (cl 1 1024 most).toNat, []⟩
def nxt : List (Option α) → Nat
  | some _ :: r => nxt r + 1
  | none :: _ => 0
  | [] => 0
def cnt : List (Option α) → Nat
  | some _ :: r => cnt r + 1
  | none :: r => cnt r
  | [] => 0
def getV (s : Ss α) (i : Int) : Option α := if i < s.first then none else (s.ps[(i - s.first).toNat]?).join
def topV (s : Ss α) : Int := s.first + s.ps.length
def nextV (s : Ss α) : Int := s.first + nxt s.ps
def putE (s : Ss α) (i : Int) : Int := if i < s.first then 80 else if (s.most : Int) ≤ i - s.first then 81 else 0
def putL (l : List (Option α)) (k : Nat) (x : α) : List (Option α) := (l ++ List.replicate (k + 1 - l.length) none).set k (some x)
def putS (s : Ss α) (i : Int) (x : α) : Ss α := if i < s.first ∨ (s.most : Int) ≤ i - s.first then s else { s with ps := putL s.ps (i - s.first).toNat x }
def cutB (s : Ss α) (i : Int) : Nat := min (i - s.first).toNat s.ps.length
def stays (s : Ss α) (i : Int) : Prop := i ≤ s.first ∨ 1099511627776 < i
instance (s : Ss α) (i : Int) : Decidable (stays s i) := by unfold stays; exact inferInstance
def cutN (s : Ss α) (i : Int) : Nat := if stays s i then 0 else cnt (s.ps.take (cutB s i))
def cutS (s : Ss α) (i : Int) : Ss α := if stays s i then s else { s with first := i, ps := s.ps.drop (cutB s i) }
structure Ok (s : Ss α) : Prop where
  f1 : 1 ≤ s.first
  f2 : s.first ≤ 1099511627776
  m1 : 1 ≤ s.most
  m2 : s.most ≤ 1024
  len : s.ps.length ≤ s.most
  last : ∀ x, s.ps[s.ps.length - 1]? = some x → x.isSome = true

theorem cl_le (lo hi x : Int) (h : lo ≤ hi) : lo ≤ cl lo hi x ∧ cl lo hi x ≤ hi := by unfold cl; split <;> (try split) <;> omega
theorem ok_new (a b : Int) : Ok (newS α a b) := by
  have h1 := cl_le 1 1099511627776 a (by omega)
  have h2 := cl_le 1 1024 b (by omega)
  exact ⟨h1.1, h1.2, by simp only [newS]; omega, by simp only [newS]; omega, by simp [newS], fun x h => by simp [newS] at h⟩
theorem putL_length (l : List (Option α)) (k : Nat) (x : α) : (putL l k x).length = max l.length (k + 1) := by
  simp only [putL, List.length_set, List.length_append, List.length_replicate]; omega
theorem putL_get (l : List (Option α)) (k : Nat) (x : α) (j : Nat) : (putL l k x)[j]? = if j = k then some (some x) else if j < l.length then l[j]? else if j < k then some none else none := by
  unfold putL
  rw [List.getElem?_set]
  by_cases h : k = j
  · subst h
    rw [if_pos rfl, if_pos rfl, if_pos (by simp only [List.length_append, List.length_replicate]; omega)]
  · rw [if_neg h, if_neg (fun e => h e.symm)]
    by_cases h2 : j < l.length
    · rw [if_pos h2, List.getElem?_append_left h2]
    · rw [if_neg h2, List.getElem?_append_right (by omega), List.getElem?_replicate]
      by_cases h3 : j < k
      · rw [if_pos h3, if_pos (by omega)]
      · rw [if_neg h3, if_neg (by omega)]
theorem putS_ok {s : Ss α} (h : Ok s) (i : Int) (x : α) : Ok (putS s i x) := by
  unfold putS
  split
  · exact h
  · rename_i hn
    have hl := putL_length s.ps (i - s.first).toNat x
    have h5 := h.len
    refine ⟨h.f1, h.f2, h.m1, h.m2, ?_, fun y hy => ?_⟩
    · show (putL _ _ _).length ≤ s.most
      rw [hl]; omega
    · replace hy : (putL s.ps (i - s.first).toNat x)[(putL s.ps (i - s.first).toNat x).length - 1]? = some y := hy
      rw [hl, putL_get] at hy
      split at hy
      · cases hy; rfl
      · rename_i hne
        rw [if_pos (by omega), show max s.ps.length ((i - s.first).toNat + 1) - 1 = s.ps.length - 1 by omega] at hy
        exact h.last y hy
theorem cutS_ok {s : Ss α} (h : Ok s) (i : Int) : Ok (cutS s i) := by
  unfold cutS
  split
  · exact h
  · rename_i hn
    unfold stays at hn
    have h5 := h.len
    have f1 := h.f1
    refine ⟨by show 1 ≤ i; omega, by show i ≤ _; omega, h.m1, h.m2, ?_, fun y hy => ?_⟩
    · show (List.drop _ _).length ≤ s.most
      rw [List.length_drop]; omega
    · replace hy : (s.ps.drop (cutB s i))[(s.ps.drop (cutB s i)).length - 1]? = some y := hy
      rw [List.getElem?_drop, List.length_drop] at hy
      have hlt := (List.getElem?_eq_some_iff.1 hy).1
      exact h.last y (by rw [← hy]; congr 1; omega)
/-! counting -/
theorem cnt_le : ∀ l : List (Option α), cnt l ≤ l.length
  | [] => Nat.le_refl _
  | some _ :: r => by have := cnt_le r; simp only [cnt, List.length_cons]; omega
  | none :: r => by have := cnt_le r; simp only [cnt, List.length_cons]; omega
theorem cnt_append : ∀ a b : List (Option α), cnt (a ++ b) = cnt a + cnt b
  | [], b => by simp [cnt]
  | some _ :: r, b => by simp only [List.cons_append, cnt, cnt_append r b]; omega
  | none :: r, b => by simp only [List.cons_append, cnt, cnt_append r b]
theorem cnt_take_succ {l : List (Option α)} {k : Nat} {o : Option α} (h : l[k]? = some o) : cnt (l.take (k + 1)) = cnt (l.take k) + (if o.isSome then 1 else 0) := by
  have hk := (List.getElem?_eq_some_iff.1 h).1
  rw [List.take_succ_eq_append_getElem hk, cnt_append, (List.getElem?_eq_some_iff.1 h).2]
  cases o <;> rfl
theorem cnt_take_mono (l : List (Option α)) {a b : Nat} (h : a ≤ b) : cnt (l.take a) ≤ cnt (l.take b) := by
  have e : l.take b = l.take a ++ (l.drop a).take (b - a) := by
    conv => lhs; rw [show b = a + (b - a) by omega, List.take_add]
  rw [e, cnt_append]; omega
theorem cnt_take_drop (l : List (Option α)) (k : Nat) : cnt (l.take k) + cnt (l.drop k) = cnt l := by rw [← cnt_append, List.take_append_drop]
theorem cnt_replicate (n : Nat) : cnt (List.replicate n (none : Option α)) = 0 := by
  induction n with
  | zero => rfl
  | succ n ih => rw [List.replicate_succ]; exact ih
theorem nxt_le : ∀ l : List (Option α), nxt l ≤ l.length
  | [] => Nat.le_refl _
  | some _ :: r => by have := nxt_le r; simp only [nxt, List.length_cons]; omega
  | none :: r => by simp [nxt]
theorem nxt_below : ∀ (l : List (Option α)) (k : Nat), k < nxt l → ∃ x, l[k]? = some (some x)
  | some x :: _, 0, _ => ⟨x, rfl⟩
  | some _ :: r, k + 1, h => by simp only [nxt] at h; simpa using nxt_below r k (by omega)
  | none :: _, k, h => by simp [nxt] at h
  | [], k, h => by simp [nxt] at h
theorem nxt_at : ∀ (l : List (Option α)), nxt l < l.length → l[nxt l]? = some none
  | some _ :: r, h => by simp only [nxt, List.length_cons] at h ⊢; simpa using nxt_at r (by omega)
  | none :: _, _ => rfl
  | [], h => by simp [nxt] at h
theorem nxt_eq {l : List (Option α)} {k : Nat} (h1 : ∀ j, j < k → ∃ x, l[j]? = some (some x)) (h2 : l[k]? = some none ∨ k = l.length) : nxt l = k := by
  rcases Nat.lt_trichotomy (nxt l) k with h | h | h
  · obtain ⟨x, hx⟩ := h1 _ h
    have hl := (List.getElem?_eq_some_iff.1 hx).1
    rw [nxt_at l hl] at hx
    cases hx
  · exact h
  · obtain ⟨x, hx⟩ := nxt_below l k h
    rcases h2 with h2 | h2
    · rw [h2] at hx; cases hx
    · have := nxt_le l; omega
/-! what is told -/
def allL : Int → List (Option α) → List (Int × α)
  | f, some x :: r => (f, x) :: allL (f + 1) r
  | f, none :: r => allL (f + 1) r
  | _, [] => []
def runL : Int → List (Option α) → List (Int × α)
  | f, some x :: r => (f, x) :: runL (f + 1) r
  | _, none :: _ => []
  | _, [] => []
def holesL : Int → List (Option α) → List Int
  | f, some _ :: r => holesL (f + 1) r
  | f, none :: r => f :: holesL (f + 1) r
  | _, [] => []
theorem allL_length : ∀ (l : List (Option α)) (f : Int), (allL f l).length = cnt l
  | [], _ => rfl
  | some _ :: r, f => by simp only [allL, cnt, List.length_cons, allL_length r]
  | none :: r, f => by simp only [allL, cnt, allL_length r]
theorem runL_length : ∀ (l : List (Option α)) (f : Int), (runL f l).length = nxt l
  | [], _ => rfl
  | some _ :: r, f => by simp only [runL, nxt, List.length_cons, runL_length r]
  | none :: r, f => rfl
theorem holesL_length : ∀ (l : List (Option α)) (f : Int), (holesL f l).length + cnt l = l.length
  | [], _ => rfl
  | some _ :: r, f => by have := holesL_length r (f + 1); simp only [holesL, cnt, List.length_cons]; omega
  | none :: r, f => by have := holesL_length r (f + 1); simp only [holesL, cnt, List.length_cons]; omega
theorem allL_at : ∀ (l : List (Option α)) (f : Int) (k : Nat) (x : α), l[k]? = some (some x) → (allL f l)[cnt (l.take k)]? = some (f + k, x)
  | some y :: r, f, 0, x, h => by simp at h; subst h; simp [allL, cnt]
  | some y :: r, f, k + 1, x, h => by
    have := allL_at r (f + 1) k x (by simpa using h)
    simp only [List.take_succ_cons, cnt, allL, List.getElem?_cons_succ]
    rw [this]; congr 2; omega
  | none :: r, f, 0, x, h => by simp at h
  | none :: r, f, k + 1, x, h => by
    have := allL_at r (f + 1) k x (by simpa using h)
    simp only [List.take_succ_cons, cnt, allL]
    rw [this]; congr 2; omega
  | [], _, _, _, h => by simp at h
theorem allL_get : ∀ (l : List (Option α)) (f : Int) (j : Nat) (p : Int × α), (allL f l)[j]? = some p → ∃ k : Nat, p.1 = f + k ∧ l[k]? = some (some p.2) ∧ cnt (l.take k) = j
  | some y :: r, f, 0, p, h => by simp only [allL, List.getElem?_cons_zero, Option.some.injEq] at h; subst h; exact ⟨0, by simp, rfl, rfl⟩
  | some y :: r, f, j + 1, p, h => by
    simp only [allL, List.getElem?_cons_succ] at h
    obtain ⟨k, h1, h2, h3⟩ := allL_get r (f + 1) j p h
    exact ⟨k + 1, by rw [h1]; omega, by simpa using h2, by simp only [List.take_succ_cons, cnt, h3]⟩
  | none :: r, f, j, p, h => by
    simp only [allL] at h
    obtain ⟨k, h1, h2, h3⟩ := allL_get r (f + 1) j p h
    exact ⟨k + 1, by rw [h1]; omega, by simpa using h2, by simp only [List.take_succ_cons, cnt, h3]⟩
  | [], _, _, _, h => by simp [allL] at h
theorem runL_at : ∀ (l : List (Option α)) (f : Int) (k : Nat), k < nxt l → (runL f l)[k]? = (allL f l)[k]? ∧ ∃ x, (runL f l)[k]? = some (f + k, x) ∧ l[k]? = some (some x)
  | some y :: r, f, 0, _ => by simp [runL, allL]
  | some y :: r, f, k + 1, h => by
    simp only [nxt] at h
    obtain ⟨h1, x, h2, h3⟩ := runL_at r (f + 1) k (by omega)
    simp only [runL, allL, List.getElem?_cons_succ]
    exact ⟨h1, x, by rw [h2]; congr 2; omega, h3⟩
  | none :: _, _, _, h => by simp [nxt] at h
  | [], _, _, h => by simp [nxt] at h
theorem holesL_at : ∀ (l : List (Option α)) (f : Int) (k : Nat), l[k]? = some none → (holesL f l)[k - cnt (l.take k)]? = some (f + k)
  | none :: r, f, 0, _ => by simp [holesL]
  | none :: r, f, k + 1, h => by
    have := holesL_at r (f + 1) k (by simpa using h)
    have hc := cnt_le (r.take k)
    have hl : (r.take k).length ≤ k := by simp; omega
    simp only [List.take_succ_cons, cnt, holesL, show k + 1 - cnt (r.take k) = (k - cnt (r.take k)) + 1 by omega, List.getElem?_cons_succ]
    rw [this]; congr 1; omega
  | some y :: r, f, 0, h => by simp at h
  | some y :: r, f, k + 1, h => by
    have := holesL_at r (f + 1) k (by simpa using h)
    simp only [List.take_succ_cons, cnt, holesL, show k + 1 - (cnt (r.take k) + 1) = k - cnt (r.take k) by omega]
    rw [this]; congr 1; omega
  | [], _, _, h => by simp at h
theorem holesL_get : ∀ (l : List (Option α)) (f : Int) (j : Nat) (p : Int), (holesL f l)[j]? = some p → ∃ k : Nat, p = f + k ∧ l[k]? = some none ∧ k = cnt (l.take k) + j
  | none :: r, f, 0, p, h => by simp only [holesL, List.getElem?_cons_zero, Option.some.injEq] at h; subst h; exact ⟨0, by simp, rfl, rfl⟩
  | none :: r, f, j + 1, p, h => by
    simp only [holesL, List.getElem?_cons_succ] at h
    obtain ⟨k, h1, h2, h3⟩ := holesL_get r (f + 1) j p h
    exact ⟨k + 1, by rw [h1]; omega, by simpa using h2, by simp only [List.take_succ_cons, cnt]; omega⟩
  | some _ :: r, f, j, p, h => by
    simp only [holesL] at h
    obtain ⟨k, h1, h2, h3⟩ := holesL_get r (f + 1) j p h
    exact ⟨k + 1, by rw [h1]; omega, by simpa using h2, by simp only [List.take_succ_cons, cnt]; omega⟩
  | [], _, _, _, h => by simp [holesL] at h
/-- where the last one is filled, nothing is left behind the last filled one -/
theorem cnt_whole {l : List (Option α)} (hl : ∀ x, l[l.length - 1]? = some x → x.isSome = true) {q : Nat} (hq : q ≤ l.length) (h : cnt (l.take q) = cnt l) : q = l.length := by
  by_cases e : q = l.length
  · exact e
  · have h1 : l.length - 1 < l.length := by omega
    have h2 := hl l[l.length - 1] (by simp [h1])
    have h3 := cnt_take_succ (l := l) (k := l.length - 1) (o := l[l.length - 1]) (by simp [h1])
    rw [h2, if_pos rfl, show l.length - 1 + 1 = l.length by omega, List.take_length] at h3
    have h4 := cnt_take_mono l (a := q) (b := l.length - 1) (by omega)
    omega
end Go.Proofs.Ytpaciknmmceehaa.Sx
