/- The document's box, a list of pieces in the order in which they came, against a box by numbers. No Go in sight. -/
import Derived.Test.YtanfmpeblhegpaaDoorChuMath
namespace Go.Proofs.YtanfmpeblhegpaaDoor
namespace Ck
set_option linter.unusedVariables false

theorem put_len (ps : List (Int × List Int)) (k : Int) (b : List Int) : (put ps k b).length = (ps.filter (fun u => decide (u.1 < k))).length + (ps.filter (fun u => decide (k < u.1))).length + 1 := by
  simp only [put, List.length_append, List.length_cons]
  omega
theorem put_len_ge {ps : List (Int × List Int)} (h : ps.Pairwise (fun a b => a.1 < b.1)) (k : Int) (b : List Int) : ps.length ≤ (put ps k b).length := by
  rw [put_len]
  induction ps with
  | nil => simp
  | cons q r ih =>
    obtain ⟨h1, h2⟩ := List.pairwise_cons.1 h
    have := ih h2
    simp only [List.filter_cons, List.length_cons]
    rcases Int.lt_trichotomy q.1 k with e | e | e
    · rw [if_pos (by simpa using e), if_neg (by simp; omega)]
      simp only [List.length_cons]
      omega
    · have hf : r.filter (fun u => decide (k < u.1)) = r := List.filter_eq_self.2 (fun u hu => by have := h1 u hu; simp; omega)
      rw [if_neg (by simp; omega), if_neg (by simp; omega), hf]
      omega
    · rw [if_neg (by simp; omega), if_pos (by simpa using e)]
      simp only [List.length_cons]
      omega
theorem put_len_new {ps : List (Int × List Int)} {k : Int} (b : List Int) (h : ∀ q ∈ ps, q.1 ≠ k) : (put ps k b).length = ps.length + 1 := by
  rw [put_len]
  induction ps with
  | nil => simp
  | cons q r ih =>
    have h1 := ih (fun u hu => h u (by simp [hu]))
    have h2 := h q (by simp)
    simp only [List.filter_cons, List.length_cons]
    rcases Int.lt_trichotomy q.1 k with e | e | e
    · rw [if_pos (by simpa using e), if_neg (by simp; omega)]
      simp only [List.length_cons]
      omega
    · exact absurd e h2
    · rw [if_neg (by simp; omega), if_pos (by simpa using e)]
      simp only [List.length_cons]
      omega
/-- the first place at which a piece of this number stands -/
def hasI (L : List Pc) (k : Int) : Option Nat := L.findIdx? (fun p => decide (p.k = k))
def hasV (L : List Pc) (k : Int) : Int := match hasI L k with | none => -1 | some i => (i : Int)
/-- the list has just what the box has -/
structure Rl (s : Bx) (L : List Pc) : Prop where
  nil : L = [] ↔ s.ps = []
  all : ∀ p ∈ L, p.of = s.of ∧ p.sum = s.sum ∧ lookP s.ps p.k = some p.b
  ex : ∀ k b, lookP s.ps k = some b → ∃ p ∈ L, p.k = k
  ok : Ok s
  len : L.length ≤ s.ps.length
theorem rl_new : Rl newS [] := ⟨⟨fun _ => rfl, fun _ => rfl⟩, fun p hp => absurd hp (by simp), fun k b h => by simp [lookP, newS] at h, ok_new, Nat.le_refl _⟩
section
variable {s : Bx} {L : List Pc}
theorem hasI_none {k : Int} : hasI L k = none ↔ ∀ p ∈ L, p.k ≠ k := by
  unfold hasI
  rw [List.findIdx?_eq_none_iff]
  simp
theorem hasI_some {k : Int} {i : Nat} (h : hasI L k = some i) : ∃ p, L[i]? = some p ∧ p.k = k := by
  unfold hasI at h
  obtain ⟨hi, h1, _⟩ := List.findIdx?_eq_some_iff_getElem.1 h
  exact ⟨L[i], List.getElem?_eq_getElem hi, by simpa using h1⟩
theorem rl_look (h : Rl s L) (k : Int) : lookP s.ps k = none ↔ hasI L k = none := by
  rw [hasI_none]
  constructor
  · intro e p hp ek
    have := (h.all p hp).2.2
    rw [ek, e] at this
    cases this
  · intro e
    cases hl : lookP s.ps k with
    | none => rfl
    | some b =>
      obtain ⟨p, hp, ek⟩ := h.ex k b hl
      exact absurd ek (e p hp)
theorem rl_fits (h : Rl s L) (p : Pc) : fitsB s p = decide (∀ q ∈ L, q.of = p.of ∧ q.sum = p.sum ∧ (q.k = p.k → q.b = p.b)) := by
  unfold fitsB
  rw [decide_eq_decide]
  constructor
  · rintro (e | ⟨e1, e2, e3⟩) q hq
    · rw [(h.nil).2 e] at hq
      simp at hq
    · obtain ⟨h1, h2, h3⟩ := h.all q hq
      refine ⟨h1.trans e1, h2.trans e2, fun ek => ?_⟩
      rw [ek] at h3
      rcases e3 with e3 | e3
      · rw [e3] at h3; cases h3
      · rw [e3] at h3; exact (Option.some.inj h3).symm
  · intro e
    cases hL : L with
    | nil => exact .inl (h.nil.1 hL)
    | cons q r =>
      have hq : q ∈ L := by rw [hL]; simp
      obtain ⟨h1, h2, _⟩ := h.all q hq
      obtain ⟨e1, e2, _⟩ := e q hq
      refine .inr ⟨h1.symm.trans e1, h2.symm.trans e2, ?_⟩
      cases hl : lookP s.ps p.k with
      | none => exact .inl rfl
      | some b =>
        obtain ⟨u, hu, ek⟩ := h.ex _ b hl
        have h3 := (h.all u hu).2.2
        rw [ek, hl] at h3
        have h4 := (e u hu).2.2 ek
        rw [← h4, Option.some.inj h3]
        exact .inr rfl
/-- what the list is behind a Put that is taken -/
def addL (L : List Pc) (p : Pc) : List Pc := if hasI L p.k = none then L ++ [p] else L
theorem rl_put (h : Rl s L) {p : Pc} (hs : 0 ≤ p.sum ∧ p.sum ≤ 4294967295) (he : putE s p = 0) : Rl (putS s p) (addL L p) := by
  have hok := ok_put h.ok hs
  have e2 : putS s p = ⟨p.of, p.sum, put s.ps p.k p.b⟩ := by simp [putS, he]
  have hf := of_decide_eq_true (putE_zero.1 he).2
  rw [e2] at hok ⊢
  have old : ∀ q ∈ L, q.of = p.of ∧ q.sum = p.sum ∧ lookP (put s.ps p.k p.b) q.k = some q.b := fun q hq => by
    obtain ⟨h1, h2, h3⟩ := h.all q hq
    rcases hf with hf | ⟨f1, f2, f3⟩
    · rw [h.nil.2 hf] at hq; simp at hq
    · refine ⟨h1.trans f1, h2.trans f2, ?_⟩
      rw [look_put h.ok.sorted]
      by_cases ek : q.k = p.k
      · rw [if_pos ek]
        rw [ek] at h3
        rcases f3 with f3 | f3
        · rw [f3] at h3; cases h3
        · rw [f3] at h3; exact h3
      · rw [if_neg ek]; exact h3
  have me : lookP (put s.ps p.k p.b) p.k = some p.b := by rw [look_put h.ok.sorted, if_pos rfl]
  have ne : put s.ps p.k p.b ≠ [] := fun e => by
    have : (p.k, p.b) ∈ put s.ps p.k p.b := mem_put.2 (.inl rfl)
    rw [e] at this
    simp at this
  unfold addL
  split
  · rename_i hn
    refine ⟨⟨fun e => absurd e (by simp), fun e => absurd e ne⟩, fun q hq => ?_, fun k b hl => ?_, hok, ?_⟩
    · have : q ∈ L ∨ q = p := by simpa using hq
      rcases this with hq | rfl
      · exact old q hq
      · exact ⟨rfl, rfl, me⟩
    · simp only at hl
      rw [look_put h.ok.sorted] at hl
      split at hl
      · rename_i ek
        exact ⟨p, by simp, ek.symm⟩
      · obtain ⟨q, hq, ek⟩ := h.ex k b hl
        exact ⟨q, by simp [hq], ek⟩
    · have hl := put_len_new p.b (look_none.1 ((rl_look h p.k).2 hn))
      have := h.len
      simp only [List.length_append, List.length_cons, List.length_nil]
      show _ ≤ (put s.ps p.k p.b).length
      omega
  · rename_i hn
    have hn2 : ∃ q ∈ L, q.k = p.k := Classical.byContradiction fun hc => hn (hasI_none.2 (fun q hq ek => hc ⟨q, hq, ek⟩))
    refine ⟨⟨fun e => ?_, fun e => absurd e ne⟩, old, fun k b hl => ?_, hok, Nat.le_trans h.len (put_len_ge h.ok.sorted p.k p.b)⟩
    · obtain ⟨q, hq, _⟩ := hn2
      rw [e] at hq
      simp at hq
    · simp only at hl
      rw [look_put h.ok.sorted] at hl
      split at hl
      · rename_i ek
        obtain ⟨q, hq, e3⟩ := hn2
        exact ⟨q, hq, e3.trans ek.symm⟩
      · exact h.ex k b hl
end
end Ck
end Go.Proofs.YtanfmpeblhegpaaDoor
