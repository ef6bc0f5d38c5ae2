/- The document's clock: Names. No condition. -/
import Derived.Test.YtoganfdpaagomaaClockRefTick
namespace Go.Proofs.Ytoganfdpaagomaa
open Go.ChangeShapes Go.WideShapes Go.ChangeAt Go.RowKit Cm
set_option linter.unusedVariables false

/-- those that are due up to a time, in their order -/
def upTo (r : List Tm) (x : Int) : List Tm := (srt r).filter fun t => decide (t.due ≤ x)
theorem srt_eqs {r : List Tm} (hr : r.Pairwise fun a b => a.turn < b.turn) (x : Int) : (srt r).filter (nowDue x) = dueL x r := by
  have p : ((srt r).filter (nowDue x)).Perm (dueL x r) := (srt_perm r).filter _
  refine List.Perm.eq_of_pairwise (le := fun a b => a.turn ≤ b.turn) (fun a b ha hb h1 h2 => ?_) ?_ ?_ p
  · exact turn_inj hr ((srt_perm r).mem_iff.1 (List.mem_filter.1 ha).1) (List.mem_filter.1 hb).1 (by omega)
  · have h1 := (srt_sorted r).filter (nowDue x)
    refine List.Pairwise.imp_of_mem (fun {a b} ha hb h => ?_) h1
    have e1 := (List.mem_filter.1 ha).2
    have e2 := (List.mem_filter.1 hb).2
    simp [nowDue] at e1 e2
    simp only [lt, decide_eq_false_iff_not] at h
    omega
  · exact (hr.filter _).imp (fun h => by omega)
theorem split_at : ∀ (l : List Tm), l.Pairwise (fun a b => a.due ≤ b.due) → ∀ (x y : Int), x < y → (∀ t ∈ l, x < t.due → y ≤ t.due) → l.filter (fun t => decide (t.due ≤ y)) = l.filter (fun t => decide (t.due ≤ x)) ++ l.filter (nowDue y)
  | [], _, _, _, _, _ => rfl
  | t :: q, hp, x, y, hxy, hm => by
    obtain ⟨h1, h2⟩ := List.pairwise_cons.1 hp
    have ih := split_at q h2 x y hxy (fun u hu => hm u (by simp [hu]))
    by_cases hx : t.due ≤ x
    · rw [List.filter_cons_of_pos (by simp; omega), List.filter_cons_of_pos (by simpa using hx), List.filter_cons_of_neg (by simp [nowDue]; omega), ih]
      rfl
    · have e1 : (t :: q).filter (fun t => decide (t.due ≤ x)) = [] := by
        rw [List.filter_eq_nil_iff]
        intro u hu
        rcases List.mem_cons.1 hu with rfl | hu
        · simpa using hx
        · have := h1 u hu
          simp; omega
      rw [e1, List.nil_append]
      apply List.filter_congr
      intro u hu
      have hu2 : x < u.due := by
        rcases List.mem_cons.1 hu with rfl | hu
        · omega
        · have := h1 u hu; omega
      have := hm u hu hu2
      simp [nowDue]
      omega
theorem due_sorted (r : List Tm) : (srt r).Pairwise (fun a b => a.due ≤ b.due) := (srt_sorted r).imp (fun {a b} h => by simp only [lt, decide_eq_false_iff_not] at h; omega)
theorem upTo_next {r : List Tm} (hr : r.Pairwise fun a b => a.turn < b.turn) {x y : Int} (hxy : x < y) (hm : ∀ t ∈ r, x < t.due → y ≤ t.due) : upTo r y = upTo r x ++ dueL y r := by
  unfold upTo
  rw [split_at (srt r) (due_sorted r) x y hxy (fun t ht => hm t ((srt_perm r).mem_iff.1 ht)), srt_eqs hr]
theorem upTo_zero {r : List Tm} (h : ∀ t ∈ r, 0 < t.due) : upTo r 0 = [] := by
  unfold upTo
  rw [List.filter_eq_nil_iff]
  intro t ht
  have := h t ((srt_perm r).mem_iff.1 ht)
  simp; omega
theorem upTo_len (r : List Tm) (x : Int) : (upTo r x).length ≤ r.length ∧ ((upTo r x).length = r.length → upTo r x = srt r) ∧ ((upTo r x).length < r.length → ∃ t ∈ r, x < t.due) := by
  have hl := (srt_perm r).length_eq
  refine ⟨by rw [← hl]; exact List.length_filter_le _ _, fun h => ?_, fun h => ?_⟩
  · have : (srt r).filter (fun t => decide (t.due ≤ x)) = srt r := by
      rw [List.filter_eq_self]
      rw [← hl] at h
      exact List.length_filter_eq_length_iff.1 h
    exact this
  · rw [← hl] at h
    obtain ⟨t, ht, h2⟩ := List.length_filter_lt_length_iff_exists.1 h
    exact ⟨t, (srt_perm r).mem_iff.1 ht, by simpa using h2⟩
/-- the least time behind x, as far as it was looked for; 0: none yet -/
def Nxt (l : List Tm) (x n : Int) : Prop := (n = 0 ∧ ∀ t ∈ l, ¬ x < t.due) ∨ (x < n ∧ (∃ t ∈ l, t.due = n) ∧ ∀ t ∈ l, x < t.due → n ≤ t.due)
theorem nxt_snoc {l : List Tm} {x n : Int} {t : Tm} (h : Nxt l x n) (hx : 0 ≤ x) : Nxt (l ++ [t]) x (if x < t.due ∧ (n = 0 ∨ t.due < n) then t.due else n) := by
  by_cases h1 : x < t.due
  · by_cases h2 : n = 0 ∨ t.due < n
    · rw [if_pos ⟨h1, h2⟩]
      refine .inr ⟨h1, ⟨t, by simp, rfl⟩, fun u hu hxu => ?_⟩
      rcases List.mem_append.1 hu with hu | hu
      · rcases h with ⟨e, h⟩ | ⟨h3, h4, h5⟩
        · exact absurd hxu (h u hu)
        · have := h5 u hu hxu
          rcases h2 with h2 | h2
          · omega
          · omega
      · rw [List.mem_singleton.1 hu]; exact Int.le_refl _
    · rw [if_neg (fun hh => h2 hh.2)]
      rcases h with ⟨e, h⟩ | ⟨h3, ⟨u, hu, eu⟩, h5⟩
      · exact absurd (.inl e) h2
      · refine .inr ⟨h3, ⟨u, by simp [hu], eu⟩, fun v hv hxv => ?_⟩
        rcases List.mem_append.1 hv with hv | hv
        · exact h5 v hv hxv
        · rw [List.mem_singleton.1 hv]
          have : ¬ t.due < n := fun hh => h2 (.inr hh)
          omega
  · rw [if_neg (fun hh => h1 hh.1)]
    rcases h with ⟨e, h⟩ | ⟨h3, ⟨u, hu, eu⟩, h5⟩
    · refine .inl ⟨e, fun v hv => ?_⟩
      rcases List.mem_append.1 hv with hv | hv
      · exact h v hv
      · rw [List.mem_singleton.1 hv]; exact h1
    · refine .inr ⟨h3, ⟨u, by simp [hu], eu⟩, fun v hv hxv => ?_⟩
      rcases List.mem_append.1 hv with hv | hv
      · exact h5 v hv hxv
      · rw [List.mem_singleton.1 hv] at hxv
        exact absurd hxv h1
/-- how many are still to come -/
def left (r : List Tm) (x : Int) : Nat := (r.filter fun t => decide (x < t.due)).length
theorem left_lt {r : List Tm} {x y : Int} (hxy : x < y) (h : ∃ t ∈ r, t.due = y) : left r y < left r x := by
  obtain ⟨t, ht, e⟩ := h
  unfold left
  have e1 : (r.filter fun t => decide (y < t.due)) = (r.filter fun t => decide (x < t.due)).filter fun t => decide (y < t.due) := by
    rw [List.filter_filter]
    apply List.filter_congr
    intro u _
    simp
    omega
  rw [e1]
  exact List.length_filter_lt_length_iff_exists.2 ⟨t, List.mem_filter.2 ⟨ht, by simp; omega⟩, by simp; omega⟩
end Go.Proofs.Ytoganfdpaagomaa
