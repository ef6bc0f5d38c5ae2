/- The document's log as a list in no order, held against the places: what its calls answer. No condition. -/
import Derived.Test.YtcbijiielikfmaaSlotsMath
import Derived.Test.YtcbijiielikfmaaSlotsWinMath
namespace Go.Proofs.Ytcbijiielikfmaa.Sx
variable {α : Type}
/-- the list hs has just the places that are filled, each once -/
structure Rel (s : Ss α) (hs : List (Int × α)) : Prop where
  nd : (hs.map (·.1)).Nodup
  iff : ∀ i x, (i, x) ∈ hs ↔ getV s i = some x
/-- the first of the list at a place -/
def look (hs : List (Int × α)) (i : Int) : Option α := (hs.find? (fun p => p.1 == i)).map (·.2)
theorem look_nil (i : Int) : look ([] : List (Int × α)) i = none := rfl
theorem look_of {s : Ss α} {hs : List (Int × α)} (h : Rel s hs) (i : Int) : look hs i = getV s i := by
  unfold look
  cases e : hs.find? (fun p => p.1 == i) with
  | none =>
    rw [List.find?_eq_none] at e
    cases g : getV s i with
    | none => rfl
    | some x => exact absurd (e _ ((h.iff i x).2 g)) (by simp)
  | some p =>
    have hm := List.mem_of_find?_eq_some e
    have hp : p.1 = i := by have := List.find?_some e; simpa using this
    subst hp
    exact ((h.iff p.1 p.2).1 hm).symm
theorem rel_new (f m : Int) : Rel (newS α f m) [] := ⟨by simp, fun i x => by simp [newS, getV]⟩
theorem nd_get {hs : List (Int × α)} (h : (hs.map (·.1)).Nodup) {a b : Nat} {p q : Int × α} (ha : hs[a]? = some p) (hb : hs[b]? = some q) (e : p.1 = q.1) : a = b := by
  have ha' : (hs.map (·.1))[a]? = some p.1 := by rw [List.getElem?_map, ha]; rfl
  have hb' : (hs.map (·.1))[b]? = some p.1 := by rw [List.getElem?_map, hb, e]; rfl
  obtain ⟨la, ea⟩ := List.getElem?_eq_some_iff.1 ha'
  obtain ⟨lb, eb⟩ := List.getElem?_eq_some_iff.1 hb'
  have hp := List.pairwise_iff_getElem.1 h
  rcases Nat.lt_trichotomy a b with hh | hh | hh
  · exact absurd (ea.trans eb.symm) (hp a b la lb hh)
  · exact hh
  · exact absurd (eb.trans ea.symm) (hp b a lb la hh)
/-- another place's Get is not turned by Put -/
theorem get_put_other {s : Ss α} (_ : Ok s) {i j : Int} {x : α} (h1 : ¬ i < s.first) (h2 : ¬ (s.most : Int) ≤ i - s.first) (hj : j ≠ i) : getV (putS s i x) j = getV s j := by
  have e : putS s i x = { s with ps := putL s.ps (i - s.first).toNat x } := by unfold putS; rw [if_neg (by omega)]
  rw [e]
  unfold getV
  by_cases hl : j < s.first
  · simp [hl]
  · rw [if_neg hl, if_neg (show ¬ j < s.first from hl)]
    show ((putL s.ps (i - s.first).toNat x)[(j - s.first).toNat]?).join = _
    rw [putL_get, if_neg (by omega)]
    split
    · rfl
    · rename_i hh
      rw [List.getElem?_eq_none (by omega)]
      split <;> rfl
theorem rel_put_new {s : Ss α} {hs : List (Int × α)} (ho : Ok s) (h : Rel s hs) {i : Int} {x : α} (h1 : ¬ i < s.first) (h2 : ¬ (s.most : Int) ≤ i - s.first) (hn : getV s i = none) : Rel (putS s i x) (hs ++ [(i, x)]) := by
  refine ⟨?_, fun j y => ?_⟩
  · rw [List.map_append, List.nodup_append]
    refine ⟨h.nd, by simp, fun a ha b hb => ?_⟩
    simp at hb
    subst hb
    rintro rfl
    obtain ⟨p, hp, e⟩ := List.mem_map.1 ha
    have := (h.iff p.1 p.2).1 hp
    rw [e, hn] at this
    cases this
  · rw [List.mem_append, h.iff]
    by_cases hj : j = i
    · subst hj
      rw [get_put ho h1 h2, hn]
      simp [eq_comm]
    · rw [get_put_other ho h1 h2 hj]
      simp [hj]
theorem rel_put_old {s : Ss α} {hs : List (Int × α)} (ho : Ok s) (h : Rel s hs) {i : Int} {x y : α} {k : Nat} (h1 : ¬ i < s.first) (h2 : ¬ (s.most : Int) ≤ i - s.first) (hk : hs[k]? = some (i, y)) : Rel (putS s i x) (hs.set k (i, x)) := by
  have kl := (List.getElem?_eq_some_iff.1 hk).1
  have em : (hs.set k (i, x)).map (·.1) = hs.map (·.1) := by
    rw [List.map_set]
    apply List.ext_getElem?
    intro j
    rw [List.getElem?_set]
    split
    · rename_i e
      subst e
      have e2 := (List.getElem?_eq_some_iff.1 hk).2
      simp [kl, e2]
    · rfl
  refine ⟨by rw [em]; exact h.nd, fun j z => ?_⟩
  by_cases hj : j = i
  · subst hj
    rw [get_put ho h1 h2]
    constructor
    · intro hm
      obtain ⟨q, hq⟩ := List.getElem?_of_mem hm
      have hk' : (hs.set k (j, x))[k]? = some (j, x) := by simp [kl]
      have := nd_get (by rw [em]; exact h.nd) hq hk' rfl
      subst this
      rw [hk'] at hq
      cases hq
      rfl
    · intro e
      cases e
      exact List.mem_of_getElem? (by simp [kl] : (hs.set k (j, x))[k]? = some (j, x))
  · rw [get_put_other ho h1 h2 hj, ← h.iff]
    constructor
    · intro hm
      obtain ⟨q, hq⟩ := List.getElem?_of_mem hm
      rw [List.getElem?_set] at hq
      split at hq
      · simp at hq
        exact absurd hq.1.symm hj
      · exact List.mem_of_getElem? hq
    · intro hm
      obtain ⟨q, hq⟩ := List.getElem?_of_mem hm
      refine List.mem_of_getElem? (i := q) ?_
      rw [List.getElem?_set, if_neg]
      · exact hq
      · rintro rfl
        rw [hk] at hq
        cases hq
        exact hj rfl
theorem get_cut {s : Ss α} {i : Int} (h : ¬ stays s i) (j : Int) : getV (cutS s i) j = if i ≤ j then getV s j else none := by
  have hs : s.first < i := by unfold stays at h; omega
  have e : cutS s i = { s with first := i, ps := s.ps.drop (cutB s i) } := by unfold cutS; rw [if_neg h]
  rw [e]
  unfold getV
  by_cases hj : i ≤ j
  · rw [if_pos hj]
    show (if j < i then none else ((s.ps.drop (cutB s i))[(j - i).toNat]?).join) = _
    rw [if_neg (by omega), if_neg (by omega), List.getElem?_drop]
    by_cases hl : (i - s.first).toNat ≤ s.ps.length
    · rw [show cutB s i + (j - i).toNat = (j - s.first).toNat by unfold cutB; omega]
    · rw [List.getElem?_eq_none (by unfold cutB; omega), List.getElem?_eq_none (by omega)]
  · rw [if_neg hj]
    show (if j < i then none else _) = none
    rw [if_pos (by omega)]
theorem rel_cut {s : Ss α} {hs : List (Int × α)} (h : Rel s hs) {i : Int} (hn : ¬ stays s i) : Rel (cutS s i) (hs.filter (fun p => decide (i ≤ p.1))) := by
  refine ⟨(List.Sublist.map _ (List.filter_sublist)).nodup h.nd, fun j x => ?_⟩
  rw [List.mem_filter, get_cut hn, h.iff]
  by_cases hj : i ≤ j <;> simp [hj]
theorem allL_mem {l : List (Option α)} {f : Int} {p : Int × α} : p ∈ allL f l ↔ ∃ k : Nat, p.1 = f + k ∧ l[k]? = some (some p.2) := by
  constructor
  · intro h
    obtain ⟨j, hj⟩ := List.getElem?_of_mem h
    obtain ⟨k, h1, h2, _⟩ := allL_get l f j p hj
    exact ⟨k, h1, h2⟩
  · rintro ⟨k, h1, h2⟩
    have := allL_at l f k p.2 h2
    rw [← h1] at this
    exact List.mem_of_getElem? this
theorem allL_low : ∀ (l : List (Option α)) (f : Int) (p : Int × α), p ∈ allL f l → f ≤ p.1 := fun l f p h => by
  obtain ⟨k, h1, _⟩ := allL_mem.1 h
  omega
theorem allL_nd : ∀ (l : List (Option α)) (f : Int), (allL f l).Nodup
  | [], f => by simp [allL]
  | none :: l, f => by simpa [allL] using allL_nd l (f + 1)
  | some x :: l, f => by
    have e : allL f (some x :: l) = (f, x) :: allL (f + 1) l := rfl
    rw [e, List.nodup_cons]
    refine ⟨fun h => ?_, allL_nd l (f + 1)⟩
    have := allL_low _ _ _ h
    simp at this
    omega
theorem getV_some {s : Ss α} {i : Int} {x : α} : getV s i = some x ↔ ∃ k : Nat, i = s.first + k ∧ s.ps[k]? = some (some x) := by
  unfold getV
  constructor
  · intro h
    split at h
    · cases h
    · refine ⟨(i - s.first).toNat, by omega, ?_⟩
      cases e : s.ps[(i - s.first).toNat]? with
      | none => rw [e] at h; cases h
      | some o => rw [e] at h; simp at h; rw [h]
  · rintro ⟨k, rfl, h⟩
    rw [if_neg (by omega), show (s.first + (k : Int) - s.first).toNat = k by omega, h]
    rfl
theorem rel_len {s : Ss α} {hs : List (Int × α)} (h : Rel s hs) : hs.length = cnt s.ps := by
  have n1 : hs.Nodup := by
    have := h.nd
    exact List.Pairwise.of_map (S := (· ≠ ·)) (·.1) (fun a b hab e => hab (by rw [e])) this
  have p : hs.Perm (allL s.first s.ps) := (List.perm_ext_iff_of_nodup n1 (allL_nd _ _)).2 fun q => by
    rw [allL_mem]
    exact (h.iff q.1 q.2).trans getV_some
  rw [p.length_eq, allL_length]
end Go.Proofs.Ytcbijiielikfmaa.Sx
