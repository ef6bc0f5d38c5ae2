/- The next slot that is voted for, and the best of the backed votes, as plain lists. No condition. -/
import Derived.Test.YtjhkenmlaammnaaChoRefOpen
import Derived.Test.YtjhkenmlaammnaaChoAlike
namespace Go.Proofs.Ytjhkenmlaammnaa
open Go.ChangeShapes Go.WideShapes Go.ChangeAt Go.RowKit Go.Shelf B8 Am Cz
set_option linter.unusedVariables false

/-- the least slot above last so far -/
def nx (last t s : Int) : Int := if last < s ∧ (t = 0 ∨ s < t) then s else t
def nxF (last : Int) (vs : List Vt) : Int := vs.foldl (fun t v => nx last t v.s) 0
def NxP (last t : Int) (vs : List Vt) : Prop := (t = 0 ∧ ∀ v ∈ vs, ¬ last < v.s) ∨ ((∃ v ∈ vs, v.s = t) ∧ last < t ∧ 1 ≤ t ∧ ∀ v ∈ vs, last < v.s → t ≤ v.s)
theorem nx_step {last t : Int} {vs : List Vt} {v : Vt} (h : NxP last t vs) (hv : 1 ≤ v.s) : NxP last (nx last t v.s) (vs ++ [v]) := by
  unfold nx
  rcases h with ⟨rfl, h1⟩ | ⟨⟨u, hu, e⟩, h2, h3, h4⟩
  · by_cases hl : last < v.s
    · rw [if_pos ⟨hl, .inl rfl⟩]
      refine .inr ⟨⟨v, by simp, rfl⟩, hl, hv, fun x hx hlx => ?_⟩
      have : x ∈ vs ∨ x = v := by simpa using hx
      rcases this with hx | rfl
      · exact absurd hlx (h1 x hx)
      · omega
    · rw [if_neg (fun x => hl x.1)]
      refine .inl ⟨rfl, fun x hx => ?_⟩
      have : x ∈ vs ∨ x = v := by simpa using hx
      rcases this with hx | rfl
      · exact h1 x hx
      · exact hl
  · by_cases hl : last < v.s ∧ (t = 0 ∨ v.s < t)
    · rw [if_pos hl]
      refine .inr ⟨⟨v, by simp, rfl⟩, hl.1, hv, fun x hx hlx => ?_⟩
      have : x ∈ vs ∨ x = v := by simpa using hx
      rcases this with hx | rfl
      · have := h4 x hx hlx; omega
      · omega
    · rw [if_neg hl]
      refine .inr ⟨⟨u, by simp [hu], e⟩, h2, h3, fun x hx hlx => ?_⟩
      have : x ∈ vs ∨ x = v := by simpa using hx
      rcases this with hx | rfl
      · exact h4 x hx hlx
      · by_cases h5 : t ≤ x.s
        · exact h5
        · exact absurd ⟨hlx, .inr (by omega)⟩ hl
/-- the last slot of the first j -/
def lastK (ky : List Int) (j : Nat) : Int := match j with
  | 0 => 0
  | j + 1 => ky[j]?.getD 0
/-- behind j slots the next one is the j-th, or there is none -/
theorem next_key {n : Int} {l : List Pr} (hr : rightB n l = true) {j : Nat} (hj : j ≤ (keysV l).length) {t : Int} (h : NxP (lastK (keysV l) j) t (l.flatMap (·.vs))) :
    ((keysV l)[j]? = some t ∧ 1 ≤ t ∧ lastK (keysV l) j < t) ∨ (t = 0 ∧ (keysV l).length = j) := by
  have ks := keys_sorted l
  have mk : ∀ x, x ∈ keysV l ↔ ∃ v ∈ l.flatMap (·.vs), v.s = x := fun x => by
    rw [mem_keys]
    constructor
    · rintro ⟨v, hv, e⟩
      obtain ⟨p, hp, hv⟩ := (mem_all hr).1 hv
      exact ⟨v, List.mem_flatMap.2 ⟨p, hp, hv⟩, e⟩
    · rintro ⟨v, hv, e⟩
      obtain ⟨p, hp, hv⟩ := List.mem_flatMap.1 hv
      exact ⟨v, (mem_all hr).2 ⟨p, hp, hv⟩, e⟩
  have lo : ∀ x ∈ keysV l, 1 ≤ x := fun x hx => by
    obtain ⟨v, hv, rfl⟩ := mem_keys.1 hx
    exact (all_ok hr hv).1
  generalize keysV l = ky at *
  have below : ∀ (i : Nat) (x : Int), ky[i]? = some x → (lastK ky j < x ↔ j ≤ i) := fun i x hx => by
    obtain ⟨hi, e⟩ := List.getElem?_eq_some_iff.1 hx
    cases j with
    | zero =>
      have := lo x (List.mem_of_getElem? hx)
      simp only [lastK]
      omega
    | succ j =>
      have hj' : j < ky.length := by omega
      have el : lastK ky (j + 1) = ky[j] := by simp [lastK, List.getElem?_eq_getElem hj']
      rw [el, ← e]
      constructor
      · intro h1
        by_cases h2 : j + 1 ≤ i
        · exact h2
        · exfalso
          by_cases h3 : i = j
          · subst h3; omega
          · have := (List.pairwise_iff_getElem.1 ks) i j hi hj' (by omega)
            omega
      · intro h1
        exact (List.pairwise_iff_getElem.1 ks) j i hj' hi (by omega)
  by_cases hlt : j < ky.length
  · have hx : ky[j]? = some ky[j] := List.getElem?_eq_getElem hlt
    have hgt := (below j _ hx).2 (Nat.le_refl _)
    obtain ⟨v, hv, e⟩ := (mk _).1 (List.getElem_mem hlt)
    rcases h with ⟨rfl, h1⟩ | ⟨⟨u, hu, e2⟩, h2, h3, h4⟩
    · exact absurd (by rw [e]; exact hgt) (h1 v hv)
    · refine .inl ⟨?_, h3, h2⟩
      rw [hx]
      have a1 : t ≤ ky[j] := by rw [← e]; exact h4 v hv (by rw [e]; exact hgt)
      obtain ⟨i, hi, e3⟩ := List.getElem_of_mem ((mk t).2 ⟨u, hu, e2⟩)
      have a2 : j ≤ i := (below i t (by rw [← e3]; exact List.getElem?_eq_getElem hi)).1 h2
      by_cases a3 : i = j
      · subst a3; rw [e3]
      · have := (List.pairwise_iff_getElem.1 ks) j i hlt hi (by omega)
        exfalso
        omega
  · rcases h with ⟨rfl, h1⟩ | ⟨⟨u, hu, e2⟩, h2, h3, h4⟩
    · exact .inr ⟨rfl, by omega⟩
    · obtain ⟨i, hi, e3⟩ := List.getElem_of_mem ((mk t).2 ⟨u, hu, e2⟩)
      have a2 : j ≤ i := (below i t (by rw [← e3]; exact List.getElem?_eq_getElem hi)).1 h2
      omega
theorem lastK_next {ky : List Int} {j : Nat} {t : Int} (h : ky[j]? = some t) : lastK ky (j + 1) = t := by simp [lastK, h]
/-- a vote that is backed is taken, if it is better -/
theorem back_take {fl : List Vv} {k : Nat} {v : Vv} {q : Int} {cur : Option Vv} (hv : fl[k]? = some v) (h : ((fl.take k).filter (fun v => decide (q ≤ (aliN (fl.map Vv.vt) v.vt : Int)))).foldl pickP none = cur) :
    ((fl.take (k + 1)).filter (fun v => decide (q ≤ (aliN (fl.map Vv.vt) v.vt : Int)))).foldl pickP none = if q ≤ (aliN (fl.map Vv.vt) v.vt : Int) then pickP cur v else cur := by
  rw [take_snoc hv, List.filter_append]
  by_cases hq : q ≤ (aliN (fl.map Vv.vt) v.vt : Int)
  · rw [List.filter_cons_of_pos (by simpa using hq), List.foldl_append, h, if_pos hq]
    rfl
  · rw [List.filter_cons_of_neg (by simpa using hq), List.filter_nil, List.append_nil, h, if_neg hq]
end Go.Proofs.Ytjhkenmlaammnaa
