/- What a split and a merge make of a map, plainly. No condition. -/
import Derived.Test.YthfjndlmihepbaaRgLaw
import Derived.Test.YthfjndlmihepbaaRgRight
import Derived.Test.YthfjndlmihepbaaRgRefMerge
namespace Go.Proofs.Ythfjndlmihepbaa
open Rg
set_option linter.unusedVariables false

/-- a map, part by part -/
structure Mp (l : List Pc) : Prop where
  one : 1 ≤ l.length
  few : l.length < 8
  zero : ∀ p : Pc, l[0]? = some p → p.k = none0
  may : ∀ (j : Nat) (p : Pc), l[j]? = some p → mayB p = true
  grp : ∀ (i j : Nat) (p r : Pc), i < j → l[i]? = some p → l[j]? = some r → ¬ p.g = r.g
  up : ∀ (j : Nat) (p r : Pc), l[j]? = some p → l[j + 1]? = some r → ltB p.k r.k = true
theorem of_none {l : List Pc} {g : Int} (h : ofB l g = false) {i : Nat} {p : Pc} (hp : l[i]? = some p) : ¬ p.g = g := by
  unfold ofB ofO at h
  cases e : firstO (grpAt l g) l.length with
  | some q => rw [e] at h; cases h
  | none =>
    have := first_no e i (List.getElem?_eq_some_iff.1 hp).1
    rw [grpAt_at hp] at this
    exact of_decide_eq_false this
theorem of_free {l : List Pc} {g : Int} (h : ∀ (i : Nat) (p : Pc), l[i]? = some p → ¬ p.g = g) : ofB l g = false := by
  unfold ofB ofO
  rw [first_none (fun j hj => by
    rw [grpAt_at (List.getElem?_eq_getElem hj)]
    exact decide_eq_false (h j _ (List.getElem?_eq_getElem hj)))]
  rfl
theorem mp_of {l : List Pc} (h : rightB l = true) : Mp l := by
  obtain ⟨h1, h2, _, _⟩ := right_parts h
  refine ⟨h1, h2, fun p hp => right_zero h hp, fun j p hp => (right_at h hp).1, fun i j p r hij hp hr e => ?_, fun j p r hp hr => right_step h hp hr⟩
  have := (right_at h hr).2
  exact of_none this (i := i) (p := p) (by rw [List.getElem?_take, if_pos hij]; exact hp) e
theorem right_of_mp {l : List Pc} (h : Mp l) : rightB l = true := by
  have h1 := h.one
  refine right_of h.one h.few ?_ (fun j hj => ?_)
  · cases l with
    | nil => simp at h1
    | cons p r => exact decide_eq_true (h.zero p rfl)
  · have hp : l[j]? = some l[j] := List.getElem?_eq_getElem hj
    have h3 : ofB (l.take j) l[j].g = false := of_free fun i p hi => by
      rw [List.getElem?_take] at hi
      split at hi
      · next hij => exact h.grp i j p _ hij hi hp
      · cases hi
    cases j with
    | zero => rw [ok_zero hp, h.may _ _ hp, h3]; rfl
    | succ q =>
      have hq : l[q]? = some l[q] := List.getElem?_eq_getElem (by omega)
      rw [ok_next hq hp, h.may _ _ hp, h3, h.up _ _ _ hq hp]
      rfl
/-- no more things than there are, if none is twice -/
theorem few_of {α : Type} [DecidableEq α] : ∀ (l S : List α), l.Nodup → (∀ x ∈ l, x ∈ S) → l.length ≤ S.length
  | [], _, _, _ => Nat.zero_le _
  | x :: l, S, hd, hs => by
    have hx := hs x (by simp)
    have hd' := List.nodup_cons.1 hd
    have := few_of l (S.erase x) hd'.2 (fun y hy => by
      refine (List.mem_erase_of_ne ?_).2 (hs y (by simp [hy]))
      intro e
      subst e
      exact hd'.1 hy)
    rw [List.length_erase_of_mem hx] at this
    have h0 : 0 < S.length := List.length_pos_of_mem hx
    simp only [List.length_cons]
    omega
theorem grp_is {g : Int} (h : grpB g = true) : g ∈ [1, 2, 3, 4, 5, 6, 7] := by
  unfold grpB at h
  simp only [Bool.and_eq_true, decide_eq_true_eq] at h
  simp only [List.mem_cons, List.not_mem_nil, or_false]
  omega
theorem may_grp {p : Pc} (h : mayB p = true) : grpB p.g = true := by
  unfold mayB at h
  simp only [Bool.and_eq_true] at h
  exact h.1.1.1
/-- a map that lacks a group has room -/
theorem room_of {l : List Pc} (h : Mp l) {g : Int} (hg : grpB g = true) (hn : ofB l g = false) : l.length < 7 := by
  have hd : (g :: l.map (·.g)).Nodup := by
    refine List.nodup_cons.2 ⟨fun hm => ?_, ?_⟩
    · obtain ⟨p, hp, e⟩ := List.mem_map.1 hm
      obtain ⟨i, hi⟩ := List.getElem?_of_mem hp
      exact of_none hn hi e
    · refine List.pairwise_iff_getElem.2 fun i j hi hj hij => ?_
      rw [List.getElem_map, List.getElem_map]
      exact h.grp i j _ _ hij (List.getElem?_eq_getElem (by simpa using hi)) (List.getElem?_eq_getElem (by simpa using hj))
  have := few_of _ [1, 2, 3, 4, 5, 6, 7] hd (fun x hx => by
    rcases List.mem_cons.1 hx with rfl | hx
    · exact grp_is hg
    · obtain ⟨p, hp, rfl⟩ := List.mem_map.1 hx
      obtain ⟨i, hi⟩ := List.getElem?_of_mem hp
      exact grp_is (may_grp (h.may _ _ hi)))
  simp only [List.length_cons, List.length_map, List.length_nil] at this
  omega

/-- what a split makes of l at q -/
def spl (l : List Pc) (q : Nat) (t u : Pc) : List Pc := l.take q ++ [t, u] ++ l.drop (q + 1)
section
variable {l : List Pc} {q : Nat} {t u : Pc}
theorem spl_len (h : q < l.length) : (spl l q t u).length = l.length + 1 := by
  unfold spl
  simp
  omega
theorem spl_low {j : Nat} (h : q < l.length) (hj : j < q) : (spl l q t u)[j]? = l[j]? := by
  unfold spl
  rw [List.append_assoc, List.getElem?_append_left (by rw [List.length_take]; omega), List.getElem?_take, if_pos hj]
theorem spl_q (h : q < l.length) : (spl l q t u)[q]? = some t := by
  unfold spl
  rw [List.append_assoc, List.getElem?_append_right (by rw [List.length_take]; omega)]
  rw [List.length_take, show q - min q l.length = 0 by omega]
  rfl
theorem spl_q1 (h : q < l.length) : (spl l q t u)[q + 1]? = some u := by
  unfold spl
  rw [List.append_assoc, List.getElem?_append_right (by rw [List.length_take]; omega)]
  rw [List.length_take, show q + 1 - min q l.length = 1 by omega]
  rfl
theorem spl_high {j : Nat} (h : q < l.length) (hj : q < j) : (spl l q t u)[j + 1]? = l[j]? := by
  unfold spl
  rw [List.getElem?_append_right (by simp; omega)]
  rw [List.getElem?_drop]
  congr 1
  simp
  omega
/-- each place of a split: the one before the cut, the new one, or an old one -/
theorem spl_inv (h : q < l.length) {j : Nat} {p : Pc} (hp : (spl l q t u)[j]? = some p) :
    (j < q ∧ l[j]? = some p) ∨ (j = q ∧ p = t) ∨ (j = q + 1 ∧ p = u) ∨ ∃ i, j = i + 1 ∧ q < i ∧ l[i]? = some p := by
  rcases Nat.lt_trichotomy j q with e | e | e
  · rw [spl_low h e] at hp
    exact .inl ⟨e, hp⟩
  · subst e
    rw [spl_q h] at hp
    exact .inr (.inl ⟨rfl, (Option.some.inj hp).symm⟩)
  · by_cases e1 : j = q + 1
    · subst e1
      rw [spl_q1 h] at hp
      exact .inr (.inr (.inl ⟨rfl, (Option.some.inj hp).symm⟩))
    · obtain ⟨i, rfl⟩ : ∃ i, j = i + 1 := ⟨j - 1, by omega⟩
      rw [spl_high h (by omega)] at hp
      exact .inr (.inr (.inr ⟨i, rfl, by omega, hp⟩))
end
/-- what a split is made of -/
structure Sp (l : List Pc) (key : ByteArray) (g : Int) (q : Nat) (x : Pc) : Prop where
  mp : rightB l = true
  kB : keyB key = true
  gB : grpB g = true
  free : ofB l g = false
  ep : epochV l < 4611686018427387904
  fq : findV l key = q
  lt : q < l.length
  hx : l[q]? = some x
  ne : ¬ x.k = key
theorem split_is {l : List Pc} {key : ByteArray} {g : Int} (h : splitE l key g = 0) : ∃ q x, Sp l key g q x ∧ splitL l key g = spl l q ⟨x.g, x.k, epochV l + 1⟩ ⟨g, key, epochV l + 1⟩ := by
  have h0 := h
  unfold splitE at h
  split at h
  · cases h
  next h1 =>
  split at h
  · cases h
  next h2 =>
  split at h
  · cases h
  next h3 =>
  split at h
  · cases h
  next h4 =>
  have hR : rightB l = true := by cases e : rightB l; exact absurd e h1; rfl
  have hl := (right_parts hR).1
  have hlt := find_lt key hl
  obtain ⟨x, hx⟩ : ∃ x, l[findV l key]? = some x := ⟨_, List.getElem?_eq_getElem hlt⟩
  have hgd : l.getD (findV l key) pc0 = x := by rw [List.getD_eq_getElem?_getD, hx]; rfl
  refine ⟨findV l key, x, ⟨hR, ?_, ?_, ?_, by omega, rfl, hlt, hx, ?_⟩, ?_⟩
  · cases e : keyB key; exact absurd (.inl e) h2; rfl
  · cases e : grpB g; exact absurd (.inr e) h2; rfl
  · cases e : ofB l g; rfl; exact absurd (.inl e) h3
  · intro e; exact h3 (.inr (by rw [hgd]; exact e))
  · unfold splitL
    rw [if_pos h0, hgd]
    rfl
section
variable {l : List Pc} {key : ByteArray} {g : Int} {q : Nat} {x : Pc}
theorem Sp.has (h : Sp l key g q x) : hasB l key q = true := by rw [← h.fq]; exact (find_has h.mp key).2.1
theorem Sp.lo (h : Sp l key g q x) : ltB x.k key = true := by
  have := ((has_iff h.mp h.hx).1 h.has).1
  cases e : ltB x.k key
  · exact absurd (lt_total e this) h.ne
  · rfl
theorem Sp.hi (h : Sp l key g q x) {y : Pc} (hy : l[q + 1]? = some y) : ltB key y.k = true := ((has_iff h.mp h.hx).1 h.has).2 y hy
theorem Sp.full (h : Sp l key g q x) : ¬ key = none0 := by
  intro e
  have := h.lo
  rw [e, lt_none] at this
  cases this
theorem may_new {p : Pc} {e : Int} (h : mayB p = true) (h1 : 0 ≤ e) (h2 : e < 4611686018427387904) : mayB ⟨p.g, p.k, e + 1⟩ = true := by
  unfold mayB at *
  simp only [Bool.and_eq_true, decide_eq_true_eq] at *
  exact ⟨⟨h.1.1, by omega⟩, by omega⟩
theorem Sp.map (h : Sp l key g q x) : rightB (spl l q ⟨x.g, x.k, epochV l + 1⟩ ⟨g, key, epochV l + 1⟩) = true := by
  have M := mp_of h.mp
  have hlt := h.lt
  have hnn := epoch_nn l
  have hep := h.ep
  have hk := h.kB
  have hg := h.gB
  have hroom := room_of M h.gB h.free
  refine right_of_mp ⟨by rw [spl_len hlt]; omega, by rw [spl_len hlt]; omega, fun p hp => ?_, fun j p hp => ?_, fun i j p r hij hp hr => ?_, fun j p r hp hr => ?_⟩
  · rcases spl_inv hlt hp with ⟨_, h1⟩ | ⟨h1, rfl⟩ | ⟨h1, _⟩ | ⟨i, h1, _⟩
    · exact M.zero p h1
    · have hx := h.hx
      rw [← h1] at hx
      exact M.zero x hx
    · omega
    · omega
  · rcases spl_inv hlt hp with ⟨_, h1⟩ | ⟨_, rfl⟩ | ⟨_, rfl⟩ | ⟨i, _, _, h1⟩
    · exact M.may _ _ h1
    · exact may_new (M.may _ _ h.hx) hnn hep
    · unfold keyB at hk
      unfold mayB
      simp only [Bool.and_eq_true, decide_eq_true_eq] at *
      refine ⟨⟨⟨hg, ?_⟩, ?_⟩, ?_⟩
      · omega
      · omega
      · omega
    · exact M.may _ _ h1
  · have hf : ∀ {i : Nat} {p : Pc}, l[i]? = some p → ¬ p.g = g := fun hp => of_none h.free hp
    rcases spl_inv hlt hp with ⟨a1, a2⟩ | ⟨a1, rfl⟩ | ⟨a1, rfl⟩ | ⟨i', a1, a2, a3⟩ <;>
    rcases spl_inv hlt hr with ⟨b1, b2⟩ | ⟨b1, rfl⟩ | ⟨b1, rfl⟩ | ⟨j', b1, b2, b3⟩
    · exact M.grp i j _ _ hij a2 b2
    · exact M.grp i q _ x a1 a2 h.hx
    · exact hf a2
    · exact M.grp i j' _ _ (by omega) a2 b3
    · omega
    · omega
    · exact hf (p := x) h.hx
    · exact M.grp q j' x _ b2 h.hx b3
    · omega
    · omega
    · omega
    · exact fun e => hf b3 e.symm
    · omega
    · omega
    · omega
    · exact M.grp i' j' _ _ (by omega) a3 b3
  · rcases spl_inv hlt hp with ⟨a1, a2⟩ | ⟨a1, rfl⟩ | ⟨a1, rfl⟩ | ⟨i', a1, a2, a3⟩ <;>
    rcases spl_inv hlt hr with ⟨b1, b2⟩ | ⟨b1, rfl⟩ | ⟨b1, rfl⟩ | ⟨j', b1, b2, b3⟩
    · exact M.up j _ _ a2 b2
    · have hx := h.hx
      rw [← b1] at hx
      exact M.up j _ x a2 hx
    · omega
    · omega
    · omega
    · omega
    · exact h.lo
    · omega
    · omega
    · omega
    · omega
    · obtain rfl : j' = q + 1 := by omega
      exact h.hi b3
    · omega
    · omega
    · omega
    · obtain rfl : j' = i' + 1 := by omega
      exact M.up i' _ _ a3 b3
/-- where a split's places end -/
theorem spl_end_low {t u : Pc} (h : l[q]? = some x) (ht : t.k = x.k) {j : Nat} (hj : j < q) : endN (spl l q t u) j = endN l j := by
  have hlt := (List.getElem?_eq_some_iff.1 h).1
  unfold endN
  by_cases e : j + 1 = q
  · subst e
    rw [spl_q hlt, h]
    exact ht
  · rw [spl_low hlt (by omega)]
theorem spl_end_q {t u : Pc} (hlt : q < l.length) : endN (spl l q t u) q = u.k := endN_some (spl_q1 hlt)
theorem spl_end_high {t u : Pc} (hlt : q < l.length) {j : Nat} (hj : q ≤ j) : endN (spl l q t u) (j + 1) = endN l j := by
  unfold endN
  rw [spl_high hlt (by omega)]
/-- whose a key is behind a split -/
theorem Sp.find (h : Sp l key g q x) (pr : ByteArray) :
    (withinB key (endN l q) pr = true → findV (spl l q ⟨x.g, x.k, epochV l + 1⟩ ⟨g, key, epochV l + 1⟩) pr = q + 1) ∧
    (withinB key (endN l q) pr = false → findV l pr = q → findV (spl l q ⟨x.g, x.k, epochV l + 1⟩ ⟨g, key, epochV l + 1⟩) pr = q) ∧
    (withinB key (endN l q) pr = false → ¬ findV l pr = q → ∃ j y, findV (spl l q ⟨x.g, x.k, epochV l + 1⟩ ⟨g, key, epochV l + 1⟩) pr = j ∧ (spl l q ⟨x.g, x.k, epochV l + 1⟩ ⟨g, key, epochV l + 1⟩)[j]? = some y ∧ l[findV l pr]? = some y) := by
  have hR := h.map
  have hlt := h.lt
  obtain ⟨f1, f2, _⟩ := find_has h.mp pr
  refine ⟨fun hw => find_is hR ?_, fun hw hf => find_is hR ?_, fun hw hf => ?_⟩
  · rw [hasB_at (spl_q1 hlt), spl_end_high hlt (Nat.le_refl _)]
    exact hw
  · rw [hasB_at (spl_q hlt), spl_end_q hlt]
    rw [hf, hasB_at h.hx] at f2
    unfold withinB at *
    simp only [Bool.and_eq_true, Bool.not_eq_true', Bool.and_eq_false_iff, Bool.or_eq_true] at *
    refine ⟨f2.1, .inl ?_⟩
    rcases hw with hw | hw
    · cases e : ltB pr key
      · rw [e] at hw; cases hw
      · rfl
    · rcases f2.2 with f | f <;> rw [f] at hw <;> simp at hw
  · obtain ⟨y, hy⟩ : ∃ y, l[findV l pr]? = some y := ⟨_, List.getElem?_eq_getElem f1⟩
    generalize findV l pr = j at *
    rw [hasB_at hy] at f2
    rcases Nat.lt_trichotomy j q with e | e | e
    · have h1 : (spl l q ⟨x.g, x.k, epochV l + 1⟩ ⟨g, key, epochV l + 1⟩)[j]? = some y := by rw [spl_low hlt e]; exact hy
      refine ⟨j, y, find_is hR ?_, h1, hy⟩
      rw [hasB_at h1, spl_end_low (t := ⟨x.g, x.k, epochV l + 1⟩) h.hx rfl e]
      exact f2
    · exact absurd e hf
    · have h1 : (spl l q ⟨x.g, x.k, epochV l + 1⟩ ⟨g, key, epochV l + 1⟩)[j + 1]? = some y := by rw [spl_high hlt e]; exact hy
      refine ⟨j + 1, y, find_is hR ?_, h1, hy⟩
      rw [hasB_at h1, spl_end_high hlt (by omega)]
      exact f2
end

/-- what a merge makes of l at q -/
def mrg (l : List Pc) (q : Nat) (t : Pc) : List Pc := l.take q ++ [t] ++ l.drop (q + 2)
section
variable {l : List Pc} {q : Nat} {t : Pc}
theorem mrg_len (h : q + 1 < l.length) : (mrg l q t).length = l.length - 1 := by
  unfold mrg
  simp
  omega
theorem mrg_low {j : Nat} (h : q < l.length) (hj : j < q) : (mrg l q t)[j]? = l[j]? := by
  unfold mrg
  rw [List.append_assoc, List.getElem?_append_left (by rw [List.length_take]; omega), List.getElem?_take, if_pos hj]
theorem mrg_q (h : q < l.length) : (mrg l q t)[q]? = some t := by
  unfold mrg
  rw [List.append_assoc, List.getElem?_append_right (by rw [List.length_take]; omega)]
  rw [List.length_take, show q - min q l.length = 0 by omega]
  rfl
theorem mrg_high {j : Nat} (h : q < l.length) (hj : q < j) : (mrg l q t)[j]? = l[j + 1]? := by
  unfold mrg
  rw [List.getElem?_append_right (by simp; omega)]
  rw [List.getElem?_drop]
  congr 1
  simp
  omega
theorem mrg_inv (h : q < l.length) {j : Nat} {p : Pc} (hp : (mrg l q t)[j]? = some p) :
    (j < q ∧ l[j]? = some p) ∨ (j = q ∧ p = t) ∨ (q < j ∧ l[j + 1]? = some p) := by
  rcases Nat.lt_trichotomy j q with e | e | e
  · rw [mrg_low h e] at hp
    exact .inl ⟨e, hp⟩
  · subst e
    rw [mrg_q h] at hp
    exact .inr (.inl ⟨rfl, (Option.some.inj hp).symm⟩)
  · rw [mrg_high h e] at hp
    exact .inr (.inr ⟨e, hp⟩)
end
structure Mg (l : List Pc) (i : Int) (q : Nat) (x : Pc) : Prop where
  mp : rightB l = true
  ep : epochV l < 4611686018427387904
  iq : i = (q : Int)
  lt : q + 1 < l.length
  hx : l[q]? = some x
theorem merge_is {l : List Pc} {i : Int} (h : mergeE l i = 0) : ∃ q x, Mg l i q x ∧ mergeL l i = mrg l q ⟨x.g, x.k, epochV l + 1⟩ := by
  have h0 := h
  unfold mergeE at h
  split at h
  · cases h
  next h1 =>
  split at h
  · cases h
  next h2 =>
  have hR : rightB l = true := by cases e : rightB l; exact absurd e h1; rfl
  have hl := (right_parts hR).1
  obtain ⟨q, rfl⟩ : ∃ q : Nat, i = (q : Int) := ⟨i.toNat, by omega⟩
  have hlt : q + 1 < l.length := by omega
  obtain ⟨x, hx⟩ : ∃ x, l[q]? = some x := ⟨_, List.getElem?_eq_getElem (by omega)⟩
  have hgd : l.getD q pc0 = x := by rw [List.getD_eq_getElem?_getD, hx]; rfl
  refine ⟨q, x, ⟨hR, by omega, rfl, hlt, hx⟩, ?_⟩
  unfold mergeL
  rw [if_pos h0, Int.toNat_natCast, hgd]
  rfl
section
variable {l : List Pc} {i : Int} {q : Nat} {x : Pc}
theorem Mg.map (h : Mg l i q x) : rightB (mrg l q ⟨x.g, x.k, epochV l + 1⟩) = true := by
  have M := mp_of h.mp
  have hlt := h.lt
  have hq : q < l.length := by omega
  have hnn := epoch_nn l
  have hep := h.ep
  have h8 := M.few
  refine right_of_mp ⟨by rw [mrg_len hlt]; omega, by rw [mrg_len hlt]; omega, fun p hp => ?_, fun j p hp => ?_, fun i j p r hij hp hr => ?_, fun j p r hp hr => ?_⟩
  · rcases mrg_inv hq hp with ⟨_, h1⟩ | ⟨h1, rfl⟩ | ⟨h1, _⟩
    · exact M.zero p h1
    · have hx := h.hx
      rw [← h1] at hx
      exact M.zero x hx
    · omega
  · rcases mrg_inv hq hp with ⟨_, h1⟩ | ⟨_, rfl⟩ | ⟨_, h1⟩
    · exact M.may _ _ h1
    · exact may_new (M.may _ _ h.hx) hnn hep
    · exact M.may _ _ h1
  · rcases mrg_inv hq hp with ⟨a1, a2⟩ | ⟨a1, rfl⟩ | ⟨a1, a2⟩ <;>
    rcases mrg_inv hq hr with ⟨b1, b2⟩ | ⟨b1, rfl⟩ | ⟨b1, b2⟩
    · exact M.grp i j _ _ hij a2 b2
    · exact M.grp i q _ x a1 a2 h.hx
    · exact M.grp i (j + 1) _ _ (by omega) a2 b2
    · omega
    · omega
    · exact M.grp q (j + 1) x _ (by omega) h.hx b2
    · omega
    · omega
    · exact M.grp (i + 1) (j + 1) _ _ (by omega) a2 b2
  · rcases mrg_inv hq hp with ⟨a1, a2⟩ | ⟨a1, rfl⟩ | ⟨a1, a2⟩ <;>
    rcases mrg_inv hq hr with ⟨b1, b2⟩ | ⟨b1, rfl⟩ | ⟨b1, b2⟩
    · exact M.up j _ _ a2 b2
    · have hx := h.hx
      rw [← b1] at hx
      exact M.up j _ x a2 hx
    · omega
    · omega
    · omega
    · exact right_lt (i := q) (j := j + 1 + 1) (p := x) h.mp h.hx b2 (by omega)
    · omega
    · omega
    · exact M.up (j + 1) _ _ a2 b2
theorem mrg_end_low {t : Pc} (h : l[q]? = some x) (ht : t.k = x.k) {j : Nat} (hj : j < q) : endN (mrg l q t) j = endN l j := by
  have hlt := (List.getElem?_eq_some_iff.1 h).1
  unfold endN
  by_cases e : j + 1 = q
  · subst e
    rw [mrg_q hlt, h]
    exact ht
  · rw [mrg_low hlt (by omega)]
theorem mrg_end_high {t : Pc} (hlt : q < l.length) {j : Nat} (hj : q ≤ j) : endN (mrg l q t) j = endN l (j + 1) := by
  unfold endN
  rw [mrg_high hlt (by omega)]
/-- whose a key is behind a merge -/
theorem Mg.find (h : Mg l i q x) (pr : ByteArray) :
    (withinB x.k (endN l (q + 1)) pr = true → findV (mrg l q ⟨x.g, x.k, epochV l + 1⟩) pr = q) ∧
    (withinB x.k (endN l (q + 1)) pr = false → ∃ j y, findV (mrg l q ⟨x.g, x.k, epochV l + 1⟩) pr = j ∧ (mrg l q ⟨x.g, x.k, epochV l + 1⟩)[j]? = some y ∧ l[findV l pr]? = some y) := by
  have hR := h.map
  have hlt := h.lt
  have hq : q < l.length := by omega
  obtain ⟨f1, f2, _⟩ := find_has h.mp pr
  refine ⟨fun hw => find_is hR ?_, fun hw => ?_⟩
  · rw [hasB_at (mrg_q hq), mrg_end_high hq (Nat.le_refl _)]
    exact hw
  · obtain ⟨y, hy⟩ : ∃ y, l[findV l pr]? = some y := ⟨_, List.getElem?_eq_getElem f1⟩
    generalize findV l pr = j at *
    obtain ⟨z, hz⟩ : ∃ z, l[q + 1]? = some z := ⟨_, List.getElem?_eq_getElem hlt⟩
    have f3 := (has_iff h.mp hy).1 f2
    rw [hasB_at hy] at f2
    have hxz := right_lt h.mp h.hx hz (Nat.lt_succ_self q)
    -- neither of the two has it
    have no : ∀ y', ltB pr x.k = false → (∀ r, l[q + 1 + 1]? = some r → ltB pr r.k = true) → (y' : Nat) = 0 → False := fun _ h1 h2 _ => by
      have : withinB x.k (endN l (q + 1)) pr = true := by
        unfold withinB
        rw [h1]
        cases hr : l[q + 1 + 1]? with
        | none => rw [endN_none (List.getElem?_eq_none_iff.1 hr)]; simp
        | some r => rw [endN_some hr, h2 r hr]; rfl
      rw [this] at hw
      cases hw
    rcases Nat.lt_trichotomy j q with e | e | e
    · have h1 : (mrg l q ⟨x.g, x.k, epochV l + 1⟩)[j]? = some y := by rw [mrg_low hq e]; exact hy
      refine ⟨j, y, find_is hR ?_, h1, hy⟩
      rw [hasB_at h1, mrg_end_low (t := ⟨x.g, x.k, epochV l + 1⟩) h.hx rfl e]
      exact f2
    · subst e
      rw [h.hx] at hy
      cases hy
      exact (no 0 f3.1 (fun r hr => lt_trans (f3.2 z hz) (right_lt h.mp hz hr (Nat.lt_succ_self _))) rfl).elim
    · by_cases e1 : j = q + 1
      · subst e1
        rw [hz] at hy
        cases hy
        exact (no 0 (by
          cases e2 : ltB pr x.k
          · rfl
          · rw [lt_trans e2 hxz] at f3; exact absurd f3.1 (by decide)) f3.2 rfl).elim
      · obtain ⟨m, rfl⟩ : ∃ m, j = m + 1 := ⟨j - 1, by omega⟩
        have h1 : (mrg l q ⟨x.g, x.k, epochV l + 1⟩)[m]? = some y := by rw [mrg_high hq (by omega)]; exact hy
        refine ⟨m, y, find_is hR ?_, h1, hy⟩
        rw [hasB_at h1, mrg_end_high hq (by omega)]
        exact f2
end
/-- the greatest Epoch, if one place has it and none a greater one -/
theorem epoch_is {l : List Pc} {e : Int} (h1 : ∃ (j : Nat) (p : Pc), l[j]? = some p ∧ p.ep = e) (h2 : ∀ (j : Nat) (p : Pc), l[j]? = some p → p.ep ≤ e) (h0 : 0 ≤ e) : epochV l = e := by
  have a1 : e ≤ epochV l := by
    obtain ⟨j, p, hp, he⟩ := h1
    rw [← he]
    exact epoch_in l 0 p (List.mem_of_getElem? hp)
  have aux : ∀ (l : List Pc) (m : Int), m ≤ e → (∀ p ∈ l, p.ep ≤ e) → l.foldl (fun m p => maxI m p.ep) m ≤ e := by
    intro l
    induction l with
    | nil => intro m hm _; exact hm
    | cons p r ih =>
      intro m hm hp
      have h1 := hp p (by simp)
      exact ih _ (by show maxI m p.ep ≤ _; unfold maxI; split <;> omega) (fun q hq => hp q (by simp [hq]))
  have a2 : epochV l ≤ e := aux l 0 h0 (fun p hp => by
    obtain ⟨j, hj⟩ := List.getElem?_of_mem hp
    exact h2 j p hj)
  omega
theorem epoch_at {l : List Pc} {j : Nat} {p : Pc} (h : l[j]? = some p) : p.ep ≤ epochV l := epoch_in l 0 p (List.mem_of_getElem? h)
theorem Sp.epoch {l : List Pc} {key : ByteArray} {g : Int} {q : Nat} {x : Pc} (h : Sp l key g q x) : epochV (spl l q ⟨x.g, x.k, epochV l + 1⟩ ⟨g, key, epochV l + 1⟩) = epochV l + 1 := by
  have hnn := epoch_nn l
  refine epoch_is ⟨q, _, spl_q h.lt, rfl⟩ (fun j p hp => ?_) (by omega)
  rcases spl_inv h.lt hp with ⟨_, h1⟩ | ⟨_, rfl⟩ | ⟨_, rfl⟩ | ⟨i, _, _, h1⟩
  · have := epoch_at h1; omega
  · exact Int.le_refl _
  · exact Int.le_refl _
  · have := epoch_at h1; omega
theorem Mg.epoch {l : List Pc} {i : Int} {q : Nat} {x : Pc} (h : Mg l i q x) : epochV (mrg l q ⟨x.g, x.k, epochV l + 1⟩) = epochV l + 1 := by
  have hnn := epoch_nn l
  have hq : q < l.length := by have := h.lt; omega
  refine epoch_is ⟨q, _, mrg_q hq, rfl⟩ (fun j p hp => ?_) (by omega)
  rcases mrg_inv hq hp with ⟨_, h1⟩ | ⟨_, rfl⟩ | ⟨_, h1⟩
  · have := epoch_at h1; omega
  · exact Int.le_refl _
  · have := epoch_at h1; omega
end Go.Proofs.Ythfjndlmihepbaa
