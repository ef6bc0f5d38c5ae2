/- Timers as plain lists: the order in which they are told, the heap that container/heap keeps, and where each name stands. No condition. -/
import Derived.Test.YtoganfdpaagomaaBase
namespace Go.Proofs.Ytoganfdpaagomaa
namespace Cm
set_option linter.unusedVariables false

/-- a timer -/
structure Tm where
  name : ByteArray
  due : Int
  turn : Int
instance : Inhabited Tm := ⟨⟨⟨#[]⟩, 0, 0⟩⟩
def cmpI (x y : Int) : Int := if x < y then -1 else if y < x then 1 else 0
def orV (x y : Int) : Int := if x = 0 then y else x
def cf (a b : Tm) : Int := orV (cmpI a.due b.due) (cmpI a.turn b.turn)
def lt (a b : Tm) : Bool := decide (a.due < b.due ∨ a.due = b.due ∧ a.turn < b.turn)
theorem cf_lt (a b : Tm) : decide (cf a b < 0) = lt a b := by
  unfold cf lt orV cmpI
  rw [decide_eq_decide]
  split <;> split <;> (try split) <;> (try split) <;> omega
theorem lt_irrefl (a : Tm) : lt a a = false := by simp [lt]
theorem lt_asymm {a b : Tm} (h : lt a b = true) : lt b a = false := by
  simp only [lt, decide_eq_true_eq, decide_eq_false_iff_not] at *; omega
theorem lt_ntrans {a b c : Tm} (h : lt a b = false) (h' : lt b c = false) : lt a c = false := by
  simp only [lt, decide_eq_false_iff_not] at *; omega
theorem lt_trans {a b c : Tm} (h : lt a b = true) (h' : lt b c = true) : lt a c = true := by
  simp only [lt, decide_eq_true_eq] at *; omega

section
variable {α : Type} [Inhabited α]
def g (l : List α) (i : Nat) : α := l.getD i default
def swp (l : List α) (i j : Nat) : List α := (l.set i (g l j)).set j (g l i)
theorem g_at {l : List α} {i : Nat} (h : i < l.length) : g l i = l[i] := by simp [g, h]
theorem g_some {l : List α} {i : Nat} (h : i < l.length) : l[i]? = some (g l i) := by rw [g_at h]; exact List.getElem?_eq_getElem h
theorem g_mem {l : List α} {i : Nat} (h : i < l.length) : g l i ∈ l := by rw [g_at h]; exact List.getElem_mem h
theorem g_of {l : List α} {i : Nat} {x : α} (h : l[i]? = some x) : g l i = x := by simp [g, h]
theorem swp_length (l : List α) (i j : Nat) : (swp l i j).length = l.length := by simp [swp]
theorem g_set {l : List α} {i : Nat} (h : i < l.length) (x : α) (k : Nat) : g (l.set i x) k = if k = i then x else g l k := by
  unfold g
  by_cases e : k = i
  · subst e; simp [h]
  · rw [if_neg e]; simp [List.getD, Ne.symm e]
theorem g_swp {l : List α} {i j : Nat} (hi : i < l.length) (hj : j < l.length) (k : Nat) : g (swp l i j) k = if k = j then g l i else if k = i then g l j else g l k := by
  unfold swp
  rw [g_set (by simpa using hj), g_set hi]
theorem swp_perm {l : List α} {i j : Nat} (hi : i < l.length) (hj : j < l.length) : (swp l i j).Perm l := by
  have h := Array.swap_perm (xs := l.toArray) (i := i) (j := j) (by simpa using hi) (by simpa using hj)
  have h2 : (l.toArray.swap i j (by simpa using hi) (by simpa using hj)).toList.Perm l := by simpa using h.toList
  rw [Array.toList_swap] at h2
  simpa [swp, g_at hi, g_at hj] using h2
theorem swp_append {x y : List α} {i j : Nat} (hi : i < x.length) (hj : j < x.length) : swp (x ++ y) i j = swp x i j ++ y := by
  have e1 : g (x ++ y) i = g x i := by rw [g_at hi, g_at (by simp; omega)]; simp [hi]
  have e2 : g (x ++ y) j = g x j := by rw [g_at hj, g_at (by simp; omega)]; simp [hj]
  unfold swp
  rw [e1, e2, List.set_append_left _ _ hi, List.set_append_left _ _ (by simpa using hj)]
/-- of the first n some have changed their places, the others stand -/
def PI {α : Type} (n : Nat) (l l' : List α) : Prop := l'.length = l.length ∧ l'.drop n = l.drop n ∧ (l'.take n).Perm (l.take n)
theorem PI.refl {α : Type} (n : Nat) (l : List α) : PI n l l := ⟨rfl, rfl, .refl _⟩
theorem PI.trans {α : Type} {n : Nat} {a b c : List α} (h : PI n a b) (h' : PI n b c) : PI n a c := ⟨h'.1.trans h.1, h'.2.1.trans h.2.1, h'.2.2.trans h.2.2⟩
theorem PI.swp {n : Nat} {l : List α} {i j : Nat} (hn : n ≤ l.length) (hi : i < n) (hj : j < n) : PI n l (swp l i j) := by
  have e : l = l.take n ++ l.drop n := (List.take_append_drop n l).symm
  have ln : (l.take n).length = n := by simp; omega
  have s : Cm.swp l i j = Cm.swp (l.take n) i j ++ l.drop n := by
    conv => lhs; rw [e]
    exact swp_append (by omega) (by omega)
  have sl : (Cm.swp (l.take n) i j).length = n := by rw [swp_length, ln]
  refine ⟨swp_length _ _ _, ?_, ?_⟩
  · rw [s, List.drop_left' sl]
  · rw [s, List.take_left' sl]
    exact swp_perm (by omega) (by omega)
theorem PI.perm {α : Type} {n : Nat} {l l' : List α} (h : PI n l l') : l'.Perm l := by
  rw [← List.take_append_drop n l, ← List.take_append_drop n l', h.2.1]
  exact h.2.2.append_right _
theorem PI.g {n : Nat} {l l' : List α} (h : PI n l l') {k : Nat} (hk : n ≤ k) : g l' k = g l k := by
  have e : l'[k]? = l[k]? := by
    have h1 : (l'.drop n)[k - n]? = (l.drop n)[k - n]? := by rw [h.2.1]
    simpa [List.getElem?_drop, show n + (k - n) = k by omega] using h1
  simp [Cm.g, List.getD, e]
end

/-! the heap -/
abbrev par (k : Nat) : Nat := (k - 1) / 2
def HeapN (l : List Tm) (n : Nat) : Prop := ∀ k, 0 < k → k < n → lt (g l k) (g l (par k)) = false
/-- a heap but for the one at j, which may be less than its parent -/
def UpOK (l : List Tm) (n j : Nat) : Prop := (∀ k, 0 < k → k < n → k ≠ j → lt (g l k) (g l (par k)) = false) ∧ (∀ k, 0 < k → k < n → par k = j → 0 < j → lt (g l k) (g l (par j)) = false)
/-- a heap but for the one at i, which may be greater than its children (and, at i0, less than its parent) -/
def DownI (l : List Tm) (n i0 i : Nat) : Prop := (∀ k, 0 < k → k < n → par k ≠ i → (k ≠ i0 ∨ i ≠ i0) → lt (g l k) (g l (par k)) = false) ∧ (∀ k, 0 < k → k < n → par k = i → 0 < i → lt (g l k) (g l (par i)) = false)
theorem up_step {l : List Tm} {n j : Nat} (hn : n ≤ l.length) (h : UpOK l n j) (hj : j < n) (h0 : 0 < j) (hl : lt (g l j) (g l (par j)) = true) : UpOK (swp l (par j) j) n (par j) := by
  have hp : par j < j := by simp only [par]; omega
  have G := fun k => g_swp (l := l) (i := par j) (j := j) (by omega) (by omega) k
  refine ⟨fun k k0 kn kp => ?_, fun k k0 kn kj pj => ?_⟩
  · rw [G, G]
    by_cases e : k = j
    · subst e
      rw [if_pos rfl, if_neg (by omega), if_pos rfl]
      exact lt_asymm hl
    · rw [if_neg e, if_neg kp]
      by_cases e2 : par k = j
      · rw [if_pos e2]
        exact h.2 k k0 kn e2 h0
      · rw [if_neg e2]
        by_cases e3 : par k = par j
        · rw [if_pos e3]
          have h1 := h.1 k k0 kn e
          rw [e3] at h1
          exact lt_ntrans h1 (lt_asymm hl)
        · rw [if_neg e3]
          exact h.1 k k0 kn e
  · have q1 : par (par j) < par j := by simp only [par] at *; omega
    rw [G, G, if_neg (show ¬ par (par j) = j by omega), if_neg (show ¬ par (par j) = par j by omega)]
    have hpp := h.1 (par j) pj (by omega) (by omega)
    by_cases e : k = j
    · rw [if_pos e]
      exact hpp
    · rw [if_neg e, if_neg (show ¬ k = par j by simp only [par] at *; omega)]
      have h1 := h.1 k k0 kn e
      rw [kj] at h1
      exact lt_ntrans h1 hpp
theorem up_done {l : List Tm} {n j : Nat} (h : UpOK l n j) (hd : j = 0 ∨ lt (g l j) (g l (par j)) = false) : HeapN l n := fun k k0 kn => by
  by_cases e : k = j
  · subst e
    rcases hd with hd | hd
    · omega
    · exact hd
  · exact h.1 k k0 kn e
theorem down_step {l : List Tm} {n i0 i j : Nat} (hn : n ≤ l.length) (h : DownI l n i0 i) (h0 : i0 ≤ i) (hj0 : 0 < j) (hj : j < n) (hp : par j = i) (hm : ∀ k, 0 < k → k < n → par k = i → lt (g l k) (g l j) = false) (hl : lt (g l j) (g l i) = true) : DownI (swp l i j) n i0 j := by
  have hij : i < j := by simp only [par] at hp; omega
  have G := fun k => g_swp (l := l) (i := i) (j := j) (by omega) (by omega) k
  refine ⟨fun k k0 kn kp ki => ?_, fun k k0 kn kj pj => ?_⟩
  · rw [G, G, if_neg kp]
    by_cases e : k = j
    · subst e
      rw [if_pos rfl, if_pos hp]
      exact lt_asymm hl
    · rw [if_neg e]
      by_cases e2 : k = i
      · subst e2
        rw [if_pos rfl, if_neg (show ¬ par k = k by simp only [par]; omega)]
        exact h.2 j hj0 hj hp (by omega)
      · rw [if_neg e2]
        by_cases e3 : par k = i
        · rw [if_pos e3]
          exact hm k k0 kn e3
        · rw [if_neg e3]
          exact h.1 k k0 kn e3 (by omega)
  · have hk : j < k := by simp only [par] at kj; omega
    rw [G, G, if_neg (by omega), if_neg (by omega), hp, if_neg (by omega), if_pos rfl]
    have := h.1 k k0 kn (by omega) (.inl (by omega))
    rwa [kj] at this
theorem down_done {l : List Tm} {n i0 i : Nat} (h : DownI l n i0 i) (hd : ∀ k, 0 < k → k < n → par k = i → lt (g l k) (g l i) = false) : (i ≠ i0 → HeapN l n) ∧ (i = i0 → UpOK l n i0) := by
  refine ⟨fun hi k k0 kn => ?_, fun hi => ?_⟩
  · by_cases e : par k = i
    · rw [e]; exact hd k k0 kn e
    · exact h.1 k k0 kn e (.inr hi)
  · subst hi
    refine ⟨fun k k0 kn kj => ?_, h.2⟩
    by_cases e : par k = i
    · rw [e]; exact hd k k0 kn e
    · exact h.1 k k0 kn e (.inl kj)
theorem fix_start {l : List Tm} {n i : Nat} (hn : n ≤ l.length) (h : HeapN l n) (hi : i < n) {l' : List Tm} (hg : ∀ k, k < n → k ≠ i → g l' k = g l k) : DownI l' n i i := by
  refine ⟨fun k k0 kn kp ki => ?_, fun k k0 kn kj i0 => ?_⟩
  · rw [hg k kn (by omega), hg (par k) (by simp only [par]; omega) kp]
    exact h k k0 kn
  · have h1 := h k k0 kn
    have h2 := h i i0 hi
    rw [hg k kn (by simp only [par] at kj; omega), hg (par i) (by simp only [par]; omega) (by simp only [par]; omega)]
    rw [kj] at h1
    exact lt_ntrans h1 h2
theorem push_start {l : List Tm} (h : HeapN l l.length) (t : Tm) : UpOK (l ++ [t]) (l.length + 1) l.length := by
  have G : ∀ k, k < l.length → g (l ++ [t]) k = g l k := fun k hk => by rw [g_at hk, g_at (by simp; omega)]; simp [hk]
  refine ⟨fun k k0 kn kj => ?_, fun k k0 kn kj j0 => ?_⟩
  · rw [G k (by omega), G (par k) (by simp only [par]; omega)]
    exact h k k0 (by omega)
  · simp only [par] at kj; omega
theorem heap_nil : HeapN [] 0 := fun k h0 h1 => by omega
theorem heap_min {l : List Tm} {n : Nat} (h : HeapN l n) : ∀ k, k < n → lt (g l k) (g l 0) = false := by
  intro k
  induction k using Nat.strongRecOn with
  | _ k ih =>
    intro hk
    by_cases e : k = 0
    · subst e; exact lt_irrefl _
    · exact lt_ntrans (h k (by omega) hk) (ih (par k) (by simp only [par]; omega) (by simp only [par]; omega))
theorem heap_take {l l' : List Tm} {n : Nat} (h : HeapN l n) (hg : ∀ k, k < n → g l' k = g l k) : HeapN l' n := fun k k0 kn => by
  rw [hg k kn, hg (par k) (by simp only [par]; omega)]; exact h k k0 kn

/-! places by names -/
def names (l : List Tm) : List ByteArray := l.map Tm.name
theorem names_length (l : List Tm) : (names l).length = l.length := by simp [names]
theorem names_g {l : List Tm} {i : Nat} (h : i < l.length) : (names l)[i]? = some (g l i).name := by simp [names, g_some h]
theorem names_swp {l : List Tm} {i j : Nat} (hi : i < l.length) (hj : j < l.length) : names (swp l i j) = ((names l).set i (g l j).name).set j (g l i).name := by simp [names, swp, List.map_set]
def Ix (ns : List ByteArray) (F : ByteArray → Option Nat) : Prop := (∀ i s, ns[i]? = some s → F s = some i) ∧ (∀ s, s ∉ ns → F s = none)
def upd (F : ByteArray → Option Nat) (s : ByteArray) (i : Nat) : ByteArray → Option Nat := fun k => if k = s then some i else F k
def cut (F : ByteArray → Option Nat) (s : ByteArray) : ByteArray → Option Nat := fun k => if k = s then none else F k
theorem Ix.swp {l : List Tm} {F : ByteArray → Option Nat} (h : Ix (names l) F) {i j : Nat} (hi : i < l.length) (hj : j < l.length) (hne : i ≠ j) : Ix (names (swp l i j)) (upd (upd F (g l j).name i) (g l i).name j) := by
  have ni := h.1 i _ (names_g hi)
  have nj := h.1 j _ (names_g hj)
  have hd : (g l i).name ≠ (g l j).name := fun e => by rw [e, nj] at ni; simp at ni; omega
  rw [names_swp hi hj]
  have mem : ∀ s, s ∈ ((names l).set i (g l j).name).set j (g l i).name ↔ s ∈ names l := fun s => by
    have h1 := (swp_perm hi hj).map Tm.name
    have h2 := h1.mem_iff (a := s)
    rw [← names_swp hi hj]
    exact h2
  refine ⟨fun k s hk => ?_, fun s hs => ?_⟩
  · rw [List.getElem?_set] at hk
    by_cases e : j = k
    · subst e
      rw [if_pos rfl, if_pos (by simp [names]; omega)] at hk
      simp at hk
      simp [upd, hk]
    · rw [if_neg e, List.getElem?_set] at hk
      by_cases e2 : i = k
      · subst e2
        rw [if_pos rfl, if_pos (by simp [names]; omega)] at hk
        simp at hk
        subst hk
        simp [upd, Ne.symm hd]
      · rw [if_neg e2] at hk
        have hf := h.1 k s hk
        have s1 : s ≠ (g l i).name := fun e3 => by rw [e3, ni] at hf; simp at hf; omega
        have s2 : s ≠ (g l j).name := fun e3 => by rw [e3, nj] at hf; simp at hf; omega
        simp [upd, s1, s2, hf]
  · have hs' : s ∉ names l := fun e => hs ((mem s).2 e)
    have s1 : s ≠ (g l i).name := fun e3 => hs' (by rw [e3]; exact List.mem_map_of_mem (g_mem hi))
    have s2 : s ≠ (g l j).name := fun e3 => hs' (by rw [e3]; exact List.mem_map_of_mem (g_mem hj))
    simp [upd, s1, s2, h.2 s hs']
theorem Ix.push {ns : List ByteArray} {F : ByteArray → Option Nat} (h : Ix ns F) {s : ByteArray} (hs : s ∉ ns) : Ix (ns ++ [s]) (upd F s ns.length) := by
  refine ⟨fun i x hx => ?_, fun x hx => ?_⟩
  · by_cases e : i < ns.length
    · rw [List.getElem?_append_left e] at hx
      have hne : x ≠ s := fun e2 => hs (e2 ▸ List.mem_of_getElem? hx)
      simp [upd, hne, h.1 i x hx]
    · rw [List.getElem?_append_right (by omega)] at hx
      have : i - ns.length = 0 := by
        have := (List.getElem?_eq_some_iff.1 hx).1
        simp at this; omega
      rw [this] at hx
      simp at hx
      subst hx
      simp [upd]; omega
  · simp at hx
    simp [upd, hx.2, h.2 x hx.1]
theorem Ix.pop {ns : List ByteArray} {F : ByteArray → Option Nat} {s : ByteArray} (h : Ix (ns ++ [s]) F) : Ix ns (cut F s) := by
  have hl := h.1 ns.length s (by simp)
  refine ⟨fun i x hx => ?_, fun x hx => ?_⟩
  · have hi := (List.getElem?_eq_some_iff.1 hx).1
    have h1 := h.1 i x (by rw [List.getElem?_append_left hi]; exact hx)
    have hne : x ≠ s := fun e => by rw [e, hl] at h1; simp at h1; omega
    simp [cut, hne, h1]
  · by_cases e : x = s
    · simp [cut, e]
    · simp [cut, e, h.2 x (by simp [hx, e])]
theorem Ix.nodup {ns : List ByteArray} {F : ByteArray → Option Nat} (h : Ix ns F) : ns.Nodup := by
  rw [List.nodup_iff_pairwise_ne, List.pairwise_iff_getElem]
  intro i j hi hj hij e
  have h1 := h.1 i _ (List.getElem?_eq_getElem hi)
  have h2 := h.1 j _ (List.getElem?_eq_getElem hj)
  rw [e, h2] at h1
  simp at h1
  omega
theorem Ix.look {ns : List ByteArray} {F : ByteArray → Option Nat} (h : Ix ns F) (s : ByteArray) : (∃ i, F s = some i ∧ ns[i]? = some s) ∨ (F s = none ∧ s ∉ ns) := by
  by_cases e : s ∈ ns
  · obtain ⟨i, hi⟩ := List.mem_iff_getElem?.1 e
    exact .inl ⟨i, h.1 i s hi, hi⟩
  · exact .inr ⟨h.2 s e, e⟩
end Cm
end Go.Proofs.Ytoganfdpaagomaa
