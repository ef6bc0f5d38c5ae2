/- Pieces and boxes as plain values: what may be a piece, what a box takes, lacks and has; the pieces of some bytes. No Go in sight but the sum. -/
import Derived.Test.YtanfmpeblhegpaaDoorCodecFeed
namespace Go.Proofs.YtanfmpeblhegpaaDoor
namespace Ck
set_option linter.unusedVariables false

structure Pc where
  k : Int
  of : Int
  sum : Int
  b : List Int
/-- may it be a piece? -/
def mayB (p : Pc) : Bool := decide (1 ≤ p.of ∧ p.of ≤ 16 ∧ 0 ≤ p.k ∧ p.k < p.of ∧ (p.k < p.of - 1 → p.b.length = 512) ∧ (¬ p.k < p.of - 1 → p.b.length ≤ 512 ∧ (0 < p.b.length ∨ p.of = 1)))
structure Bx where
  of : Int
  sum : Int
  ps : List (Int × List Int)
def newS : Bx := ⟨0, 0, []⟩
def lookP (ps : List (Int × List Int)) (k : Int) : Option (List Int) := (ps.find? (fun q => decide (q.1 = k))).map (·.2)
def fitsB (s : Bx) (p : Pc) : Bool := decide (s.ps = [] ∨ (s.of = p.of ∧ s.sum = p.sum ∧ (lookP s.ps p.k = none ∨ lookP s.ps p.k = some p.b)))
def putE (s : Bx) (p : Pc) : Int := if mayB p = false then 21 else if fitsB s p = false then 120 else 0
def put (ps : List (Int × List Int)) (k : Int) (b : List Int) : List (Int × List Int) := ps.filter (fun u => decide (u.1 < k)) ++ (k, b) :: ps.filter (fun u => decide (k < u.1))
def putS (s : Bx) (p : Pc) : Bx := if putE s p = 0 then ⟨p.of, p.sum, put s.ps p.k p.b⟩ else s
def missN (ps : List (Int × List Int)) (n : Nat) : List Int := ((List.range n).filter (fun (j : Nat) => (lookP ps (j : Int)).isNone)).map (fun (j : Nat) => (j : Int))
def missL (s : Bx) : List Int := missN s.ps (max s.of 1).toNat
def catN (ps : List (Int × List Int)) (n : Nat) : List Int := (List.range n).flatMap (fun (j : Nat) => (lookP ps (j : Int)).getD [])
def catL (s : Bx) : List Int := catN s.ps s.of.toNat
def doneB (s : Bx) : Bool := decide (missL s = [] ∧ ((fsum (catL s) : Nat) : Int) = s.sum)
def doneL (s : Bx) : List Int := if doneB s = true then catL s else []

theorem missN_succ (ps : List (Int × List Int)) (n : Nat) : missN ps (n + 1) = missN ps n ++ if (lookP ps (n : Int)).isNone = true then [(n : Int)] else [] := by
  unfold missN
  rw [List.range_succ, List.filter_append, List.map_append]
  congr 1
  simp only [List.filter_cons, List.filter_nil]
  split <;> rfl
theorem catN_succ (ps : List (Int × List Int)) (n : Nat) : catN ps (n + 1) = catN ps n ++ (lookP ps (n : Int)).getD [] := by
  unfold catN
  rw [List.range_succ, List.flatMap_append]
  simp
theorem missN_length (ps : List (Int × List Int)) (n : Nat) : (missN ps n).length ≤ n := by
  unfold missN
  rw [List.length_map]
  exact Nat.le_trans (List.length_filter_le _ _) (by simp)
theorem missN_congr {ps qs : List (Int × List Int)} {n : Nat} (h : ∀ j : Nat, j < n → (lookP ps (j : Int)).isNone = (lookP qs (j : Int)).isNone) : missN ps n = missN qs n := by
  unfold missN
  rw [List.filter_congr (fun j hj => h j (List.mem_range.1 hj))]
theorem catN_congr {ps qs : List (Int × List Int)} {n : Nat} (h : ∀ j : Nat, j < n → lookP ps (j : Int) = lookP qs (j : Int)) : catN ps n = catN qs n := by
  induction n with
  | zero => rfl
  | succ n ih => rw [catN_succ, catN_succ, ih (fun j hj => h j (by omega)), h n (by omega)]
theorem missN_nil {ps : List (Int × List Int)} {n : Nat} : missN ps n = [] ↔ ∀ j : Nat, j < n → (lookP ps (j : Int)).isNone = false := by
  unfold missN
  rw [List.map_eq_nil_iff, List.filter_eq_nil_iff]
  constructor
  · intro h j hj
    have := h j (List.mem_range.2 hj)
    cases e : (lookP ps (j : Int)).isNone
    · rfl
    · exact absurd e this
  · intro h j hj
    have := h j (List.mem_range.1 hj)
    simp [this]
theorem mem_missN {ps : List (Int × List Int)} {n : Nat} {x : Int} : x ∈ missN ps n ↔ ∃ j : Nat, j < n ∧ x = (j : Int) ∧ lookP ps (j : Int) = none := by
  unfold missN
  simp only [List.mem_map, List.mem_filter, List.mem_range, Option.isNone_iff_eq_none]
  constructor
  · rintro ⟨j, ⟨h1, h2⟩, rfl⟩
    exact ⟨j, h1, rfl, h2⟩
  · rintro ⟨j, h1, rfl, h2⟩
    exact ⟨j, ⟨h1, h2⟩, rfl⟩
theorem look_none {ps : List (Int × List Int)} {k : Int} : lookP ps k = none ↔ ∀ q ∈ ps, q.1 ≠ k := by
  unfold lookP
  rw [Option.map_eq_none_iff, List.find?_eq_none]
  simp
theorem look_mem {ps : List (Int × List Int)} {k : Int} {b : List Int} (h : lookP ps k = some b) : (k, b) ∈ ps := by
  unfold lookP at h
  obtain ⟨q, h1, h2⟩ := Option.map_eq_some_iff.1 h
  have h3 := List.find?_some h1
  have h4 := List.mem_of_find?_eq_some h1
  obtain ⟨x, y⟩ := q
  simp at h3 h2
  subst h3 h2
  exact h4
theorem look_of {ps : List (Int × List Int)} (hs : ps.Pairwise (fun a b => a.1 < b.1)) {k : Int} {b : List Int} (h : (k, b) ∈ ps) : lookP ps k = some b := by
  induction ps with
  | nil => simp at h
  | cons q r ih =>
    obtain ⟨h1, h2⟩ := List.pairwise_cons.1 hs
    unfold lookP
    rcases List.mem_cons.1 h with rfl | h
    · rw [List.find?_cons_of_pos (by simp)]
      rfl
    · have := h1 _ h
      rw [List.find?_cons_of_neg (by simp; simp at this; omega)]
      exact ih h2 h
theorem mem_put {ps : List (Int × List Int)} {k : Int} {b : List Int} {u : Int × List Int} : u ∈ put ps k b ↔ u = (k, b) ∨ (u ∈ ps ∧ u.1 ≠ k) := by
  simp only [put, List.mem_append, List.mem_cons, List.mem_filter, decide_eq_true_eq]
  constructor
  · rintro (⟨h1, h2⟩ | rfl | ⟨h1, h2⟩)
    · exact .inr ⟨h1, by omega⟩
    · exact .inl rfl
    · exact .inr ⟨h1, by omega⟩
  · rintro (rfl | ⟨h1, h2⟩)
    · exact .inr (.inl rfl)
    · rcases Int.lt_trichotomy u.1 k with h | h | h
      · exact .inl ⟨h1, h⟩
      · exact absurd h h2
      · exact .inr (.inr ⟨h1, h⟩)
theorem put_sorted {ps : List (Int × List Int)} (h : ps.Pairwise (fun a b => a.1 < b.1)) (k : Int) (b : List Int) : (put ps k b).Pairwise (fun a b => a.1 < b.1) := by
  unfold put
  refine List.pairwise_append.2 ⟨h.filter _, List.pairwise_cons.2 ⟨fun u hu => ?_, h.filter _⟩, fun x hx y hy => ?_⟩
  · simpa using (List.mem_filter.1 hu).2
  · have h1 : x.1 < k := by simpa using (List.mem_filter.1 hx).2
    rcases List.mem_cons.1 hy with rfl | hy
    · exact h1
    · have h2 : k < y.1 := by simpa using (List.mem_filter.1 hy).2
      omega
theorem look_put {ps : List (Int × List Int)} (h : ps.Pairwise (fun a b => a.1 < b.1)) (k : Int) (b : List Int) (j : Int) : lookP (put ps k b) j = if j = k then some b else lookP ps j := by
  by_cases e : j = k
  · subst e
    rw [if_pos rfl]
    exact look_of (put_sorted h _ _) (mem_put.2 (.inl rfl))
  · rw [if_neg e]
    cases hl : lookP ps j with
    | none => exact look_none.2 (fun q hq => by
        rcases mem_put.1 hq with rfl | ⟨hq, _⟩
        · exact fun h => e h.symm
        · exact look_none.1 hl q hq)
    | some c => exact look_of (put_sorted h _ _) (mem_put.2 (.inr ⟨look_mem hl, e⟩))
/-- what always holds of a box -/
structure Ok (s : Bx) : Prop where
  sorted : s.ps.Pairwise (fun a b => a.1 < b.1)
  each : ∀ q ∈ s.ps, mayB ⟨q.1, s.of, s.sum, q.2⟩ = true
  none : s.ps = [] → s.of = 0 ∧ s.sum = 0
  sum : 0 ≤ s.sum ∧ s.sum ≤ 4294967295
theorem ok_new : Ok newS := ⟨List.Pairwise.nil, fun q hq => absurd hq (by simp [newS]), fun _ => ⟨rfl, rfl⟩, by simp [newS]⟩
theorem may_parts {p : Pc} (h : mayB p = true) : 1 ≤ p.of ∧ p.of ≤ 16 ∧ 0 ≤ p.k ∧ p.k < p.of ∧ p.b.length ≤ 512 := by
  have h := of_decide_eq_true h
  refine ⟨h.1, h.2.1, h.2.2.1, h.2.2.2.1, ?_⟩
  by_cases e : p.k < p.of - 1
  · have := h.2.2.2.2.1 e; omega
  · exact (h.2.2.2.2.2 e).1
theorem putE_zero {s : Bx} {p : Pc} : putE s p = 0 ↔ mayB p = true ∧ fitsB s p = true := by
  unfold putE
  cases mayB p <;> cases fitsB s p <;> simp
theorem ok_put {s : Bx} (h : Ok s) {p : Pc} (hp : 0 ≤ p.sum ∧ p.sum ≤ 4294967295) : Ok (putS s p) := by
  unfold putS
  split
  · rename_i e
    obtain ⟨e1, e2⟩ := putE_zero.1 e
    refine ⟨put_sorted h.sorted _ _, fun q hq => ?_, fun e => ?_, hp⟩
    · show mayB ⟨q.1, p.of, p.sum, q.2⟩ = true
      rcases mem_put.1 hq with rfl | ⟨hq, _⟩
      · exact e1
      · have e3 := of_decide_eq_true e2
        rcases e3 with e3 | ⟨e3, e4, _⟩
        · rw [e3] at hq; simp at hq
        · rw [← e3, ← e4]; exact h.each q hq
    · have : (p.k, p.b) ∈ put s.ps p.k p.b := mem_put.2 (.inl rfl)
      simp only at e
      rw [e] at this
      simp at this
  · exact h
theorem Ok.of {s : Bx} (h : Ok s) : 0 ≤ s.of ∧ s.of ≤ 16 := by
  cases hs : s.ps with
  | nil => have := h.none hs; omega
  | cons q r => have := may_parts (h.each q (by rw [hs]; simp)); simp at this; omega
theorem Ok.of1 {s : Bx} (h : Ok s) (hn : s.ps ≠ []) : 1 ≤ s.of := by
  cases hs : s.ps with
  | nil => exact absurd hs hn
  | cons q r => have := may_parts (h.each q (by rw [hs]; simp)); simp at this; omega
theorem Ok.blen {s : Bx} (h : Ok s) {q : Int × List Int} (hq : q ∈ s.ps) : q.2.length ≤ 512 := by have := may_parts (h.each q hq); simp at this; omega
theorem Ok.klt {s : Bx} (h : Ok s) {q : Int × List Int} (hq : q ∈ s.ps) : 0 ≤ q.1 ∧ q.1 < s.of := by have := may_parts (h.each q hq); simp at this; omega
theorem Ok.length {s : Bx} (h : Ok s) : s.ps.length ≤ 16 := by
  have key : ∀ (vs : List (Int × List Int)) (lo : Int) (k : Nat), (∀ v ∈ vs, lo ≤ v.1 ∧ v.1 < lo + k) → vs.Pairwise (fun a b => a.1 < b.1) → vs.length ≤ k := by
    intro vs
    induction vs with
    | nil => intros; simp
    | cons v r ih =>
      intro lo k h1 h2
      obtain ⟨p1, p2⟩ := List.pairwise_cons.1 h2
      have hv := h1 v (by simp)
      have := ih (v.1 + 1) (lo + k - (v.1 + 1)).toNat (fun u hu => by have := p1 u hu; have := h1 u (by simp [hu]); omega) p2
      simp
      omega
  exact key s.ps 0 16 (fun v hv => by have := h.klt hv; have := h.of; omega) h.sorted
theorem catN_length {s : Bx} (h : Ok s) (n : Nat) : (catN s.ps n).length ≤ n * 512 := by
  induction n with
  | zero => simp [catN]
  | succ n ih =>
    rw [catN_succ, List.length_append]
    have : ((lookP s.ps (n : Int)).getD []).length ≤ 512 := by
      cases hl : lookP s.ps (n : Int) with
      | none => simp
      | some b => exact h.blen (look_mem hl)
    omega
theorem catL_length {s : Bx} (h : Ok s) : (catL s).length ≤ 8192 := by
  have := catN_length h s.of.toNat
  have := h.of
  unfold catL
  omega
theorem doneL_length {s : Bx} (h : Ok s) : (doneL s).length ≤ 8192 := by
  unfold doneL
  split
  · exact catL_length h
  · simp

/-! the pieces of some bytes -/
def cutN (bs : List Int) : Nat := max 1 ((bs.length + 511) / 512)
def cutP (bs : List Int) (j : Nat) : Pc := ⟨j, cutN bs, (fsum bs : Nat), (bs.drop (j * 512)).take 512⟩
def cutL (bs : List Int) : List Pc := (List.range (cutN bs)).map (cutP bs)
theorem cutL_length (bs : List Int) : (cutL bs).length = cutN bs := by simp [cutL]
theorem cut_may {bs : List Int} (h : bs.length ≤ 8192) {j : Nat} (hj : j < cutN bs) : mayB (cutP bs j) = true := by
  unfold cutN at hj
  refine decide_eq_true ?_
  simp only [cutP, cutN, List.length_take, List.length_drop]
  refine ⟨by omega, by omega, by omega, by omega, fun h => by omega, fun h => ⟨by omega, ?_⟩⟩
  omega
theorem cut_cat (bs : List Int) (n : Nat) : (List.range n).flatMap (fun j => (bs.drop (j * 512)).take 512) = bs.take (n * 512) := by
  induction n with
  | zero => simp
  | succ n ih =>
    rw [List.range_succ, List.flatMap_append, ih, Nat.add_mul, Nat.one_mul, List.take_add]
    simp
theorem cut_whole (bs : List Int) : bs.take (cutN bs * 512) = bs := List.take_of_length_le (by unfold cutN; omega)
end Ck
end Go.Proofs.YtanfmpeblhegpaaDoor
