/- Promises as plain values: which are right, the votes for a slot by rising nodes, what a new leader proposes, what is chosen. No condition. -/
import Derived.Test.YtjhkenmlaammnaaAccMath
namespace Go.Proofs.Ytjhkenmlaammnaa
namespace Cz
open Am
set_option linter.unusedVariables false

/-- a promise: whose, and its votes -/
structure Pr where
  nd : Int
  vs : List Vt
deriving DecidableEq
/-- may this be a ballot of so many nodes? -/
def mayN (n r nd : Int) : Bool := decide (1 ≤ nd ∧ nd ≤ n ∧ 1 ≤ r)
/-- slots that rise from nx on, ballots that may be -/
def rise (n : Int) : Int → List Vt → Bool
  | _, [] => true
  | nx, v :: r => decide (nx ≤ v.s ∧ v.s ≤ 1099511627776) && mayN n v.r v.n && rise n (v.s + 1) r
def voteB (n : Int) (vs : List Vt) : Bool := decide (vs.length ≤ 16) && rise n 1 vs
/-- are the promises right? -/
def rightB (n : Int) (l : List Pr) : Bool := decide ((1 ≤ n ∧ n ≤ 5) ∧ (∀ p ∈ l, voteB n p.vs = true) ∧ (∀ p ∈ l, 1 ≤ p.nd ∧ p.nd ≤ n) ∧ (l.map (·.nd)).Nodup)
theorem right_iff {n : Int} {l : List Pr} : rightB n l = true ↔ ((1 ≤ n ∧ n ≤ 5) ∧ (∀ p ∈ l, voteB n p.vs = true) ∧ (∀ p ∈ l, 1 ≤ p.nd ∧ p.nd ≤ n) ∧ (l.map (·.nd)).Nodup) := decide_eq_true_iff
theorem right_no {n : Int} {l : List Pr} : rightB n l = false ↔ ¬ ((1 ≤ n ∧ n ≤ 5) ∧ (∀ p ∈ l, voteB n p.vs = true) ∧ (∀ p ∈ l, 1 ≤ p.nd ∧ p.nd ≤ n) ∧ (l.map (·.nd)).Nodup) := decide_eq_false_iff_not
/-- the promises by rising nodes -/
def byN (l : List Pr) : List Pr := [1, 2, 3, 4, 5].flatMap (fun (k : Int) => l.filter (fun p => decide (p.nd = k)))
/-- all votes, by rising nodes -/
def all (l : List Pr) : List Vt := (byN l).flatMap (·.vs)
/-- the votes for a slot, by rising nodes -/
def forV (l : List Pr) (s : Int) : List Vt := (all l).filter (fun v => decide (v.s = s))
/-- the greatest slot for which there is a vote -/
def topV (l : List Pr) : Int := (l.flatMap (·.vs)).foldl (fun t v => max t v.s) 0
def pick (b : Option Vt) (v : Vt) : Option Vt := match b with
  | none => some v
  | some u => if lessB u.r u.n v.r v.n = true then some v else some u
/-- the first vote with the greatest ballot -/
def bestV (l : List Vt) : Option Vt := l.foldl pick none
/-- what is to be proposed for a slot -/
def valV (l : List Pr) (s : Int) : List Int := match bestV (forV l s) with
  | none => []
  | some v => v.b
def openL (f : Int) (l : List Pr) : List (Int × List Int) := (List.range (topV l + 1 - f).toNat).map (fun (i : Nat) => (f + (i : Int), valV l (f + (i : Int))))
def openE (n f : Int) (l : List Pr) : Int := if rightB n l = false then 21 else if f < 1 ∨ 1099511627776 < f then 1 else if (l.length : Int) < n / 2 + 1 then 91 else if f + 1024 ≤ topV l then 81 else 0
def openR (n f : Int) (l : List Pr) : List (Int × List Int) := if openE n f l = 0 then openL f l else []
/-- how many of the votes have v's ballot and value -/
def aliN (l : List Vt) (v : Vt) : Nat := (l.filter (fun u => decide (u.r = v.r ∧ u.n = v.n ∧ u.b = v.b))).length
def backV (l : List Vt) (q : Int) : List Vt := l.filter (fun v => decide (q ≤ (aliN l v : Int)))
/-- what is chosen for a slot -/
def chosenAt (n : Int) (l : List Pr) (s : Int) : Option (Int × List Int) := match bestV (backV (forV l s) (n / 2 + 1)) with
  | none => none
  | some v => some (s, v.b)
/-- a number in its place among rising ones -/
def ins (s : Int) : List Int → List Int
  | [] => [s]
  | t :: r => if s < t then s :: t :: r else if s = t then t :: r else t :: ins s r
theorem mem_ins {s x : Int} : ∀ {l : List Int}, x ∈ ins s l ↔ x = s ∨ x ∈ l
  | [] => by simp [ins]
  | t :: r => by
    unfold ins
    split
    · simp
    · split
      · rename_i h; subst h; simp
      · simp [mem_ins (l := r)]
        constructor
        · rintro (h | h | h)
          · exact .inr (.inl h)
          · exact .inl h
          · exact .inr (.inr h)
        · rintro (h | h | h)
          · exact .inr (.inl h)
          · exact .inl h
          · exact .inr (.inr h)
theorem ins_sorted {s : Int} : ∀ {l : List Int}, l.Pairwise (· < ·) → (ins s l).Pairwise (· < ·)
  | [], _ => by simp [ins]
  | t :: r, h => by
    obtain ⟨h1, h2⟩ := List.pairwise_cons.1 h
    unfold ins
    split
    · rename_i hs
      exact List.pairwise_cons.2 ⟨fun x hx => by
        rcases List.mem_cons.1 hx with rfl | hx
        · exact hs
        · have := h1 x hx; omega, h⟩
    · split
      · exact h
      · refine List.pairwise_cons.2 ⟨fun x hx => ?_, ins_sorted h2⟩
        rcases mem_ins.1 hx with rfl | hx
        · omega
        · exact h1 x hx
/-- the slots that are voted for, rising -/
def keysV (l : List Pr) : List Int := (all l).foldl (fun ks v => ins v.s ks) []
theorem keys_fold : ∀ (vs : List Vt) (ks : List Int), ks.Pairwise (· < ·) → (vs.foldl (fun ks v => ins v.s ks) ks).Pairwise (· < ·) ∧ ∀ x, x ∈ vs.foldl (fun ks v => ins v.s ks) ks ↔ x ∈ ks ∨ ∃ v ∈ vs, v.s = x
  | [], ks, h => ⟨h, fun x => by simp⟩
  | v :: r, ks, h => by
    obtain ⟨h1, h2⟩ := keys_fold r (ins v.s ks) (ins_sorted h)
    refine ⟨h1, fun x => ?_⟩
    rw [List.foldl_cons, h2 x, mem_ins]
    simp only [List.mem_cons]
    constructor
    · rintro ((rfl | h) | ⟨u, hu, rfl⟩)
      · exact .inr ⟨v, .inl rfl, rfl⟩
      · exact .inl h
      · exact .inr ⟨u, .inr hu, rfl⟩
    · rintro (h | ⟨u, rfl | hu, rfl⟩)
      · exact .inl (.inr h)
      · exact .inl (.inl rfl)
      · exact .inr ⟨u, hu, rfl⟩
theorem keys_sorted (l : List Pr) : (keysV l).Pairwise (· < ·) := (keys_fold (all l) [] List.Pairwise.nil).1
theorem mem_keys {l : List Pr} {x : Int} : x ∈ keysV l ↔ ∃ v ∈ all l, v.s = x := by
  have := (keys_fold (all l) [] List.Pairwise.nil).2 x
  simpa [keysV] using this
theorem rise_unique : ∀ {a b : List Int}, a.Pairwise (· < ·) → b.Pairwise (· < ·) → (∀ x, x ∈ a ↔ x ∈ b) → a = b := fun {a b} ha hb h => by
  have na : a.Nodup := ha.imp (fun {x y} h e => by omega)
  have nb : b.Nodup := hb.imp (fun {x y} h e => by omega)
  exact List.Perm.eq_of_pairwise (le := fun x y => x < y) (fun x y _ _ h1 h2 => by omega) ha hb ((List.perm_ext_iff_of_nodup na nb).2 h)
def chosenL (n : Int) (l : List Pr) : List (Int × List Int) := if rightB n l = true then (keysV l).filterMap (chosenAt n l) else []

/-! what a list that is right has -/
theorem rise_mem {n : Int} : ∀ {vs : List Vt} {nx : Int}, rise n nx vs = true → ∀ v ∈ vs, nx ≤ v.s ∧ v.s ≤ 1099511627776 ∧ mayN n v.r v.n = true
  | [], _, _, v, hv => by simp at hv
  | u :: r, nx, h, v, hv => by
    simp only [rise, Bool.and_eq_true, decide_eq_true_eq] at h
    rcases List.mem_cons.1 hv with rfl | hv
    · exact ⟨h.1.1.1, h.1.1.2, h.1.2⟩
    · have := rise_mem h.2 v hv
      exact ⟨by omega, this.2⟩
theorem rise_pair {n : Int} : ∀ {vs : List Vt} {nx : Int}, rise n nx vs = true → vs.Pairwise (fun a b => a.s < b.s)
  | [], _, _ => List.Pairwise.nil
  | u :: r, nx, h => by
    simp only [rise, Bool.and_eq_true, decide_eq_true_eq] at h
    exact List.pairwise_cons.2 ⟨fun v hv => by have := (rise_mem h.2 v hv).1; omega, rise_pair h.2⟩
theorem vote_mem {n : Int} {vs : List Vt} (h : voteB n vs = true) : vs.length ≤ 16 ∧ vs.Pairwise (fun a b => a.s < b.s) ∧ ∀ v ∈ vs, 1 ≤ v.s ∧ v.s ≤ 1099511627776 ∧ mayN n v.r v.n = true := by
  simp only [voteB, Bool.and_eq_true, decide_eq_true_eq] at h
  exact ⟨h.1, rise_pair h.2, rise_mem h.2⟩
theorem mem_byN {l : List Pr} {p : Pr} : p ∈ byN l ↔ p ∈ l ∧ (p.nd = 1 ∨ p.nd = 2 ∨ p.nd = 3 ∨ p.nd = 4 ∨ p.nd = 5) := by
  simp only [byN, List.flatMap_cons, List.flatMap_nil, List.append_nil, List.mem_append, List.mem_filter, decide_eq_true_eq]
  constructor
  · rintro (h | h | h | h | h) <;> exact ⟨h.1, by omega⟩
  · rintro ⟨h, e | e | e | e | e⟩
    · exact .inl ⟨h, e⟩
    · exact .inr (.inl ⟨h, e⟩)
    · exact .inr (.inr (.inl ⟨h, e⟩))
    · exact .inr (.inr (.inr (.inl ⟨h, e⟩)))
    · exact .inr (.inr (.inr (.inr ⟨h, e⟩)))
theorem right_mem {n : Int} {l : List Pr} (h : rightB n l = true) {p : Pr} : p ∈ byN l ↔ p ∈ l := by
  obtain ⟨⟨h1, h2⟩, _, h3, _⟩ := right_iff.1 h
  rw [mem_byN]
  exact ⟨fun x => x.1, fun x => ⟨x, by have := h3 p x; omega⟩⟩
theorem mem_all {n : Int} {l : List Pr} (h : rightB n l = true) {v : Vt} : v ∈ all l ↔ ∃ p ∈ l, v ∈ p.vs := by
  simp only [all, List.mem_flatMap]
  constructor
  · rintro ⟨p, hp, hv⟩
    exact ⟨p, (right_mem h).1 hp, hv⟩
  · rintro ⟨p, hp, hv⟩
    exact ⟨p, (right_mem h).2 hp, hv⟩
theorem all_ok {n : Int} {l : List Pr} (h : rightB n l = true) {v : Vt} (hv : v ∈ all l) : 1 ≤ v.s ∧ v.s ≤ 1099511627776 ∧ mayN n v.r v.n = true := by
  obtain ⟨p, hp, hv⟩ := (mem_all h).1 hv
  exact (vote_mem ((right_iff.1 h).2.1 p hp)).2.2 v hv
theorem filter_one {l : List Pr} (h : (l.map (·.nd)).Nodup) (k : Int) : (l.filter (fun p => decide (p.nd = k))).length ≤ 1 := by
  induction l with
  | nil => simp
  | cons p r ih =>
    simp only [List.map_cons, List.nodup_cons] at h
    by_cases e : p.nd = k
    · have : r.filter (fun p => decide (p.nd = k)) = [] := by
        rw [List.filter_eq_nil_iff]
        intro q hq e2
        exact h.1 (List.mem_map.2 ⟨q, hq, by have := of_decide_eq_true e2; omega⟩)
      rw [List.filter_cons_of_pos (by simpa using e), this]
      simp
    · rw [List.filter_cons_of_neg (by simpa using e)]
      exact ih h.2
theorem byN_pair {l : List Pr} (h : (l.map (·.nd)).Nodup) : (byN l).Pairwise (fun a b => a.nd < b.nd) := by
  have one : ∀ k : Int, (l.filter (fun p => decide (p.nd = k))).Pairwise (fun a b => a.nd < b.nd) := fun k => by
    have := filter_one h k
    generalize l.filter (fun p => decide (p.nd = k)) = x at this ⊢
    match x, this with
    | [], _ => exact List.Pairwise.nil
    | [x], _ => exact List.pairwise_singleton _ _
  have at_ : ∀ (k : Int) (p : Pr), p ∈ l.filter (fun p => decide (p.nd = k)) → p.nd = k := fun k p hp => by simpa using (List.mem_filter.1 hp).2
  simp only [byN, List.flatMap_cons, List.flatMap_nil, List.append_nil]
  refine List.pairwise_append.2 ⟨one 1, List.pairwise_append.2 ⟨one 2, List.pairwise_append.2 ⟨one 3, List.pairwise_append.2 ⟨one 4, one 5, ?_⟩, ?_⟩, ?_⟩, ?_⟩
  all_goals
    intro a ha b hb
    try simp only [List.mem_append] at hb
    have := at_ _ a ha
  · have := at_ _ b hb; omega
  · rcases hb with hb | hb <;> (have := at_ _ b hb; omega)
  · rcases hb with hb | hb | hb <;> (have := at_ _ b hb; omega)
  · rcases hb with hb | hb | hb | hb <;> (have := at_ _ b hb; omega)
theorem nodup_of_map {l : List Pr} (h : (l.map (·.nd)).Nodup) : l.Nodup := List.Pairwise.imp (fun {a b} h e => h (by rw [e])) (List.pairwise_map.1 h)
theorem byN_perm {n : Int} {l : List Pr} (h : rightB n l = true) : (byN l).Perm l := by
  have hn := (right_iff.1 h).2.2.2
  exact (List.perm_ext_iff_of_nodup ((byN_pair hn).imp (fun {a b} h e => by subst e; omega)) (nodup_of_map hn)).2 (fun p => right_mem h)
theorem right_len {n : Int} {l : List Pr} (h : rightB n l = true) : l.length ≤ 5 := by
  rw [← (byN_perm h).length_eq]
  have hn := (right_iff.1 h).2.2.2
  have := filter_one hn 1
  have := filter_one hn 2
  have := filter_one hn 3
  have := filter_one hn 4
  have := filter_one hn 5
  simp only [byN, List.flatMap_cons, List.flatMap_nil, List.append_nil, List.length_append]
  omega
theorem all_len {n : Int} {l : List Pr} (h : rightB n l = true) : (all l).length ≤ 80 := by
  have key : ∀ (x : List Pr), (∀ p ∈ x, voteB n p.vs = true) → (x.flatMap (·.vs)).length ≤ 16 * x.length := fun x => by
    induction x with
    | nil => intro _; simp
    | cons p r ih =>
      intro hx
      have h1 := (vote_mem (hx p (by simp))).1
      have h2 := ih (fun q hq => hx q (by simp [hq]))
      simp only [List.flatMap_cons, List.length_append, List.length_cons]
      omega
  have h1 := key (byN l) (fun p hp => (right_iff.1 h).2.1 p ((right_mem h).1 hp))
  have h2 := (byN_perm h).length_eq
  have h3 := right_len h
  unfold all
  omega
/-- rising promises of the same kind are the promises by rising nodes -/
theorem byN_unique {n : Int} {l l' : List Pr} (h : rightB n l = true) (hp : l'.Perm l) (hs : l'.Pairwise (fun a b => a.nd ≤ b.nd)) : l' = byN l := by
  have hn := (right_iff.1 h).2.2.2
  refine List.Perm.eq_of_pairwise (le := fun a b => a.nd ≤ b.nd) (fun a b ha hb h1 h2 => ?_) hs ((byN_pair hn).imp (fun {a b} h => by omega)) (hp.trans (byN_perm h).symm)
  have e : a.nd = b.nd := by omega
  have ha' := hp.mem_iff.1 ha
  have hb' := (right_mem h).1 hb
  exact inj_of_nodup hn ha' hb' e
where
  inj_of_nodup : ∀ {l : List Pr}, (l.map (·.nd)).Nodup → ∀ {a b : Pr}, a ∈ l → b ∈ l → a.nd = b.nd → a = b
    | p :: r, hn, a, b, ha, hb, e => by
      simp only [List.map_cons, List.nodup_cons] at hn
      rcases List.mem_cons.1 ha with ea | ha2
      · rcases List.mem_cons.1 hb with eb | hb2
        · rw [ea, eb]
        · exact absurd (List.mem_map (f := fun x : Pr => x.nd) |>.2 ⟨b, hb2, by rw [← e, ea]⟩) hn.1
      · rcases List.mem_cons.1 hb with eb | hb2
        · exact absurd (List.mem_map (f := fun x : Pr => x.nd) |>.2 ⟨a, ha2, by rw [e, eb]⟩) hn.1
        · exact inj_of_nodup hn.2 ha2 hb2 e

/-! the greatest slot -/
theorem top_fold : ∀ (vs : List Vt) (t : Int), (t ≤ vs.foldl (fun t v => max t v.s) t ∧ ∀ v ∈ vs, v.s ≤ vs.foldl (fun t v => max t v.s) t) ∧ (vs.foldl (fun t v => max t v.s) t = t ∨ ∃ v ∈ vs, v.s = vs.foldl (fun t v => max t v.s) t)
  | [], t => by simp
  | v :: r, t => by
    obtain ⟨⟨h1, h2⟩, h3⟩ := top_fold r (max t v.s)
    simp only [List.foldl_cons]
    refine ⟨⟨by omega, fun u hu => ?_⟩, ?_⟩
    · rcases List.mem_cons.1 hu with rfl | hu
      · omega
      · exact h2 u hu
    · rcases h3 with h3 | ⟨u, hu, e⟩
      · by_cases hm : t < v.s
        · exact .inr ⟨v, by simp, by omega⟩
        · exact .inl (by omega)
      · exact .inr ⟨u, by simp [hu], e⟩
theorem top_nonneg (l : List Pr) : 0 ≤ topV l := (top_fold _ 0).1.1
theorem top_ge {l : List Pr} {p : Pr} {v : Vt} (hp : p ∈ l) (hv : v ∈ p.vs) : v.s ≤ topV l := (top_fold _ 0).1.2 v (List.mem_flatMap.2 ⟨p, hp, hv⟩)
theorem top_is (l : List Pr) : topV l = 0 ∨ ∃ p ∈ l, ∃ v ∈ p.vs, v.s = topV l := by
  rcases (top_fold (l.flatMap (·.vs)) 0).2 with h | ⟨v, hv, e⟩
  · exact .inl h
  · obtain ⟨p, hp, hv⟩ := List.mem_flatMap.1 hv
    exact .inr ⟨p, hp, v, hv, e⟩
theorem top_le {n : Int} {l : List Pr} (h : rightB n l = true) : topV l ≤ 1099511627776 := by
  rcases top_is l with e | ⟨p, hp, v, hv, e⟩
  · omega
  · have := (vote_mem ((right_iff.1 h).2.1 p hp)).2.2 v hv
    omega

/-! the order of the promises plays no part -/
theorem right_rev (n : Int) (l : List Pr) : rightB n l.reverse = rightB n l := by
  unfold rightB
  refine decide_eq_decide.2 ?_
  simp only [List.mem_reverse, List.map_reverse]
  rw [List.Nodup, List.pairwise_reverse]
  constructor
  · rintro ⟨h1, h2, h3, h4⟩
    exact ⟨h1, h2, h3, h4.imp (fun {a b} h e => h e.symm)⟩
  · rintro ⟨h1, h2, h3, h4⟩
    exact ⟨h1, h2, h3, List.Pairwise.imp (fun {a b} h e => h e.symm) h4⟩
theorem byN_rev {l : List Pr} (h : (l.map (·.nd)).Nodup) : byN l.reverse = byN l := by
  unfold byN
  have : ∀ k : Int, l.reverse.filter (fun p => decide (p.nd = k)) = l.filter (fun p => decide (p.nd = k)) := fun k => by
    rw [List.filter_reverse]
    have := filter_one h k
    generalize l.filter (fun p => decide (p.nd = k)) = x at this ⊢
    match x, this with
    | [], _ => rfl
    | [x], _ => rfl
  simp only [this]
theorem top_rev (l : List Pr) : topV l.reverse = topV l := by
  have a1 := top_nonneg l
  have a2 := top_nonneg l.reverse
  have h1 : topV l ≤ topV l.reverse := by
    rcases top_is l with e | ⟨p, hp, v, hv, e⟩
    · omega
    · rw [← e]; exact top_ge (by simpa using hp) hv
  have h2 : topV l.reverse ≤ topV l := by
    rcases top_is l.reverse with e | ⟨p, hp, v, hv, e⟩
    · omega
    · rw [← e]; exact top_ge (by simpa using hp) hv
  omega
theorem openE_rev (n f : Int) (l : List Pr) : openE n f l.reverse = openE n f l := by
  unfold openE
  rw [right_rev, top_rev, List.length_reverse]
theorem openE_right {n f : Int} {l : List Pr} (h : openE n f l = 0) : rightB n l = true ∧ 1 ≤ f ∧ f ≤ 1099511627776 ∧ n / 2 + 1 ≤ (l.length : Int) ∧ topV l < f + 1024 := by
  unfold openE at h
  cases hr : rightB n l
  · simp [hr] at h
  · simp only [hr, Bool.true_eq_false, if_false] at h
    split at h
    · omega
    · split at h
      · omega
      · split at h
        · omega
        · exact ⟨rfl, by omega, by omega, by omega, by omega⟩
theorem openR_rev (n f : Int) (l : List Pr) : openR n f l.reverse = openR n f l := by
  unfold openR
  rw [openE_rev]
  split
  · rename_i h
    have hn := (right_iff.1 (openE_right h).1).2.2.2
    unfold openL valV forV all
    rw [top_rev, byN_rev hn]
  · rfl
theorem chosenL_rev (n : Int) (l : List Pr) : chosenL n l.reverse = chosenL n l := by
  unfold chosenL
  rw [right_rev]
  split
  · rename_i h
    have hn := (right_iff.1 h).2.2.2
    have e : all l.reverse = all l := by unfold all; rw [byN_rev hn]
    have e2 : keysV l.reverse = keysV l := by unfold keysV; rw [e]
    rw [e2]
    refine congrArg (fun g => List.filterMap g (keysV l)) (funext fun s => ?_)
    unfold chosenAt forV
    rw [e]
  · rfl

/-! the best vote -/
theorem best_fold : ∀ (vs : List Vt) (b : Option Vt), (vs.foldl pick b = b ∧ (∀ u, b = some u → ∀ v ∈ vs, lessB u.r u.n v.r v.n = false) ∧ (b = none → vs = [])) ∨ ∃ v ∈ vs, vs.foldl pick b = some v
  | [], b => .inl ⟨rfl, fun u _ v hv => by simp at hv, fun _ => rfl⟩
  | v :: r, b => by
    rw [List.foldl_cons]
    rcases best_fold r (pick b v) with ⟨h1, h2, h3⟩ | ⟨u, hu, e⟩
    · rw [h1]
      cases b with
      | none => exact .inr ⟨v, by simp, rfl⟩
      | some x =>
        by_cases hl : lessB x.r x.n v.r v.n = true
        · exact .inr ⟨v, by simp, by simp [pick, hl]⟩
        · have e : pick (some x) v = some x := by simp [pick, hl]
          refine .inl ⟨e, fun u hu w hw => ?_, fun h => by cases h⟩
          cases hu
          rcases List.mem_cons.1 hw with rfl | hw
          · simpa using hl
          · exact h2 x e w hw
    · exact .inr ⟨u, by simp [hu], e⟩
theorem best_mem {vs : List Vt} {v : Vt} (h : bestV vs = some v) : v ∈ vs := by
  rcases best_fold vs none with ⟨h1, _, h3⟩ | ⟨u, hu, e⟩
  · unfold bestV at h; rw [h1] at h; cases h
  · unfold bestV at h; rw [e] at h; cases h; exact hu
theorem best_none {vs : List Vt} : bestV vs = none ↔ vs = [] := by
  constructor
  · intro h
    rcases best_fold vs none with ⟨_, _, h3⟩ | ⟨u, hu, e⟩
    · exact h3 rfl
    · unfold bestV at h; rw [e] at h; cases h
  · rintro rfl; rfl
theorem pick_ge : ∀ (vs : List Vt) (b : Option Vt) (v : Vt), vs.foldl pick b = some v → (∀ u ∈ vs, lessB v.r v.n u.r u.n = false) ∧ ∀ u, b = some u → lessB v.r v.n u.r u.n = false
  | [], b, v, h => ⟨fun u hu => by simp at hu, fun u hu => by simp at h; rw [h] at hu; cases hu; exact lessB_self _ _⟩
  | x :: r, b, v, h => by
    rw [List.foldl_cons] at h
    obtain ⟨h1, h2⟩ := pick_ge r (pick b x) v h
    cases b with
    | none =>
      have := h2 x rfl
      exact ⟨fun u hu => by rcases List.mem_cons.1 hu with rfl | hu; exact this; exact h1 u hu, fun u hu => by cases hu⟩
    | some y =>
      by_cases hl : lessB y.r y.n x.r x.n = true
      · have e : pick (some y) x = some x := by simp [pick, hl]
        have h3 := h2 x e
        refine ⟨fun u hu => by rcases List.mem_cons.1 hu with rfl | hu; exact h3; exact h1 u hu, fun u hu => ?_⟩
        cases hu
        simp [lessB] at hl h3 ⊢
        omega
      · have e : pick (some y) x = some y := by simp [pick, hl]
        have h3 := h2 y e
        refine ⟨fun u hu => ?_, fun u hu => by cases hu; exact h3⟩
        rcases List.mem_cons.1 hu with rfl | hu
        · simp [lessB] at hl h3 ⊢
          omega
        · exact h1 u hu
theorem best_ge {vs : List Vt} {v : Vt} (h : bestV vs = some v) : ∀ u ∈ vs, lessB v.r v.n u.r u.n = false := (pick_ge vs none v h).1
end Cz
end Go.Proofs.Ytjhkenmlaammnaa
