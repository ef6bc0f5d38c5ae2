/- An acceptor as a plain value: what it has promised, its first slot, its votes by rising slots, and what each call makes of it. No condition. -/
import Derived.Test.YtjhkenmlaammnaaBase
namespace Go.Proofs.Ytjhkenmlaammnaa
namespace Am
set_option linter.unusedVariables false

/-- a vote -/
structure Vt where
  s : Int
  r : Int
  n : Int
  b : List Int
deriving DecidableEq
/-- an acceptor -/
structure As where
  pr : Int
  pn : Int
  first : Int
  vs : List Vt
def mayB (r n : Int) : Bool := decide (1 ≤ r ∧ 1 ≤ n)
/-- is the ballot (a, b) below (c, d)? -/
def lessB (a b c d : Int) : Bool := decide (a < c ∨ a = c ∧ b < d)
theorem lessB_true {a b c d : Int} (h : a < c ∨ a = c ∧ b < d) : lessB a b c d = true := decide_eq_true h
theorem lessB_false {a b c d : Int} (h : ¬ (a < c ∨ a = c ∧ b < d)) : lessB a b c d = false := decide_eq_false h
theorem lessB_self (a b : Int) : lessB a b a b = false := lessB_false (by omega)
theorem lessB_trans {a b c d e f : Int} (h1 : lessB c d a b = false) (h2 : lessB e f c d = false) : lessB e f a b = false := by
  simp [lessB] at h1 h2 ⊢
  omega
def fitsB (v : Vt) : Bool := mayB v.r v.n && decide (v.b.length ≤ 2048)
def fromL (vs : List Vt) (f : Int) : List Vt := vs.filter (fun v => decide (f ≤ v.s))
def upto (vs : List Vt) (f c : Int) : List Vt := vs.filter (fun v => decide (f ≤ v.s ∧ v.s < c))
def atL (vs : List Vt) (c : Int) : Option Vt := vs.find? (fun v => decide (v.s = c))
def prepE (s : As) (r n : Int) : Int := if mayB r n = false then 1 else if lessB r n s.pr s.pn = true then 90 else 0
def prepS (s : As) (r n : Int) : As := if prepE s r n = 0 then { s with pr := r, pn := n } else s
def prepL (s : As) (r n f : Int) : List Vt := if prepE s r n = 0 then fromL s.vs f else []
def accE (s : As) (v : Vt) : Int := if fitsB v = false then 1 else if lessB v.r v.n s.pr s.pn = true then 90 else if v.s < s.first then 80 else if s.first + 16 ≤ v.s then 81 else 0
def put (vs : List Vt) (v : Vt) : List Vt := vs.filter (fun u => decide (u.s < v.s)) ++ v :: vs.filter (fun u => decide (v.s < u.s))
def accS (s : As) (v : Vt) : As := if accE s v = 0 then { s with pr := v.r, pn := v.n, vs := put s.vs v } else s
def forgB (s : As) (b : Int) : Bool := decide (s.first < b ∧ b ≤ 1099511627776)
def forgS (s : As) (b : Int) : As := if forgB s b = true then { s with first := b, vs := fromL s.vs b } else s
def forgN (s : As) (b : Int) : Int := if forgB s b = true then (s.vs.length : Int) - ((fromL s.vs b).length : Int) else 0
def newS : As := ⟨0, 0, 1, []⟩
/-- may these votes be loaded, from the slot nx on? -/
def goodL (pr pn first : Int) : Int → List Vt → Bool
  | _, [] => true
  | nx, v :: r => decide (nx ≤ v.s) && decide (v.s < first + 16) && fitsB v && !lessB pr pn v.r v.n && goodL pr pn first (v.s + 1) r
def headB (pr pn first : Int) : Bool := decide (1 ≤ first ∧ first ≤ 1099511627776) && (decide (pr = 0 ∧ pn = 0) || mayB pr pn)
def loadB (s : As) : Bool := headB s.pr s.pn s.first && goodL s.pr s.pn s.first s.first s.vs

/-- what every acceptor keeps -/
structure Ok (s : As) : Prop where
  lo : 1 ≤ s.first
  hi : s.first ≤ 1099511627776
  win : ∀ v ∈ s.vs, s.first ≤ v.s ∧ v.s < s.first + 16
  sorted : s.vs.Pairwise (fun a b => a.s < b.s)
  each : ∀ v ∈ s.vs, fitsB v = true
  below : ∀ v ∈ s.vs, lessB s.pr s.pn v.r v.n = false
  prom : (s.pr = 0 ∧ s.pn = 0) ∨ mayB s.pr s.pn = true
theorem ok_new : Ok newS := ⟨by decide, by decide, by simp [newS], by simp [newS], by simp [newS], by simp [newS], .inl ⟨rfl, rfl⟩⟩
theorem mem_put {vs : List Vt} {v u : Vt} (h : u ∈ put vs v) : u = v ∨ u ∈ vs := by
  simp [put] at h
  rcases h with h | h | h
  · exact .inr h.1
  · exact .inl h
  · exact .inr h.1
theorem fits_len {v : Vt} (h : fitsB v = true) : v.b.length ≤ 2048 := by
  simp [fitsB] at h
  exact h.2
theorem ok_prep {s : As} (h : Ok s) (r n : Int) : Ok (prepS s r n) := by
  unfold prepS
  split
  · rename_i e
    have hm : mayB r n = true := by
      cases hm : mayB r n
      · simp [prepE, hm] at e
      · rfl
    have hl : lessB r n s.pr s.pn = false := by
      cases hl : lessB r n s.pr s.pn
      · rfl
      · simp [prepE, hl, hm] at e
    exact ⟨h.lo, h.hi, h.win, h.sorted, h.each, fun v hv => lessB_trans (h.below v hv) hl, .inr hm⟩
  · exact h
theorem put_sorted {vs : List Vt} (h : vs.Pairwise (fun a b => a.s < b.s)) (v : Vt) : (put vs v).Pairwise (fun a b => a.s < b.s) := by
  unfold put
  refine List.pairwise_append.2 ⟨h.filter _, List.pairwise_cons.2 ⟨fun u hu => ?_, h.filter _⟩, fun a ha b hb => ?_⟩
  · simpa using (List.mem_filter.1 hu).2
  · have h1 : a.s < v.s := by simpa using (List.mem_filter.1 ha).2
    rcases List.mem_cons.1 hb with rfl | hb
    · exact h1
    · have h2 : v.s < b.s := by simpa using (List.mem_filter.1 hb).2
      omega
theorem accE_zero {s : As} {v : Vt} (e : accE s v = 0) : fitsB v = true ∧ lessB v.r v.n s.pr s.pn = false ∧ s.first ≤ v.s ∧ v.s < s.first + 16 := by
  unfold accE at e
  cases hf : fitsB v
  · simp [hf] at e
  · cases hl : lessB v.r v.n s.pr s.pn
    · simp [hf, hl] at e
      by_cases h1 : v.s < s.first
      · simp [h1] at e
      · by_cases h2 : s.first + 16 ≤ v.s
        · simp [h1, h2] at e
        · exact ⟨rfl, rfl, by omega, by omega⟩
    · simp [hf, hl] at e
theorem ok_acc {s : As} (h : Ok s) (v : Vt) : Ok (accS s v) := by
  unfold accS
  split
  · rename_i e
    obtain ⟨hf, hl, h1, h2⟩ := accE_zero e
    refine ⟨h.lo, h.hi, fun u hu => ?_, put_sorted h.sorted v, fun u hu => ?_, fun u hu => ?_, .inr ?_⟩
    · rcases mem_put hu with rfl | hu
      · exact ⟨h1, h2⟩
      · exact h.win u hu
    · rcases mem_put hu with rfl | hu
      · exact hf
      · exact h.each u hu
    · rcases mem_put hu with rfl | hu
      · exact lessB_self _ _
      · exact lessB_trans (h.below u hu) hl
    · simp [fitsB] at hf
      exact hf.1
  · exact h
theorem ok_forg {s : As} (h : Ok s) (b : Int) : Ok (forgS s b) := by
  unfold forgS
  split
  · rename_i e
    simp [forgB] at e
    refine ⟨by show 1 ≤ b; have := h.lo; omega, e.2, fun u hu => ?_, h.sorted.filter _, fun u hu => h.each u (List.mem_filter.1 hu).1, fun u hu => h.below u (List.mem_filter.1 hu).1, h.prom⟩
    obtain ⟨hu, hb⟩ := List.mem_filter.1 hu
    have := h.win u hu
    simp at hb
    exact ⟨hb, by show u.s < b + 16; omega⟩
  · exact h
theorem upto_none (vs : List Vt) (f c : Int) (h : c ≤ f) : upto vs f c = [] := by
  refine List.filter_eq_nil_iff.2 fun v _ => ?_
  simp
  omega
theorem upto_step {f c : Int} (hf : f ≤ c) : ∀ {vs : List Vt}, vs.Pairwise (fun a b => a.s < b.s) → upto vs f (c + 1) = upto vs f c ++ (atL vs c).toList
  | [], _ => rfl
  | v :: r, h => by
    obtain ⟨h1, h2⟩ := List.pairwise_cons.1 h
    have ih := upto_step hf h2
    unfold upto atL at ih ⊢
    by_cases e : v.s = c
    · have e1 : r.filter (fun v => decide (f ≤ v.s ∧ v.s < c + 1)) = [] := List.filter_eq_nil_iff.2 fun u hu => by have := h1 u hu; simp; omega
      have e2 : r.filter (fun v => decide (f ≤ v.s ∧ v.s < c)) = [] := List.filter_eq_nil_iff.2 fun u hu => by have := h1 u hu; simp; omega
      rw [List.filter_cons, List.filter_cons, e1, e2, if_pos (by simp; omega), if_neg (by simp; omega), List.find?_cons_of_pos (by simpa using e)]
      rfl
    · rw [List.filter_cons, List.filter_cons, List.find?_cons_of_neg (by simpa using e)]
      by_cases e2 : f ≤ v.s ∧ v.s < c
      · rw [if_pos (by simp; omega), if_pos (by simpa using e2), ih]
        rfl
      · rw [if_neg (by simp; omega), if_neg (by simpa using e2), ih]
theorem upto_all {vs : List Vt} {f c : Int} (h : ∀ v ∈ vs, v.s < c) : upto vs f c = fromL vs f := by
  refine List.filter_congr fun v hv => ?_
  have := h v hv
  simp [this]
theorem atL_mem {vs : List Vt} {c : Int} {v : Vt} (h : atL vs c = some v) : v ∈ vs ∧ v.s = c := by
  have h1 := List.mem_of_find?_eq_some h
  have h2 := List.find?_some h
  exact ⟨h1, by simpa using h2⟩
theorem goodL_of {pr pn first : Int} : ∀ {vs : List Vt} {nx : Int}, (∀ v ∈ vs, nx ≤ v.s ∧ v.s < first + 16) → vs.Pairwise (fun a b => a.s < b.s) → (∀ v ∈ vs, fitsB v = true) → (∀ v ∈ vs, lessB pr pn v.r v.n = false) → goodL pr pn first nx vs = true
  | [], _, _, _, _, _ => rfl
  | v :: r, nx, h1, h2, h3, h4 => by
    obtain ⟨p1, p2⟩ := List.pairwise_cons.1 h2
    have ih := goodL_of (nx := v.s + 1) (fun u hu => ⟨by have := p1 u hu; omega, (h1 u (by simp [hu])).2⟩) p2 (fun u hu => h3 u (by simp [hu])) (fun u hu => h4 u (by simp [hu]))
    simp [goodL, h1 v (by simp), h3 v (by simp), h4 v (by simp), ih]
theorem of_goodL {pr pn first : Int} : ∀ {vs : List Vt} {nx : Int}, goodL pr pn first nx vs = true → (∀ v ∈ vs, nx ≤ v.s ∧ v.s < first + 16) ∧ vs.Pairwise (fun a b => a.s < b.s) ∧ (∀ v ∈ vs, fitsB v = true) ∧ (∀ v ∈ vs, lessB pr pn v.r v.n = false)
  | [], _, _ => by simp
  | v :: r, nx, h => by
    simp [goodL] at h
    obtain ⟨⟨⟨⟨h1, h2⟩, h3⟩, h4⟩, h5⟩ := h
    obtain ⟨q1, q2, q3, q4⟩ := of_goodL h5
    refine ⟨fun u hu => ?_, List.pairwise_cons.2 ⟨fun u hu => by have := q1 u hu; omega, q2⟩, fun u hu => ?_, fun u hu => ?_⟩
    · rcases List.mem_cons.1 hu with rfl | hu
      · exact ⟨h1, h2⟩
      · have := q1 u hu; omega
    · rcases List.mem_cons.1 hu with rfl | hu
      · exact h3
      · exact q3 u hu
    · rcases List.mem_cons.1 hu with rfl | hu
      · exact h4
      · exact q4 u hu
theorem ok_load {s : As} (h : loadB s = true) : Ok s := by
  simp [loadB, headB] at h
  obtain ⟨⟨h1, h2⟩, h3⟩ := h
  obtain ⟨q1, q2, q3, q4⟩ := of_goodL h3
  exact ⟨h1.1, h1.2, q1, q2, q3, q4, h2⟩
theorem load_ok {s : As} (h : Ok s) : loadB s = true := by
  simp [loadB, headB, h.lo, h.hi, goodL_of h.win h.sorted h.each h.below]
  exact h.prom
theorem length_le {s : As} (h : Ok s) : s.vs.length ≤ 16 := by
  have key : ∀ (vs : List Vt) (lo : Int) (k : Nat), (∀ v ∈ vs, lo ≤ v.s ∧ v.s < lo + k) → vs.Pairwise (fun a b => a.s < b.s) → vs.length ≤ k := by
    intro vs
    induction vs with
    | nil => intros; simp
    | cons v r ih =>
      intro lo k h1 h2
      obtain ⟨p1, p2⟩ := List.pairwise_cons.1 h2
      have hv := h1 v (by simp)
      have := ih (v.s + 1) (lo + k - (v.s + 1)).toNat (fun u hu => by have := p1 u hu; have := h1 u (by simp [hu]); omega) p2
      simp
      omega
  exact key s.vs s.first 16 (fun v hv => by have := h.win v hv; omega) h.sorted
end Am
end Go.Proofs.Ytjhkenmlaammnaa
