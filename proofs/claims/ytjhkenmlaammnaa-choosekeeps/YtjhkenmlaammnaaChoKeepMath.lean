/- What a majority has voted for with the greatest ballot is what a new leader proposes, as plain lists. No condition. -/
import Derived.Test.YtjhkenmlaammnaaChoMath
namespace Go.Proofs.Ytjhkenmlaammnaa
namespace Cz
open Am
set_option linter.unusedVariables false

theorem nodup_le : ∀ {a b : List Int}, a.Nodup → (∀ x ∈ a, x ∈ b) → a.length ≤ b.length
  | [], b, _, _ => Nat.zero_le _
  | x :: r, b, h, hs => by
    obtain ⟨h1, h2⟩ := List.nodup_cons.1 h
    have hx : x ∈ b := hs x (by simp)
    have h3 := nodup_le (b := b.erase x) h2 (fun y hy => (List.mem_erase_of_ne (fun e => h1 (by rw [← e]; exact hy))).2 (hs y (by simp [hy])))
    rw [List.length_erase_of_mem hx] at h3
    have : 0 < b.length := List.length_pos_of_mem hx
    simp only [List.length_cons]
    omega
theorem right_le {n : Int} {l : List Pr} (h : rightB n l = true) : (l.length : Int) ≤ n := by
  obtain ⟨⟨h1, h2⟩, _, h3, h4⟩ := right_iff.1 h
  have h5 := nodup_le (b := (List.range n.toNat).map (fun (k : Nat) => (k : Int) + 1)) h4 (fun x hx => by
    obtain ⟨p, hp, rfl⟩ := List.mem_map.1 hx
    have := h3 p hp
    exact List.mem_map.2 ⟨(p.nd - 1).toNat, List.mem_range.2 (by omega), by omega⟩)
  rw [List.length_map, List.length_map, List.length_range] at h5
  omega
/-- a vote for the slot, with this ballot and value -/
def hit (s r nn : Int) (b : List Int) (u : Vt) : Bool := decide (u.s = s ∧ u.r = r ∧ u.n = nn ∧ u.b = b)
def has1 (s r nn : Int) (b : List Int) (p : Pr) : Bool := p.vs.any (hit s r nn b)
theorem hit_one {s r nn : Int} {b : List Int} : ∀ {vs : List Vt}, vs.Pairwise (fun a b => a.s < b.s) → (vs.filter (hit s r nn b)).length ≤ if vs.any (hit s r nn b) = true then 1 else 0
  | [], _ => by simp
  | v :: q, h => by
    obtain ⟨h1, h2⟩ := List.pairwise_cons.1 h
    by_cases hv : hit s r nn b v = true
    · have hz : q.filter (hit s r nn b) = [] := by
        rw [List.filter_eq_nil_iff]
        intro u hu e
        have e1 := (of_decide_eq_true hv).1
        have e2 := (of_decide_eq_true e).1
        have := h1 u hu
        omega
      simp [hv, hz]
    · have h3 := hit_one (s := s) (r := r) (nn := nn) (b := b) h2
      rw [List.filter_cons_of_neg hv]
      simp only [List.any_cons, Bool.eq_false_iff.2 hv, Bool.false_or]
      exact h3
theorem count_hits {s r nn : Int} {b : List Int} : ∀ {l : List Pr}, (∀ p ∈ l, p.vs.Pairwise (fun a b => a.s < b.s)) → ((l.flatMap (·.vs)).filter (hit s r nn b)).length ≤ (l.filter (has1 s r nn b)).length
  | [], _ => by simp
  | p :: q, h => by
    have h1 := hit_one (s := s) (r := r) (nn := nn) (b := b) (h p (by simp))
    have h2 := count_hits (s := s) (r := r) (nn := nn) (b := b) (l := q) (fun z hz => h z (by simp [hz]))
    rw [List.flatMap_cons, List.filter_append, List.length_append]
    by_cases hp : has1 s r nn b p = true
    · rw [List.filter_cons_of_pos hp, List.length_cons]
      have hp' : p.vs.any (hit s r nn b) = true := hp
      rw [if_pos hp'] at h1
      omega
    · rw [List.filter_cons_of_neg hp]
      have hp' : ¬ p.vs.any (hit s r nn b) = true := hp
      rw [if_neg hp'] at h1
      omega
theorem meet_list {l : List Pr} (f g : Pr → Bool) : (l.length : Int) < (l.filter f).length + (l.filter g).length → ∃ p ∈ l, f p = true ∧ g p = true := by
  induction l with
  | nil => intro h; simp at h
  | cons p q ih =>
    intro h
    by_cases hf : f p = true
    · by_cases hg : g p = true
      · exact ⟨p, by simp, hf, hg⟩
      · rw [List.filter_cons_of_pos hf, List.filter_cons_of_neg hg] at h
        simp only [List.length_cons] at h
        obtain ⟨z, hz, e⟩ := ih (by omega)
        exact ⟨z, by simp [hz], e⟩
    · rw [List.filter_cons_of_neg hf] at h
      have hle : ((p :: q).filter g).length ≤ (q.filter g).length + 1 := by
        by_cases hg : g p = true
        · rw [List.filter_cons_of_pos hg]; simp
        · rw [List.filter_cons_of_neg hg]; omega
      simp only [List.length_cons] at h
      obtain ⟨z, hz, e⟩ := ih (by omega)
      exact ⟨z, by simp [hz], e⟩
theorem keeps {n s wo : Int} {l : List Pr} (hr : rightB n l = true) (he : openE n 1 (l.filter (fun p => decide (p.nd ≠ wo))) = 0) {v : Vt} (hmax : ∀ u ∈ forV l s, lessB v.r v.n u.r u.n = false) (hsame : ∀ u ∈ forV l s, u.r = v.r → u.n = v.n → u.b = v.b)
    {cb : List Int} (hc : n < 2 * (((forV l s).filter (fun u => decide (u.r = v.r ∧ u.n = v.n ∧ u.b = cb))).length : Int)) :
    1 ≤ s ∧ (openR n 1 (l.filter (fun p => decide (p.nd ≠ wo))))[(s - 1).toNat]? = some (s, cb) := by
  obtain ⟨sr, _, _, sq, st⟩ := openE_right he
  have so : openR n 1 (l.filter (fun p => decide (p.nd ≠ wo))) = openL 1 (l.filter (fun p => decide (p.nd ≠ wo))) := by unfold openR; rw [if_pos he]
  generalize hsome : l.filter (fun p => decide (p.nd ≠ wo)) = some_ at *
  have hin := right_iff.1 hr
  have e1 : (forV l s).filter (fun u => decide (u.r = v.r ∧ u.n = v.n ∧ u.b = cb)) = (all l).filter (hit s v.r v.n cb) := by
    unfold forV
    rw [List.filter_filter]
    refine List.filter_congr fun u _ => ?_
    unfold hit
    by_cases h1 : u.s = s <;> by_cases h2 : (u.r = v.r ∧ u.n = v.n ∧ u.b = cb) <;> simp [h1, h2]
  rw [e1] at hc
  have e2 : ((all l).filter (hit s v.r v.n cb)).length ≤ ((byN l).filter (has1 s v.r v.n cb)).length := count_hits (fun p hp => (vote_mem (hin.2.1 p ((right_mem hr).1 hp))).2.1)
  have e3 : ((byN l).filter (has1 s v.r v.n cb)).length = (l.filter (has1 s v.r v.n cb)).length := ((byN_perm hr).filter _).length_eq
  have e4 := right_le hr
  obtain ⟨p, hp, hg, hw⟩ := meet_list (l := l) (has1 s v.r v.n cb) (fun p => decide (p.nd ≠ wo)) (by rw [hsome]; omega)
  have hps : p ∈ some_ := by rw [← hsome]; exact List.mem_filter.2 ⟨hp, hw⟩
  obtain ⟨u, hu, hh⟩ := List.any_eq_true.1 hg
  obtain ⟨us, ur, un, ub⟩ := of_decide_eq_true hh
  have hufs : u ∈ forV some_ s := List.mem_filter.2 ⟨(mem_all sr).2 ⟨p, hps, hu⟩, by simpa using us⟩
  have huf : u ∈ forV l s := List.mem_filter.2 ⟨(mem_all hr).2 ⟨p, hp, hu⟩, by simpa using us⟩
  have h1s : 1 ≤ s := by rw [← us]; exact ((vote_mem (hin.2.1 p hp)).2.2 u hu).1
  have htop : s ≤ topV some_ := by rw [← us]; exact top_ge hps hu
  refine ⟨h1s, ?_⟩
  rw [so]
  unfold openL
  rw [List.getElem?_map, List.getElem?_range (by omega)]
  have ei : (1 : Int) + ((s - 1).toNat : Int) = s := by omega
  simp only [Option.map_some, ei]
  congr 1
  refine Prod.ext rfl ?_
  show valV some_ s = cb
  unfold valV
  cases hb : bestV (forV some_ s) with
  | none =>
    rw [best_none.1 hb] at hufs
    simp at hufs
  | some z =>
    show z.b = cb
    have hz := best_mem hb
    have hge := best_ge hb u hufs
    have hzl : z ∈ forV l s := by
      obtain ⟨h5, h6⟩ := List.mem_filter.1 hz
      obtain ⟨p', hp', hz'⟩ := (mem_all sr).1 h5
      rw [← hsome] at hp'
      exact List.mem_filter.2 ⟨(mem_all hr).2 ⟨p', (List.mem_filter.1 hp').1, hz'⟩, h6⟩
    have hle := hmax z hzl
    simp only [lessB, decide_eq_false_iff_not] at hge hle
    have zr : z.r = v.r := by omega
    have zn : z.n = v.n := by omega
    rw [hsame z hzl zr zn, ← hsame u huf ur un, ub]
end Cz
end Go.Proofs.Ytjhkenmlaammnaa
