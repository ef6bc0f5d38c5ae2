/- Pieces of some bytes put into a box in any order: what it lacks and has. No Go in sight. -/
import Derived.Test.YtokdlkfjimihjaaDoorChuMath
namespace Go.Proofs.YtokdlkfjimihjaaDoor
namespace Ck
set_option linter.unusedVariables false

/-- the box has just the pieces whose numbers are in D -/
structure Jn (bs : List Int) (D : Nat → Prop) (s : Bx) : Prop where
  yes : ∀ j, j < cutN bs → D j → lookP s.ps (j : Int) = some ((bs.drop (j * 512)).take 512)
  no : ∀ j, j < cutN bs → ¬ D j → lookP s.ps (j : Int) = none
  of : s.ps ≠ [] → s.of = (cutN bs : Nat) ∧ s.sum = (fsum bs : Nat)
  ok : Ok s
theorem jn_new (bs : List Int) : Jn bs (fun _ => False) newS := ⟨fun _ _ h => h.elim, fun _ _ _ => rfl, fun h => absurd rfl h, ok_new⟩
section
variable {bs : List Int} {D D' : Nat → Prop} {s s' : Bx}
theorem jn_fits (h : Jn bs D s) {k : Nat} (hk : k < cutN bs) : fitsB s (cutP bs k) = true := by
  refine decide_eq_true ?_
  by_cases e : s.ps = []
  · exact .inl e
  · obtain ⟨h1, h2⟩ := h.of e
    refine .inr ⟨h1, h2, ?_⟩
    by_cases hd : D k
    · exact .inr (h.yes k hk hd)
    · exact .inl (h.no k hk hd)
theorem jn_putE (h : Jn bs D s) (hb : bs.length ≤ 8192) {k : Nat} (hk : k < cutN bs) : putE s (cutP bs k) = 0 := putE_zero.2 ⟨cut_may hb hk, jn_fits h hk⟩
theorem jn_put (h : Jn bs D s) (hb : bs.length ≤ 8192) {k : Nat} (hk : k < cutN bs) : Jn bs (fun j => D j ∨ j = k) (putS s (cutP bs k)) ∧ (putS s (cutP bs k)).ps ≠ [] := by
  have e := jn_putE h hb hk
  have hs : 0 ≤ (cutP bs k).sum ∧ (cutP bs k).sum ≤ 4294967295 := by
    have := fsum_lt bs
    show 0 ≤ ((fsum bs : Nat) : Int) ∧ ((fsum bs : Nat) : Int) ≤ 4294967295
    omega
  have hok := ok_put h.ok hs
  have e2 : putS s (cutP bs k) = ⟨(cutP bs k).of, (cutP bs k).sum, put s.ps (cutP bs k).k (cutP bs k).b⟩ := by simp [putS, e]
  rw [e2] at hok ⊢
  refine ⟨⟨fun j hj hd => ?_, fun j hj hd => ?_, fun _ => ⟨rfl, rfl⟩, hok⟩, fun e3 => ?_⟩
  · show lookP (put s.ps ((k : Nat) : Int) _) (j : Int) = _
    rw [look_put h.ok.sorted]
    by_cases ejk : j = k
    · subst ejk
      rw [if_pos rfl]
      rfl
    · rw [if_neg (by omega)]
      exact h.yes j hj (hd.resolve_right ejk)
  · show lookP (put s.ps ((k : Nat) : Int) _) (j : Int) = _
    have ejk : j ≠ k := fun e => hd (.inr e)
    rw [look_put h.ok.sorted, if_neg (by omega)]
    exact h.no j hj (fun x => hd (.inl x))
  · have : ((cutP bs k).k, (cutP bs k).b) ∈ put s.ps (cutP bs k).k (cutP bs k).b := mem_put.2 (.inl rfl)
    simp only at e3
    rw [e3] at this
    simp at this
theorem jn_nil (h : Jn bs D s) : s.ps = [] ↔ ∀ j, j < cutN bs → ¬ D j := by
  constructor
  · intro e j hj hd
    have := h.yes j hj hd
    rw [e] at this
    simp [lookP] at this
  · intro hd
    cases hs : s.ps with
    | nil => rfl
    | cons q r =>
      have hq : q ∈ s.ps := by rw [hs]; simp
      have hn : s.ps ≠ [] := by rw [hs]; simp
      have h1 := h.ok.klt hq
      rw [(h.of hn).1] at h1
      have h2 : lookP s.ps q.1 = some q.2 := look_of h.ok.sorted hq
      have h3 := h.no q.1.toNat (by omega) (hd _ (by omega))
      rw [show ((q.1.toNat : Nat) : Int) = q.1 by omega, h2] at h3
      cases h3
theorem jn_max (h : Jn bs D s) (hn : s.ps ≠ []) : (max s.of 1).toNat = cutN bs := by
  have h1 := (h.of hn).1
  have h2 := h.ok.of1 hn
  omega
theorem jn_miss (h : Jn bs D s) : missL s = [] ↔ ∀ j, j < cutN bs → D j := by
  have n1 : 1 ≤ cutN bs := by unfold cutN; omega
  by_cases hn : s.ps = []
  · constructor
    · intro e
      have h2 := missN_nil.1 e 0 (by omega)
      rw [hn] at h2
      simp [lookP] at h2
    · intro hd
      exact absurd (hd 0 n1) ((jn_nil h).1 hn 0 n1)
  · unfold missL
    rw [jn_max h hn, missN_nil]
    constructor
    · intro e j hj
      refine Classical.byContradiction fun hd => ?_
      have := e j hj
      rw [h.no j hj hd] at this
      cases this
    · intro hd j hj
      rw [h.yes j hj (hd j hj)]
      rfl
theorem jn_done (h : Jn bs D s) : doneB s = decide (missL s = []) ∧ (missL s = [] → doneL s = bs) := by
  by_cases hm : missL s = []
  · have hd := (jn_miss h).1 hm
    have hn : s.ps ≠ [] := fun e => (jn_nil h).1 e 0 (by unfold cutN; omega) (hd 0 (by unfold cutN; omega))
    have hof := h.of hn
    have hc : catL s = bs := by
      unfold catL
      rw [hof.1, show (((cutN bs : Nat) : Int)).toNat = cutN bs by omega]
      have : catN s.ps (cutN bs) = (List.range (cutN bs)).flatMap (fun j => (bs.drop (j * 512)).take 512) := by
        have key : ∀ n, n ≤ cutN bs → catN s.ps n = (List.range n).flatMap (fun j => (bs.drop (j * 512)).take 512) := by
          intro n
          induction n with
          | zero => intro _; rfl
          | succ n ih =>
            intro hle
            rw [catN_succ, ih (by omega), h.yes n (by omega) (hd n (by omega)), List.range_succ, List.flatMap_append]
            simp
        exact key _ (Nat.le_refl _)
      rw [this, cut_cat, cut_whole]
    have hb : doneB s = true := decide_eq_true ⟨hm, by rw [hc, hof.2]⟩
    refine ⟨by rw [hb, decide_eq_true hm], fun _ => ?_⟩
    unfold doneL
    rw [if_pos hb, hc]
  · refine ⟨?_, fun e => absurd e hm⟩
    rw [decide_eq_false hm]
    exact decide_eq_false (fun e => hm e.1)
theorem jn_ext (h : Jn bs D s) (h' : Jn bs D' s') (hd : ∀ j, j < cutN bs → (D j ↔ D' j)) : missL s = missL s' ∧ doneB s = doneB s' ∧ doneL s = doneL s' := by
  have hm : missL s = missL s' := by
    by_cases hn : s.ps = []
    · have hn' : s'.ps = [] := (jn_nil h').2 (fun j hj hx => (jn_nil h).1 hn j hj ((hd j hj).2 hx))
      unfold missL
      rw [hn, hn', (h.ok.none hn).1, (h'.ok.none hn').1]
    · have hn' : s'.ps ≠ [] := fun e => hn ((jn_nil h).2 (fun j hj hx => (jn_nil h').1 e j hj ((hd j hj).1 hx)))
      unfold missL
      rw [jn_max h hn, jn_max h' hn']
      refine missN_congr (fun j hj => ?_)
      by_cases hx : D j
      · rw [h.yes j hj hx, h'.yes j hj ((hd j hj).1 hx)]
      · rw [h.no j hj hx, h'.no j hj (fun y => hx ((hd j hj).2 y))]
  refine ⟨hm, by rw [(jn_done h).1, (jn_done h').1, hm], ?_⟩
  by_cases e : missL s = []
  · rw [(jn_done h).2 e, (jn_done h').2 (hm ▸ e)]
  · have b1 : doneB s = false := by rw [(jn_done h).1, decide_eq_false e]
    have b2 : doneB s' = false := by rw [(jn_done h').1, ← hm, decide_eq_false e]
    unfold doneL
    rw [b1, b2]
    rfl
theorem jn_less (h : Jn bs D s) (hb : bs.length ≤ 8192) {k : Nat} (hk : k < cutN bs) (hn : s.ps ≠ []) : (missL (putS s (cutP bs k))).length ≤ (missL s).length := by
  obtain ⟨h2, hn2⟩ := jn_put h hb hk
  unfold missL
  rw [jn_max h hn, jn_max h2 hn2]
  unfold missN
  rw [List.length_map, List.length_map, ← List.countP_eq_length_filter, ← List.countP_eq_length_filter]
  refine List.countP_mono_left (fun j hj e => ?_)
  have hj := List.mem_range.1 hj
  by_cases hx : D j
  · rw [h2.yes j hj (.inl hx)] at e
    cases e
  · rw [h.no j hj hx]
    rfl
theorem jn_lack (h : Jn bs D s) (hn : s.ps ≠ []) {x : Int} (hx : x ∈ missL s) : ∃ j : Nat, j < cutN bs ∧ x = (j : Int) ∧ ¬ D j := by
  obtain ⟨j, h1, h2, h3⟩ := mem_missN.1 hx
  rw [jn_max h hn] at h1
  refine ⟨j, h1, h2, fun hd => ?_⟩
  rw [h.yes j h1 hd] at h3
  cases h3
end
end Ck
end Go.Proofs.YtokdlkfjimihjaaDoor
