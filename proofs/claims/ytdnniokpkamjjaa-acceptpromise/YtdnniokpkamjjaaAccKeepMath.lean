/- What any call keeps of an acceptor. No condition. -/
import Derived.Test.YtdnniokpkamjjaaAccRan
namespace Go.Proofs.Ytdnniokpkamjjaa
open Go.ChangeShapes Go.WideShapes Go.ChangeAt Go.RowKit B8 Am
set_option linter.unusedVariables false

/-- v is a vote for b's slot, of the same ballot or a greater one -/
def matchB (b v : Vt) : Bool := decide (v.s = b.s) && !lessB v.r v.n b.r b.n
theorem lessB_part {a b c d : Int} (h : lessB a b c d = true) : lessB c d a b = false := by
  simp [lessB] at h ⊢
  omega
/-- what a step keeps -/
structure Kept (s t : As) : Prop where
  prom : lessB t.pr t.pn s.pr s.pn = false
  first : s.first ≤ t.first
  each : ∀ b ∈ s.vs, b.s < t.first ∨ ∃ v ∈ t.vs, matchB b v = true
theorem match_eq {b p : Vv} (h : p.s = b.s) : matchB b.vt p.vt = !lessB p.r p.n b.r b.n := by
  have : decide (p.vt.s = b.vt.s) = true := decide_eq_true h
  unfold matchB
  rw [this]
  rfl
theorem match_ne {b p : Vv} (h : ¬ p.s = b.s) : matchB b.vt p.vt = false := by
  have : decide (p.vt.s = b.vt.s) = false := decide_eq_false h
  unfold matchB
  rw [this]
  rfl
theorem match_self (b : Vt) : matchB b b = true := by simp [matchB, lessB_self]
theorem kept_refl (s : As) : Kept s s := ⟨lessB_self _ _, Int.le_refl _, fun b hb => .inr ⟨b, hb, match_self b⟩⟩
theorem kept_prep {s : As} (h : Ok s) (r n : Int) : Kept s (prepS s r n) := by
  unfold prepS
  split
  · rename_i e
    refine ⟨?_, Int.le_refl _, fun b hb => .inr ⟨b, hb, match_self b⟩⟩
    cases hl : lessB r n s.pr s.pn
    · rfl
    · unfold prepE at e
      rw [hl] at e
      split at e <;> simp at e
  · exact kept_refl s
theorem kept_forg {s : As} (b : Int) : Kept s (forgS s b) := by
  unfold forgS
  split
  · rename_i e
    simp [forgB] at e
    refine ⟨lessB_self _ _, by show s.first ≤ b; omega, fun u hu => ?_⟩
    by_cases h : u.s < b
    · exact .inl h
    · exact .inr ⟨u, List.mem_filter.2 ⟨hu, by simp; omega⟩, match_self u⟩
  · exact kept_refl s
theorem kept_acc {s : As} (h : Ok s) (v : Vt) : Kept s (accS s v) := by
  unfold accS
  split
  · rename_i e
    obtain ⟨hf, hl, h1, h2⟩ := accE_zero e
    refine ⟨hl, Int.le_refl _, fun b hb => .inr ?_⟩
    rcases Int.lt_trichotomy b.s v.s with hc | hc | hc
    · exact ⟨b, by show b ∈ put s.vs v; simp [put, hb, hc], match_self b⟩
    · refine ⟨v, by show v ∈ put s.vs v; simp [put], ?_⟩
      have h3 : lessB v.r v.n b.r b.n = false := lessB_trans (h.below b hb) hl
      simp [matchB, hc, h3]
    · exact ⟨b, by show b ∈ put s.vs v; simp [put, hb, hc], match_self b⟩
  · exact kept_refl s
theorem kept_op {s : As} (h : Ok s) (o : Opd) : Kept s (opS s o) := by
  unfold opS
  split
  · exact kept_prep h _ _
  · split
    · exact kept_forg _
    · exact kept_acc h _
theorem lless_lit {a b c d : Int} {x : Bool} (h : lessB a b c d = x) (w : World) :
    Calls Try.prog 25 #[.agg #[.int .i64 a, .int .i64 b], .agg #[.int .i64 c, .int .i64 d]] w fun e w' => e = .returned (.bool x) ∧ Below w.heap.size w w' :=
  h ▸ (lless_any a b c d w).mono fun e w' ⟨he, hw⟩ => ⟨he, by rw [hw]; exact below_alloc (below_alloc (Below.refl _ _) _) _⟩
end Go.Proofs.Ytdnniokpkamjjaa
