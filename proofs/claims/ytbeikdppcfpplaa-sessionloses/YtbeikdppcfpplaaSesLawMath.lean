/- What the statements of the layer say of tables as plain lists. No program, no condition. -/
import Derived.Test.YtbeikdppcfpplaaSesMath
namespace Go.Proofs.Ytbeikdppcfpplaa
namespace Sn
set_option linter.unusedVariables false

theorem fresh_of {l : List Mk} {c q : Int} (h : beginF l c q = true) : beginE l c q = 0 ∧ Right l ∧ (1 ≤ c ∧ c ≤ 8) ∧ (1 ≤ q ∧ q ≤ 4611686018427387904) ∧ beginL l c q = withL l (opened c q) ∧ mayB (opened c q) = true := by
  have h0 := h
  unfold beginF at h
  simp only [Bool.and_eq_true] at h
  obtain ⟨⟨⟨h1, h2⟩, h3⟩, h4⟩ := h
  have e : beginE l c q = 0 := by
    unfold beginE
    rw [h1, h2, h3]
    simp only [Bool.and_self, if_true]
    cases hl : lkM l c with
    | none => rfl
    | some m =>
      rw [hl] at h4
      simp only [decide_eq_true_eq] at h4
      simp only
      rw [if_neg (by omega)]
  have b2 : 1 ≤ c ∧ c ≤ 8 := by simpa [cliB] using h2
  have b3 : 1 ≤ q ∧ q ≤ 4611686018427387904 := by simpa [seqB] using h3
  refine ⟨e, h1, b2, b3, ?_, may_opened b2 b3⟩
  unfold beginL
  rw [if_pos e, h0]
  rfl
theorem fresh_no {l : List Mk} {c q : Int} (h : ¬ beginE l c q = 0) : beginF l c q = false := by
  cases e : beginF l c q with
  | false => rfl
  | true => exact absurd (fresh_of e).1 h
theorem lk_with_same {l : List Mk} (h : Right l) {m : Mk} (hm : mayB m = true) : lkM (withL l m) m.c = some m := by rw [look_with h hm, if_pos rfl]
theorem lk_with_other {l : List Mk} (h : Right l) {m : Mk} (hm : mayB m = true) {c : Int} (hc : ¬ c = m.c) : lkM (withL l m) c = lkM l c := by rw [look_with h hm, if_neg hc]
theorem openE_of {l : List Mk} {c q : Int} (h : Right l) (hl : lkM l c = some (opened c q)) : openE l c q = 0 := by
  unfold openE openB
  rw [show rightB 0 l = true from h, hl]
  simp [opened]
theorem begin_at {l : List Mk} {c q : Int} {m : Mk} (h : Right l) (hc : 1 ≤ c ∧ c ≤ 8) (hq : 1 ≤ q ∧ q ≤ 4611686018427387904) (hl : lkM l c = some m) : beginE l c q = (if q < m.s then 80 else 0) ∧ beginF l c q = decide (m.s < q) := by
  have h2 : cliB c = true := by simpa [cliB] using hc
  have h3 : seqB q = true := by simpa [seqB] using hq
  unfold beginE beginF
  rw [show rightB 0 l = true from h, h2, h3, hl]
  simp
theorem beginF_low {l : List Mk} {c q : Int} {m : Mk} (hl : lkM l c = some m) (h : q ≤ m.s) : beginF l c q = false := by
  unfold beginF
  rw [hl]
  simp only [decide_eq_false (show ¬ m.s < q by omega), Bool.and_false]
theorem with_with {l : List Mk} (h : Right l) {m y : Mk} (hm : mayB m = true) (hy : mayB y = true) (e : m.c = y.c) : withL (withL l m) y = withL l y := by
  refine tab_ext (right_with (right_with h hm) hy) (right_with h hy) fun c => ?_
  rw [look_with (right_with h hm) hy, look_with h hy, look_with h hm]
  by_cases hc : c = y.c
  · rw [if_pos hc, if_pos hc]
  · rw [if_neg hc, if_neg hc, if_neg (by rw [e]; exact hc)]
theorem look_join {a b : List Mk} (ha : Right a) (hb : Right b) (c : Int) : lkM (joinL a b) c = pick (lkM a c) (lkM b c) := by
  have e : joinE a b = 0 := by simp [joinE, show rightB 0 a = true from ha, show rightB 0 b = true from hb]
  unfold joinL
  rw [if_pos e, look_tab_all (good_join ha hb)]
  rfl
theorem joinE_ok {a b : List Mk} (ha : Right a) (hb : Right b) : joinE a b = 0 := by simp [joinE, show rightB 0 a = true from ha, show rightB 0 b = true from hb]
theorem right_join {a b : List Mk} (ha : Right a) (hb : Right b) : Right (joinL a b) := by
  unfold joinL
  rw [if_pos (joinE_ok ha hb)]
  exact right_tab (good_join ha hb)
theorem pick_ge {f g : Option Mk} {x : Mk} {q : Int} (hf : f = some x) (hx : q ≤ x.s) : ∃ z, pick f g = some z ∧ q ≤ z.s := by
  subst hf
  cases g with
  | none => exact ⟨x, rfl, hx⟩
  | some y =>
    unfold pick
    by_cases h : aheadB y x = true
    · refine ⟨y, by simp only; rw [if_pos h], ?_⟩
      unfold aheadB at h
      by_cases e : y.s = x.s
      · omega
      · rw [if_neg e] at h
        simp at h
        omega
    · exact ⟨x, by simp only; rw [if_neg h], hx⟩
theorem pick_ge' {f g : Option Mk} {y : Mk} {q : Int} (hg : g = some y) (hy : q ≤ y.s) : ∃ z, pick f g = some z ∧ q ≤ z.s := by
  subst hg
  cases f with
  | none => exact ⟨y, rfl, hy⟩
  | some x =>
    unfold pick
    by_cases h : aheadB y x = true
    · exact ⟨y, by simp only; rw [if_pos h], hy⟩
    · refine ⟨x, by simp only; rw [if_neg h], ?_⟩
      unfold aheadB at h
      by_cases e : y.s = x.s
      · omega
      · rw [if_neg e] at h
        simp at h
        omega
theorem ahead_irrefl (x : Mk) : aheadB x x = false := by unfold aheadB; rw [if_pos rfl]; cases x.o <;> rfl
theorem pick_self (f : Option Mk) : pick f f = f := by
  cases f with
  | none => rfl
  | some x => simp [pick, ahead_irrefl]
/-- what ranks a mark -/
theorem ahead_iff (x y : Mk) : aheadB y x = true ↔ x.s < y.s ∨ (y.s = x.s ∧ x.o = true ∧ y.o = false) := by
  unfold aheadB
  by_cases e : y.s = x.s
  · rw [if_pos e]
    cases x.o <;> cases y.o <;> simp <;> omega
  · rw [if_neg e]
    simp
    omega
theorem pick_assoc (f g h : Option Mk) : pick (pick f g) h = pick f (pick g h) := by
  cases f with
  | none => rfl
  | some x =>
    cases g with
    | none => cases h <;> rfl
    | some y =>
      cases h with
      | none => by_cases h1 : aheadB y x = true <;> simp [pick, h1]
      | some z =>
        have a1 := ahead_iff x y
        have a2 := ahead_iff y z
        have a3 := ahead_iff x z
        by_cases h1 : aheadB y x = true
        · by_cases h2 : aheadB z y = true
          · have h3 : aheadB z x = true := by
              rw [a3]
              rw [a1] at h1
              rw [a2] at h2
              rcases h1 with h1 | ⟨h1, h1', h1''⟩ <;> rcases h2 with h2 | ⟨h2, h2', h2''⟩
              · left; omega
              · left; omega
              · left; omega
              · rw [h1''] at h2'; cases h2'
            simp [pick, h1, h2, h3]
          · simp [pick, h1, h2]
        · by_cases h2 : aheadB z y = true
          · simp [pick, h1, h2]
          · have h3 : ¬ aheadB z x = true := by
              intro h3
              rw [a3] at h3
              rw [a1] at h1
              rw [a2] at h2
              rcases h3 with h3 | ⟨h3, h3', h3''⟩
              · by_cases e1 : y.s = x.s
                · exact h2 (.inl (by omega))
                · exact h2 (.inl (by
                    have : ¬ x.s < y.s := fun hh => h1 (.inl hh)
                    omega))
              · by_cases e1 : y.s = x.s
                · cases hy : y.o with
                  | true => exact h2 (.inr ⟨by omega, hy, h3''⟩)
                  | false => exact h1 (.inr ⟨e1, h3', hy⟩)
                · have : ¬ x.s < y.s := fun hh => h1 (.inl hh)
                  exact h2 (.inl (by omega))
            simp [pick, h1, h2, h3]
theorem pick_comm {f g : Option Mk} (h : ∀ x y, f = some x → g = some y → y.s = x.s → x.o = y.o → x = y) : pick f g = pick g f := by
  cases f with
  | none => cases g <;> rfl
  | some x =>
    cases g with
    | none => rfl
    | some y =>
      have a1 := ahead_iff x y
      have a2 := ahead_iff y x
      by_cases h1 : aheadB y x = true
      · have h2 : ¬ aheadB x y = true := by
          intro h2
          rw [a1] at h1
          rw [a2] at h2
          rcases h1 with h1 | ⟨h1, h1', h1''⟩ <;> rcases h2 with h2 | ⟨h2, h2', h2''⟩
          · omega
          · omega
          · omega
          · rw [h1''] at h2'; cases h2'
        simp [pick, h1, h2]
      · by_cases h2 : aheadB x y = true
        · simp [pick, h1, h2]
        · have e : y.s = x.s := by
            rcases Int.lt_trichotomy x.s y.s with hh | hh | hh
            · exact absurd (a1.2 (.inl hh)) h1
            · exact hh.symm
            · exact absurd (a2.2 (.inl hh)) h2
          have eo : x.o = y.o := by
            cases hx : x.o <;> cases hy : y.o
            · rfl
            · exact absurd (a2.2 (.inr ⟨e.symm, hy, hx⟩)) h2
            · exact absurd (a1.2 (.inr ⟨e, hx, hy⟩)) h1
            · rfl
          have := h x y rfl rfl e eo
          subst this
          simp [pick, h1]
theorem join_self {a : List Mk} (ha : Right a) : joinL a a = a := tab_ext (right_join ha ha) ha fun c => by rw [look_join ha ha, pick_self]
theorem join_assoc {a b c : List Mk} (ha : Right a) (hb : Right b) (hc : Right c) : joinL (joinL a b) c = joinL a (joinL b c) :=
  tab_ext (right_join (right_join ha hb) hc) (right_join ha (right_join hb hc)) fun k => by
    rw [look_join (right_join ha hb) hc, look_join ha hb, look_join ha (right_join hb hc), look_join hb hc, pick_assoc]
/-- are two marks of one Seq both ended with unlike answers? -/
def clashB (x m : Mk) : Bool := decide (m.s = x.s) && !m.o && !x.o && decide (¬ m.a = x.a)
theorem join_comm {a b : List Mk} (ha : Right a) (hb : Right b) (h : ∀ (k : Nat) (x m : Mk), a[k]? = some x → lkM b x.c = some m → clashB x m = false) : joinL a b = joinL b a := by
  refine tab_ext (right_join ha hb) (right_join hb ha) fun c => ?_
  rw [look_join ha hb, look_join hb ha]
  refine pick_comm fun x y hx hy es eo => ?_
  obtain ⟨hm, hxc⟩ := look_mem hx
  obtain ⟨k, hk, e⟩ := List.getElem_of_mem hm
  obtain ⟨hm2, hyc⟩ := look_mem hy
  have hcl := h k x y (by rw [List.getElem?_eq_getElem hk, e]) (by rw [hxc]; exact hy)
  have mx := (good_look ha _ _ hx).2
  have my := (good_look hb _ _ hy).2
  obtain ⟨xc, xs, xo, xa⟩ := x
  obtain ⟨yc, ys, yo, ya⟩ := y
  simp only at hxc hyc es eo
  subst hxc
  subst es
  subst eo
  subst hyc
  cases xo with
  | true =>
    have h1 := (mayB_open mx rfl).2
    have h2 := (mayB_open my rfl).2
    simp only at h1 h2
    rw [h1, h2]
  | false =>
    simp [clashB] at hcl
    rw [hcl]
end Sn
end Go.Proofs.Ytbeikdppcfpplaa
