/- A box that the law itself drives: all of it lies behind what there was. No condition. -/
import Derived.Test.YtanfmpeblhegpaaDoorChuOpen
import Derived.Test.YtanfmpeblhegpaaDoorCodecRefSum
import Derived.Test.YtanfmpeblhegpaaDoorHeldK
namespace Go.Proofs.YtanfmpeblhegpaaDoor
open Go.ChangeShapes Go.WideShapes Go.ChangeAt Go.RowKit B8 Ck
set_option linter.unusedVariables false

/-- a box that was made since W -/
structure BxN (W w : World) (B : Nat) (mo : Option Nat) (s : Bx) : Prop where
  below : Below W.heap.size W w
  bm : Bm w (fun _ => True) B mo s
  base : ∀ k, BM B mo k → W.heap.size ≤ k
section
variable {W w w' : World} {B : Nat} {mo : Option Nat} {s s' : Bx}
theorem BxN.next (h : BxN W w B mo s) (hb : Below w.heap.size w w') : BxN W w' B mo s := ⟨below_step h.below hb, h.bm.below hb, h.base⟩
theorem BxN.mv (h : BxN W w B mo s) (hm : Mv w (fun _ => True) B mo s' w') : ∃ mo', BxN W w' B mo' s' := by
  obtain ⟨h1, mo', h2, h3⟩ := hm
  refine ⟨mo', h.below.trans (h1.below h.below.size h.base), h2, fun k hk => ?_⟩
  rcases hk with hk | hk
  · exact h.base k (.inl hk)
  · rcases h3 k hk with h4 | h4
    · exact h.base k (.inr h4)
    · exact Nat.le_trans h.below.size h4
theorem BxN.put (h : BxN W w B mo s) {p : Pv} (hp : POk w (fun _ => True) p) :
    Calls Tryd.prog 8 #[.pointer (some ⟨B, 0, none⟩), .agg #[.int .i64 p.k, .int .i64 p.of, .int .u32 p.sum, .slice p.a p.m p.cp]] w fun e w' => e = .returned (.int .i64 (putE s p.pc)) ∧ (∃ mo', BxN W w' B mo' (putS s p.pc)) ∧ Chg (BM B mo) w w' :=
  (put_any h.bm hp (fun _ _ => trivial)).mono fun e w' ⟨h1, h2⟩ => ⟨h1, h.mv h2, h2.1⟩
theorem bxn_new (w : World) (hW : Below W.heap.size W w) :
    Calls Tryd.prog 4 #[] w fun e w' => e = .returned (.pointer (some ⟨w.heap.size, 0, none⟩)) ∧ Below w.heap.size w w' ∧ BxN W w' w.heap.size none newS :=
  (new_any w).mono fun e w' ⟨h1, h2, h3⟩ => ⟨h1, h2, below_step hW h2, h3 _, fun k hk => by
    rcases hk with rfl | hk
    · exact hW.size
    · cases hk⟩
theorem any_ok {P : Nat → Prop} {p : Pv} (h : POk w P p) : POk w (fun _ => True) p := h.mono (fun _ _ _ => trivial)
end
theorem missL_wfs (s : Bx) (h : Ok s) : I8.wfs (missL s) := fun j => by
  have hb : ∀ x ∈ missL s, 0 ≤ x ∧ x < 100 := fun x hx => by
    obtain ⟨i, h1, h2, _⟩ := mem_missN.1 hx
    have := h.of
    omega
  by_cases hj : j < (missL s).length
  · rw [List.getElem?_eq_getElem hj]
    have := hb _ (List.getElem_mem hj)
    exact wf64 (by simp; omega) (by simp; omega)
  · rw [List.getElem?_eq_none (by omega)]
    decide
theorem wfs_cat {ps : List (Int × List Int)} (h : ∀ q ∈ ps, wfs q.2) (n : Nat) : wfs (catN ps n) := by
  induction n with
  | zero => exact wfs_nil
  | succ n ih =>
    rw [catN_succ]
    refine wfs_append ih ?_
    cases hl : lookP ps (n : Int) with
    | none => exact wfs_nil
    | some b => exact h _ (look_mem hl)
theorem Bm.wfsD {w : World} {P : Nat → Prop} {B : Nat} {mo : Option Nat} {s : Bx} (h : Bm w P B mo s) : wfs (doneL s) := by
  unfold doneL
  split
  · refine wfs_cat (fun q hq => ?_) _
    obtain ⟨l, _, h2, h3⟩ := h.ex
    rw [h2] at hq
    obtain ⟨v, hv, rfl⟩ := List.mem_map.1 hq
    exact (h3 v hv).1.wf
  · exact wfs_nil
theorem BxN.drew {W w : World} {B : Nat} {mo : Option Nat} {s : Bx} (h : BxN W w B mo s) : BxN W w.drew B mo s := h.next ((Below.refl _ _).drew)
/-- a row of the law's own stays where a box is written -/
theorem row_box {w w' : World} {P : Nat → Prop} {B B0 T sz n : Nat} {mo : Option Nat} {s : Bx} {v : Value} {xs : List Value} (h : w.ownsRow B0 T sz v n xs) (hT : T ≠ 48) (hb : Bm w P B mo s) (hc : Chg (BM B mo) w w') : w'.ownsRow B0 T sz v n xs := by
  refine row_same h (fun k hk => hc.block k (h.lt k hk).2 (fun hm => ?_))
  obtain ⟨_, ⟨e, _⟩ | ⟨g, cp, cur, e, _, hg, _⟩⟩ := h
  · rw [e] at hk; cases hk
  · rw [e] at hk
    have hgk : g = k := by simpa [Value.ownBlock] using hk
    subst hgk
    rcases hm with rfl | hm
    · rw [hb.row] at hg
      simp at hg
      exact hT hg.2.symm
    · obtain ⟨l, hmo, _⟩ := hb.ex
      obtain ⟨es, clock, hh⟩ := hmo.isMap g hm
      rw [hh] at hg
      cases hg
theorem sumB_fsum (bs : List Int) : sumB bs = fsum bs := rfl
theorem put_cases (s : Bx) (p : Pc) : putE s p = 0 ∨ putE s p = 21 ∨ putE s p = 120 := by
  unfold putE
  split
  · simp
  · split <;> simp
theorem putS_ne {s : Bx} {p : Pc} (h : ¬ putE s p = 0) : putS s p = s := by simp [putS, h]
theorem putS_eq {s : Bx} {p : Pc} (h : putE s p = 0) : putS s p = ⟨p.of, p.sum, put s.ps p.k p.b⟩ := by simp [putS, h]
theorem put_ne_nil (ps : List (Int × List Int)) (k : Int) (b : List Int) : put ps k b ≠ [] := fun e => by
  have : (k, b) ∈ put ps k b := mem_put.2 (.inl rfl)
  rw [e] at this
  simp at this
/-- a box that has pieces keeps its sum -/
theorem put_sum {s : Bx} (hn : s.ps ≠ []) (p : Pc) : (putS s p).sum = s.sum ∧ (putS s p).ps ≠ [] ∧ (putE s p = 0 → p.sum = s.sum) := by
  by_cases h : putE s p = 0
  · have hf := of_decide_eq_true (putE_zero.1 h).2
    rcases hf with hf | ⟨_, hf, _⟩
    · exact absurd hf hn
    · rw [putS_eq h]
      exact ⟨hf.symm, put_ne_nil _ _ _, fun _ => hf.symm⟩
  · rw [putS_ne h]
    exact ⟨rfl, hn, fun e => absurd e h⟩
theorem done_sum {s : Bx} (h : doneB s = true) : s.ps ≠ [] ∧ ((fsum (doneL s) : Nat) : Int) = s.sum := by
  have h1 := of_decide_eq_true h
  refine ⟨fun e => ?_, by unfold doneL; rw [if_pos h]; exact h1.2⟩
  have h2 := h1.1
  have := missN_nil.1 h2 0 (by omega)
  rw [e] at this
  simp [lookP] at this
theorem done_no {s : Bx} (h : doneB s = false) : doneL s = [] := by unfold doneL; rw [h]; rfl
end Go.Proofs.YtanfmpeblhegpaaDoor
