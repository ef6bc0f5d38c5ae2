/- Appending a list to a row of the call's own: where the new row lies; the same as a step of a region that draws its order. No condition. -/
import Derived.Test.YtbgejpkkocedbaaSq8
import Derived.Maps.AppendAt
import Derived.Deep.RegionLaw
namespace Go.Proofs.Ytbgejpkkocedbaa
namespace B8
open Go.ChangeShapes Go.WideShapes Go.ChangeAt Go.RowKit
set_option linter.unusedVariables false

theorem run_append_sq (w : World) (ty : TypeId) (B : Nat) (v : Value) (n : Nat) (zs : List Int) (hown : w.ownsRow B 5 1 v n (vals zs))
    (a : Option Addr) (m c : Nat) (bs : List Int) (hsq : Sq w a m c bs) (hr : (n + m) * 1 ≤ 140737488355328) (hB : B ≤ w.heap.size) :
    ∃ v' w', (Builtin.append_ #[31, 31] ty #[v, .slice a m c]).run Try.prog w = .ok v' w' ∧ w'.ownsRow B 5 1 v' (n + m) (vals (zs ++ bs)) ∧ w.grownBy w' v.ownBlock ∧ (v'.ownBlock = v.ownBlock ∨ v'.ownBlock = some w.heap.size) := by
  obtain ⟨i0, hi, hz0, hz1, hz2⟩ := info_parts info
  cases a with
  | none =>
    obtain ⟨rfl, rfl⟩ := hsq.noAddr rfl
    have hb : bs = [] := List.eq_nil_of_length_eq_zero hsq.length
    subst hb
    refine ⟨v, w, run_append_owned_none w B 31 ty 5 i0 1 Try.underlying31 hi v n (vals zs) hown, ?_, grownBy_refl _ _, .inl rfl⟩
    rw [List.append_nil]
    exact hown
  | some ad =>
    obtain ⟨v', w', h1, h2, h3, _, h5⟩ := run_append_own_at (P := Try.prog) w B 31 ty 5 i0 (.int .u8 0) 1 1 Try.underlying31 hi hz0 hz1 hz2 rfl (by decide) v n (vals zs) hown ad m c (vals bs) hsq.valsLength (hsq.news ad rfl) (vals_one _) (by unfold maxLen; omega) (by omega) hB
    refine ⟨v', w', h1, ?_, h3, h5⟩
    rw [vals_append]
    exact h2

theorem row_block {w : World} {B n : Nat} {v : Value} {xs : List Value} (h : w.ownsRow B 5 1 v n xs) {g : Nat} (hg : v.ownBlock = some g) : ∃ cp, v = .slice (some ⟨g, 0, none⟩) n cp := by
  obtain ⟨_, ⟨rfl, _⟩ | ⟨g', cp, cur, rfl, _⟩⟩ := h
  · simp [Value.ownBlock] at hg
  · simp [Value.ownBlock] at hg
    subst hg
    exact ⟨cp, rfl⟩
/-- onto a row that is there, the new row written out -/
theorem run_append_out (w : World) (ty : TypeId) (B g0 c0 n : Nat) (zs : List Int) (hown : w.ownsRow B 5 1 (.slice (some ⟨g0, 0, none⟩) n c0) n (vals zs))
    (a : Option Addr) (m c : Nat) (bs : List Int) (hsq : Sq w a m c bs) (hr : (n + m) * 1 ≤ 140737488355328) (hB : B ≤ w.heap.size) :
    ∃ g cp w', (Builtin.append_ #[31, 31] ty #[.slice (some ⟨g0, 0, none⟩) n c0, .slice a m c]).run Try.prog w = .ok (.slice (some ⟨g, 0, none⟩) (n + m) cp) w' ∧ w'.ownsRow B 5 1 (.slice (some ⟨g, 0, none⟩) (n + m) cp) (n + m) (vals (zs ++ bs)) ∧ w.grownBy w' (some g0) ∧ (g = g0 ∨ g = w.heap.size) := by
  obtain ⟨v', w', h1, h2, h3, h4⟩ := run_append_sq w ty B _ n zs hown a m c bs hsq hr hB
  obtain ⟨g, hg, ho⟩ : ∃ g, v'.ownBlock = some g ∧ (g = g0 ∨ g = w.heap.size) := by
    rcases h4 with h4 | h4
    · exact ⟨g0, h4, .inl rfl⟩
    · exact ⟨_, h4, .inr rfl⟩
  obtain ⟨cp, rfl⟩ := row_block h2 hg
  exact ⟨g, cp, w', h1, h2, h3, ho⟩

/-- at the operation -/
theorem wp_append_at {ops : Array Oper} {rest : List Oper} {o : Oper} {act : Act} {Q : Exit → Act → World → Prop} (w : World) (hg : o.guard = none) (s x : Operand)
    (hop : o.op = Op.call { callee := Callee.builtin Builtin.append, args := #[s, x], argTypes := #[31, 31] })
    (B g0 c0 n : Nat) (zs : List Int) (hs : act.eval s = .slice (some ⟨g0, 0, none⟩) n c0) (hown : w.ownsRow B 5 1 (.slice (some ⟨g0, 0, none⟩) n c0) n (vals zs))
    (a : Option Addr) (m c : Nat) (bs : List Int) (hx : act.eval x = .slice a m c) (hsq : Sq w a m c bs) (hr : (n + m) * 1 ≤ 140737488355328) (hB : B ≤ w.heap.size)
    (hK : ∀ g cp w', w'.ownsRow B 5 1 (.slice (some ⟨g, 0, none⟩) (n + m) cp) (n + m) (vals (zs ++ bs)) → w.grownBy w' (some g0) → (g = g0 ∨ g = w.heap.size) → wpList Try.prog ops Q rest (act.put o.dst (.slice (some ⟨g, 0, none⟩) (n + m) cp)) w') :
    wpList Try.prog ops Q (o :: rest) act w := by
  refine wpList_plain hg fun K hK' => ?_
  obtain ⟨g, cp, w', hr, h2, h3, h4⟩ := run_append_out w o.type B g0 c0 n zs hown a m c bs hsq hr hB
  unfold Oper.wp execOp
  simp only [hop, resolve, invoke, builtin, Sem.run_bind, Sem.run_pure, Result.andThen_ok, List.map_toArray, List.map_cons, List.map_nil, hs, hx, hr]
  exact hK' _ _ (hK g cp w' h2 h3 h4)

/-- as a step of a region that draws its order -/
theorem step_append_sq {ops : Array Oper} {o : Oper} {act : Act} {K : Act → World → Prop} {Q : Exit → Act → World → Prop} {E : Prop} (w : World) (hg : o.guard = none) (s x : Operand)
    (hop : o.op = Op.call { callee := Callee.builtin Builtin.append, args := #[s, x], argTypes := #[31, 31] })
    (B g0 c0 n : Nat) (zs : List Int) (hs : act.eval s = .slice (some ⟨g0, 0, none⟩) n c0) (hown : w.ownsRow B 5 1 (.slice (some ⟨g0, 0, none⟩) n c0) n (vals zs))
    (a : Option Addr) (m c : Nat) (bs : List Int) (hx : act.eval x = .slice a m c) (hsq : Sq w a m c bs) (hr : (n + m) * 1 ≤ 140737488355328) (hB : B ≤ w.heap.size)
    (hK : ∀ g cp w', w'.ownsRow B 5 1 (.slice (some ⟨g, 0, none⟩) (n + m) cp) (n + m) (vals (zs ++ bs)) → w.grownBy w' (some g0) → (g = g0 ∨ g = w.heap.size) → K (act.put o.dst (.slice (some ⟨g, 0, none⟩) (n + m) cp)) w') :
    if Region.wanted o (yielded ops act.tmps) = true then Oper.wp Try.prog o act w K Q else E := by
  have hw : Region.wanted o (yielded ops act.tmps) = true := by simp [Region.wanted, hg]
  rw [if_pos hw]
  obtain ⟨g, cp, w', hr, h2, h3, h4⟩ := run_append_out w o.type B g0 c0 n zs hown a m c bs hsq hr hB
  unfold Oper.wp execOp
  simp only [hop, resolve, invoke, builtin, Sem.run_bind, Sem.run_pure, Result.andThen_ok, List.map_toArray, List.map_cons, List.map_nil, hs, hx, hr]
  exact hK g cp w' h2 h3 h4
end B8
end Go.Proofs.Ytbgejpkkocedbaa
