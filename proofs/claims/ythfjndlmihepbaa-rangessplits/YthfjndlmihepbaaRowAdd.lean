/- One more at the end of a row of the call's own: an append by its run. No condition but a size. -/
import Derived.Test.YthfjndlmihepbaaChgMem
import Derived.Test.YthfjndlmihepbaaAppendWide
namespace Go.Proofs.Ythfjndlmihepbaa
open Go.ChangeShapes Go.WideShapes Go.ChangeAt Go.RowKit
set_option linter.unusedVariables false

theorem wp_append_run {ops : Array Oper} {rest : List Oper} {o : Oper} {act : Act} {Q : Exit → Act → World → Prop} (w : World) (hg : o.guard = none) (s x : Operand) (t : TypeId)
    (hop : o.op = Op.call { callee := Callee.builtin Builtin.append, args := #[s, x], argTypes := #[t, t] }) (v : Value) (w' : World) (hr : (Builtin.append_ #[t, t] o.type #[act.eval s, act.eval x]).run Try.prog w = .ok v w') (hK : wpList Try.prog ops Q rest (act.put o.dst v) w') : wpList Try.prog ops Q (o :: rest) act w := by
  refine wpList_plain hg fun K hK' => ?_
  unfold Oper.wp execOp
  simp only [hop, resolve, invoke, builtin, Sem.run_bind, Sem.run_pure, Result.andThen_ok, List.map_toArray, List.map_cons, List.map_nil, hr]
  exact hK' _ _ hK
/-- a row of structs of the call's own, one more: an append by its run, behind the block that the walk makes -/
theorem row_add {t ty T : TypeId} {i : TypeInfo} {z : Value} {size bytes : Nat} (ht : Try.prog.underlying t = some (.slice T)) (hi : Try.prog.info? T = some i) (hz : i.zero = some z) (hs : i.size = size) (hby : i.bytes = bytes) (hzs : z.cells.size = size) (h0 : 0 < size)
    {w : World} {B : Nat} {a : Option Addr} {m c : Nat} {xs : List Value} (h : w.ownsRow B T size (.slice a m c) m xs) (cs : Array Value) (hc : cs.size = size) (h1 : ∀ u ∈ cs, u.oneCell' = true) (hm : m ≤ 9000000000000) (hm2 : (m + 1 + (m + 1) / 4 + 192) * bytes ≤ 281474976710656) (hB : B ≤ w.heap.size) :
    ∃ g cp w', (Builtin.append_ #[t, t] ty #[.slice a m c, .slice (some ⟨w.heap.size, 0, none⟩) 1 1]).run Try.prog (w.alloc (.cells cs T)) = .ok (.slice (some ⟨g, 0, none⟩) (m + 1) cp) w'
      ∧ w'.ownsRow B T size (.slice (some ⟨g, 0, none⟩) (m + 1) cp) (m + 1) (xs ++ cs.toList) ∧ Chg (fun k => (Value.slice a m c).ownBlock = some k) w w' ∧ Below B w w' ∧ ((Value.slice a m c).ownBlock = some g ∨ w.heap.size ≤ g) := by
  have hnew := heap_alloc_new w (.cells cs T)
  have hrow := h.alloc (.cells cs T)
  have hch := (Chg.refl (fun k => (Value.slice a m c).ownBlock = some k) w).alloc (.cells cs T)
  generalize w.alloc (.cells cs T) = w1 at hnew hrow hch ⊢
  have hcell : ∀ j u, cs.toList[j]? = some u → w1.cell? ((⟨w.heap.size, 0, none⟩ : Addr).add j) = some u := fun j u hu => by
    rw [Addr.add_lit, Nat.zero_add, cell_of_row _ _ _ _ _ _ hnew]
    simpa using hu
  obtain ⟨g, cp, wn, hr, ho, hg, hloc⟩ := run_append_where (P := Try.prog) w1 B t ty T i z size bytes ht hi hz hs hby hzs h0 a m c xs hrow
    ⟨w.heap.size, 0, none⟩ 1 1 cs.toList (by simp [hc]) hcell (fun u hu => h1 u (by simpa using hu)) (by omega) (by unfold maxLen; omega) hm2 (Nat.le_trans hB hch.size)
  have hcg := hch.grown hg (fun k hk => .inl hk)
  refine ⟨g, cp, wn, hr, ho, hcg, hcg.below hB (fun k hk => (h.lt k hk).1), ?_⟩
  rcases hloc with e | e
  · exact .inl e
  · exact .inr (by rw [e]; exact hch.size)

theorem step_append_runs {P : Program} {ops : Array Oper} {o : Oper} {act : Act} {K : Act → World → Prop} {Q : Exit → Act → World → Prop} {E : Prop} (w : World) (hg : o.guard = none) (s x : Operand) (t : TypeId)
    (hop : o.op = Op.call { callee := Callee.builtin Builtin.append, args := #[s, x], argTypes := #[t, t] }) {v : Value} {w' : World} (hr : (Builtin.append_ #[t, t] o.type #[act.eval s, act.eval x]).run P w = .ok v w') (hK : K (act.put o.dst v) w') :
    if Region.wanted o (yielded ops act.tmps) = true then Oper.wp P o act w K Q else E := by
  have hw : Region.wanted o (yielded ops act.tmps) = true := by simp [Region.wanted, hg]
  rw [if_pos hw]
  unfold Oper.wp execOp
  simp only [hop, resolve, invoke, builtin, Sem.run_bind, Sem.run_pure, Result.andThen_ok, List.map_toArray, List.map_cons, List.map_nil, hr]
  exact hK
end Go.Proofs.Ythfjndlmihepbaa
