/- Ballots gathered one by one into a list of the call's own. No condition. -/
import Derived.Test.YtlcccaiahmbkpaaBallotLists
import Derived.Test.YtlcccaiahmbkpaaBallotBestMath
import Derived.Test.YtlcccaiahmbkpaaAppendWide
namespace Go.Proofs.Ytlcccaiahmbkpaa
open Go.ChangeShapes Go.WideShapes Go.ChangeAt Go.RowKit
set_option linter.unusedVariables false

theorem wp_append_run {ops : Array Oper} {rest : List Oper} {o : Oper} {act : Act} {Q : Exit → Act → World → Prop} (w : World) (hg : o.guard = none) (s x : Operand) (t : TypeId)
    (hop : o.op = Op.call { callee := Callee.builtin Builtin.append, args := #[s, x], argTypes := #[t, t] }) (v : Value) (w' : World) (hr : (Builtin.append_ #[t, t] o.type #[act.eval s, act.eval x]).run Try.prog w = .ok v w') (hK : wpList Try.prog ops Q rest (act.put o.dst v) w') : wpList Try.prog ops Q (o :: rest) act w := by
  refine wpList_plain hg fun K hK' => ?_
  unfold Oper.wp execOp
  simp only [hop, resolve, invoke, builtin, Sem.run_bind, Sem.run_pure, Result.andThen_ok, List.map_toArray, List.map_cons, List.map_nil, hr]
  exact hK' _ _ hK
def bcells (f : Nat → Int × Int) : Nat → List Value
  | 0 => []
  | k + 1 => bcells f k ++ bc (f k)
theorem bcells_length (f : Nat → Int × Int) : ∀ k, (bcells f k).length = k * 2
  | 0 => rfl
  | k + 1 => by simp [bcells, bcells_length f k, bc]; omega
theorem bcells_at (f : Nat → Int × Int) (o : Nat) (ho : o < 2) : ∀ k j, j < k → (bcells f k)[j * 2 + o]? = (bc (f j))[o]?
  | 0, j, h => absurd h (by omega)
  | k + 1, j, h => by
    have hl := bcells_length f k
    by_cases e : j = k
    · subst e
      rw [bcells, List.getElem?_append_right (by omega), show j * 2 + o - (bcells f j).length = o by omega]
    · rw [bcells, List.getElem?_append_left (by omega)]
      exact bcells_at f o ho k j (by omega)
theorem balinfo : (Try.prog.info? 23).map (fun i => (i.zero, i.size, i.bytes)) = some (some (.agg #[.int .i64 0, .int .i64 0]), 2, 16) := by kernel_rfl
structure Gb (w wr : World) (f : Nat → Int × Int) (k : Nat) (a : Option Addr) (c : Nat) : Prop where
  below : Below w.heap.size w wr
  row : wr.ownsRow w.heap.size 23 2 (.slice a k c) k (bcells f k)
theorem room_ok {k : Nat} (hk : (k + 1) * 24 ≤ 140737488351232) : k + 1 ≤ maxLen ∧ ((k + 1) + (k + 1) / 4 + 192) * 16 ≤ 281474976710656 := by
  unfold maxLen
  omega
theorem gb_add {w wr : World} {f : Nat → Int × Int} {k : Nat} {a : Option Addr} {c : Nat} (h : Gb w wr f k a c) (hk : (k + 1) * 24 ≤ 140737488351232) (ty : TypeId) :
    ∃ b cp wn, (Builtin.append_ #[24, 24] ty #[.slice a k c, .slice (some ⟨wr.heap.size, 0, none⟩) 1 1]).run Try.prog (wr.alloc (.cells #[.int .i64 (f k).1, .int .i64 (f k).2] 23)) = .ok (.slice (some ⟨b, 0, none⟩) (k + 1) cp) wn ∧ Gb w wn f (k + 1) (some ⟨b, 0, none⟩) cp := by
  obtain ⟨i0, hi, hz0, hz1, hz2⟩ := info_parts balinfo
  have hb1 := below_alloc h.below (.cells #[.int .i64 (f k).1, .int .i64 (f k).2] 23)
  have hnew := heap_alloc_new wr (.cells #[.int .i64 (f k).1, .int .i64 (f k).2] 23)
  have hrow := h.row.alloc (.cells #[.int .i64 (f k).1, .int .i64 (f k).2] 23)
  generalize wr.alloc (.cells #[.int .i64 (f k).1, .int .i64 (f k).2] 23) = w1 at hb1 hnew hrow ⊢
  have hcell : ∀ j u, (bc (f k))[j]? = some u → w1.cell? ((⟨wr.heap.size, 0, none⟩ : Addr).add j) = some u := fun j u hu => by
    rw [Addr.add_lit, Nat.zero_add, cell_of_row _ _ _ _ _ _ hnew]
    match j, hu with
    | 0, hu => exact hu
    | 1, hu => exact hu
  have hone : ∀ u ∈ bc (f k), u.oneCell' = true := by intro u hu; simp [bc] at hu; rcases hu with rfl | rfl <;> rfl
  obtain ⟨h63, hby⟩ := room_ok hk
  have hlen : (bc (f k)).length = 1 * 2 := rfl
  obtain ⟨b, cp, wn, hr, ho, hg, _⟩ := run_append_where (P := Try.prog) w1 w.heap.size 24 ty 23 i0 (.agg #[.int .i64 0, .int .i64 0]) 2 16 Try.underlying24 hi hz0 hz1 hz2 rfl (Nat.succ_pos 1) a k c (bcells f k) hrow
    ⟨wr.heap.size, 0, none⟩ 1 1 (bc (f k)) hlen hcell hone (Nat.succ_pos 0) h63 hby hb1.size
  refine ⟨b, cp, wn, hr, ⟨hb1.grown hg hb1.size fun j hj => ?_, ho⟩⟩
  exact (hrow.lt j hj).1
theorem Gb.rows {w wr : World} {f : Nat → Int × Int} {k : Nat} {a : Option Addr} {c : Nat} (h : Gb w wr f k a c) (hk : k * 24 ≤ 140737488351232) : Rws wr 2 16 a k (fun j => bc (f j)) := by
  refine ⟨fun h0 => ?_, by omega⟩
  have hr := h.row
  obtain ⟨_, ⟨_, h2⟩ | ⟨g, cp, cur, e1, h3, h4, h5, h6, h7, h8⟩⟩ := id hr
  · omega
  · obtain ⟨rfl, rfl⟩ : a = some ⟨g, 0, none⟩ ∧ c = cp := by simpa using e1
    refine ⟨g, 0, rfl, ?_, fun j hj o v hv => ?_⟩
    · exact (Array.getElem?_eq_some_iff.1 h4).1
    · have ho : o < 2 := by have := (List.getElem?_eq_some_iff.1 hv).1; simpa [bc] using this
      rw [Nat.zero_add, hr.cellAt (j * 2 + o) (by omega), bcells_at f o ho k j hj]
      exact hv
end Go.Proofs.Ytlcccaiahmbkpaa
