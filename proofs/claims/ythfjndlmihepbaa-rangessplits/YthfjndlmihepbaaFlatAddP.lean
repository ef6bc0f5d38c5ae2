/- One flat struct more at the end of a list of the call's own: an append by its run. No condition but a small length. -/
import Derived.Test.YthfjndlmihepbaaFlatFnP
import Derived.Test.YthfjndlmihepbaaRowAdd
namespace Go.Proofs.Ythfjndlmihepbaa
namespace FnP
open Go.ChangeShapes Go.WideShapes Go.ChangeAt Go.RowKit Rg
set_option linter.unusedVariables false

theorem add_any {w : World} {B : Nat} {a : Option Addr} {m c : Nat} {l : List Pc} (h : w.ownsRow B 39 3 (.slice a m c) m (fcells penc l)) (hm : m * 32 ≤ 140737488355328) (hB : B ≤ w.heap.size) (mk : Pc) (ty : TypeId) :
    ∃ g cp w', (Builtin.append_ #[22, 22] ty #[.slice a m c, .slice (some ⟨w.heap.size, 0, none⟩) 1 1]).run Try.prog (w.alloc (.cells #[.int .i64 mk.g, .string mk.k, .int .i64 mk.ep] 39)) = .ok (.slice (some ⟨g, 0, none⟩) (m + 1) cp) w'
      ∧ w'.ownsRow B 39 3 (.slice (some ⟨g, 0, none⟩) (m + 1) cp) (m + 1) (fcells penc (l ++ [mk])) ∧ Chg (fun k => (Value.slice a m c).ownBlock = some k) w w' ∧ Below B w w' := by
  obtain ⟨i0, hi, hz0, hz1, hz2⟩ := info_parts info
  obtain ⟨g, cp, w', hr, ho, hc, hb, _⟩ := row_add (ty := ty) Try.underlying22 hi hz0 hz1 hz2 rfl (by omega) h #[.int .i64 mk.g, .string mk.k, .int .i64 mk.ep] rfl (fun u hu => pflat.one mk u (by simpa [penc] using hu)) (by omega) (by omega) hB
  refine ⟨g, cp, w', hr, ?_, hc, hb⟩
  rw [fcells_append, fcells_one1]
  exact ho
/-- likewise, and where it lies -/
theorem add_where {w : World} {B : Nat} {a : Option Addr} {m c : Nat} {l : List Pc} (h : w.ownsRow B 39 3 (.slice a m c) m (fcells penc l)) (hm : m * 32 ≤ 140737488355328) (hB : B ≤ w.heap.size) (mk : Pc) (ty : TypeId) :
    ∃ g cp w', (Builtin.append_ #[22, 22] ty #[.slice a m c, .slice (some ⟨w.heap.size, 0, none⟩) 1 1]).run Try.prog (w.alloc (.cells #[.int .i64 mk.g, .string mk.k, .int .i64 mk.ep] 39)) = .ok (.slice (some ⟨g, 0, none⟩) (m + 1) cp) w'
      ∧ w'.ownsRow B 39 3 (.slice (some ⟨g, 0, none⟩) (m + 1) cp) (m + 1) (fcells penc (l ++ [mk])) ∧ Chg (fun k => (Value.slice a m c).ownBlock = some k) w w' ∧ Below B w w' ∧ ((Value.slice a m c).ownBlock = some g ∨ w.heap.size ≤ g) := by
  obtain ⟨i0, hi, hz0, hz1, hz2⟩ := info_parts info
  obtain ⟨g, cp, w', hr, ho, hc, hb, hl⟩ := row_add (ty := ty) Try.underlying22 hi hz0 hz1 hz2 rfl (by omega) h #[.int .i64 mk.g, .string mk.k, .int .i64 mk.ep] rfl (fun u hu => pflat.one mk u (by simpa [penc] using hu)) (by omega) (by omega) hB
  refine ⟨g, cp, w', hr, ?_, hc, hb, hl⟩
  rw [fcells_append, fcells_one1]
  exact ho
end FnP
end Go.Proofs.Ythfjndlmihepbaa
