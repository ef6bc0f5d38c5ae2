/- One flat struct more at the end of a list of the call's own: an append by its run. No condition but a small length. -/
import Derived.Test.YtjcbhgkfbilifaaFlatFnR
import Derived.Test.YtjcbhgkfbilifaaRowAdd
namespace Go.Proofs.Ytjcbhgkfbilifaa
namespace FnR
open Go.ChangeShapes Go.WideShapes Go.ChangeAt Go.RowKit Lg
set_option linter.unusedVariables false

theorem add_any {w : World} {B : Nat} {a : Option Addr} {m c : Nat} {l : List Rt} (h : w.ownsRow B 43 4 (.slice a m c) m (fcells renc l)) (hm : m * 40 ≤ 140737488355328) (hB : B ≤ w.heap.size) (mk : Rt) (ty : TypeId) :
    ∃ g cp w', (Builtin.append_ #[41, 41] ty #[.slice a m c, .slice (some ⟨w.heap.size, 0, none⟩) 1 1]).run Try.prog (w.alloc (.cells #[.int .i64 mk.g, .string mk.k, .int .i64 mk.ls, .int .i64 mk.nt] 43)) = .ok (.slice (some ⟨g, 0, none⟩) (m + 1) cp) w'
      ∧ w'.ownsRow B 43 4 (.slice (some ⟨g, 0, none⟩) (m + 1) cp) (m + 1) (fcells renc (l ++ [mk])) ∧ Chg (fun k => (Value.slice a m c).ownBlock = some k) w w' ∧ Below B w w' := by
  obtain ⟨i0, hi, hz0, hz1, hz2⟩ := info_parts info
  obtain ⟨g, cp, w', hr, ho, hc, hb, _⟩ := row_add (ty := ty) Try.underlying41 hi hz0 hz1 hz2 rfl (by omega) h #[.int .i64 mk.g, .string mk.k, .int .i64 mk.ls, .int .i64 mk.nt] rfl (fun u hu => rflat.one mk u (by simpa [renc] using hu)) (by omega) (by omega) hB
  refine ⟨g, cp, w', hr, ?_, hc, hb⟩
  rw [fcells_append, fcells_one1]
  exact ho
/-- likewise, and where it lies -/
theorem add_where {w : World} {B : Nat} {a : Option Addr} {m c : Nat} {l : List Rt} (h : w.ownsRow B 43 4 (.slice a m c) m (fcells renc l)) (hm : m * 40 ≤ 140737488355328) (hB : B ≤ w.heap.size) (mk : Rt) (ty : TypeId) :
    ∃ g cp w', (Builtin.append_ #[41, 41] ty #[.slice a m c, .slice (some ⟨w.heap.size, 0, none⟩) 1 1]).run Try.prog (w.alloc (.cells #[.int .i64 mk.g, .string mk.k, .int .i64 mk.ls, .int .i64 mk.nt] 43)) = .ok (.slice (some ⟨g, 0, none⟩) (m + 1) cp) w'
      ∧ w'.ownsRow B 43 4 (.slice (some ⟨g, 0, none⟩) (m + 1) cp) (m + 1) (fcells renc (l ++ [mk])) ∧ Chg (fun k => (Value.slice a m c).ownBlock = some k) w w' ∧ Below B w w' ∧ ((Value.slice a m c).ownBlock = some g ∨ w.heap.size ≤ g) := by
  obtain ⟨i0, hi, hz0, hz1, hz2⟩ := info_parts info
  obtain ⟨g, cp, w', hr, ho, hc, hb, hl⟩ := row_add (ty := ty) Try.underlying41 hi hz0 hz1 hz2 rfl (by omega) h #[.int .i64 mk.g, .string mk.k, .int .i64 mk.ls, .int .i64 mk.nt] rfl (fun u hu => rflat.one mk u (by simpa [renc] using hu)) (by omega) (by omega) hB
  refine ⟨g, cp, w', hr, ?_, hc, hb, hl⟩
  rw [fcells_append, fcells_one1]
  exact ho
end FnR
end Go.Proofs.Ytjcbhgkfbilifaa
