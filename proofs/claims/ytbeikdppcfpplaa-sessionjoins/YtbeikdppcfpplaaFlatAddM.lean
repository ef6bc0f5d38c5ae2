/- One flat struct more at the end of a list of the call's own: an append by its run. No condition but a small length. -/
import Derived.Test.YtbeikdppcfpplaaFlatFnM
import Derived.Test.YtbeikdppcfpplaaRowAdd
namespace Go.Proofs.Ytbeikdppcfpplaa
namespace FnM
open Go.ChangeShapes Go.WideShapes Go.ChangeAt Go.RowKit Sn
set_option linter.unusedVariables false

theorem add_any {w : World} {B : Nat} {a : Option Addr} {m c : Nat} {l : List Mk} (h : w.ownsRow B 29 7 (.slice a m c) m (fcells menc l)) (hm : m ≤ 100000) (hB : B ≤ w.heap.size) (mk : Mk) (ty : TypeId) :
    ∃ g cp w', (Builtin.append_ #[22, 22] ty #[.slice a m c, .slice (some ⟨w.heap.size, 0, none⟩) 1 1]).run Try.prog (w.alloc (.cells #[.int .i64 mk.c, .int .i64 mk.s, .bool mk.o, .int .i64 mk.a.e, .int .i64 mk.a.v, .int .i64 mk.a.lo, .int .i64 mk.a.hi] 29)) = .ok (.slice (some ⟨g, 0, none⟩) (m + 1) cp) w'
      ∧ w'.ownsRow B 29 7 (.slice (some ⟨g, 0, none⟩) (m + 1) cp) (m + 1) (fcells menc (l ++ [mk])) ∧ Chg (fun k => (Value.slice a m c).ownBlock = some k) w w' ∧ Below B w w' := by
  obtain ⟨i0, hi, hz0, hz1, hz2⟩ := info_parts info
  obtain ⟨g, cp, w', hr, ho, hc, hb, _⟩ := row_add (ty := ty) Try.underlying22 hi hz0 hz1 hz2 rfl (by omega) h #[.int .i64 mk.c, .int .i64 mk.s, .bool mk.o, .int .i64 mk.a.e, .int .i64 mk.a.v, .int .i64 mk.a.lo, .int .i64 mk.a.hi] rfl (fun u hu => mflat.one mk u (by simpa [menc] using hu)) (by omega) (by omega) hB
  refine ⟨g, cp, w', hr, ?_, hc, hb⟩
  rw [fcells_append, fcells_one1]
  exact ho
end FnM
end Go.Proofs.Ytbeikdppcfpplaa
