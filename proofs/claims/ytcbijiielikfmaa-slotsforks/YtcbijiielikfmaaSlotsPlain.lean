/- The helper's Plain over what told gathered. No condition. -/
import Derived.Test.YtcbijiielikfmaaSlotsReadI
namespace Go.Proofs.Ytcbijiielikfmaa.Li
open Go.ChangeShapes Go.WideShapes Go.ChangeAt Go.RowKit Sx
set_option linter.unusedVariables false
set_option maxRecDepth 100000 in
set_option maxHeartbeats 2000000 in
theorem plain_any {w : World} {l : List (Int × Int)} {aa ab : Option Addr} {ca cb N1 N2 : Nat} (h1 : w.ownsRow N1 47 2 (.slice aa l.length ca) l.length (hcells l)) (h2 : w.ownsRow N2 47 2 (.slice ab l.length cb) l.length (hcells l)) (hm : l.length ≤ 1024) :
    Calls Try.prog 31 #[.slice aa l.length ca, .slice ab l.length cb] w fun e w' => e = .returned (.bool true) ∧ Below w.heap.size w w' := by
  have ST : Hid (∀ k, k < l.length → ∃ x y g g2, aa = some ⟨g, 0, none⟩ ∧ ab = some ⟨g2, 0, none⟩ ∧ g < w.heap.size ∧ g2 < w.heap.size ∧ w.cell? ⟨g, k * 2, none⟩ = some (.int .i64 x) ∧ w.cell? ⟨g, k * 2 + 1, none⟩ = some (.int .i64 y) ∧ w.cell? ⟨g2, k * 2, none⟩ = some (.int .i64 x) ∧ w.cell? ⟨g2, k * 2 + 1, none⟩ = some (.int .i64 y)) := fun k hk => by
    obtain ⟨g, e1, _, e2, e3⟩ := row_at h1 (by omega)
    obtain ⟨g2, f1, _, f2, f3⟩ := row_at h2 (by omega)
    have q := hcells_get _ _ _ (List.getElem?_eq_getElem hk)
    exact ⟨_, _, g, g2, e1, f1, e2, f2, e3 _ _ q.1, e3 _ _ q.2, f3 _ _ q.1, f3 _ _ q.2⟩
  clear h1 h2
  generalize l.length = n at *
  go_enter Try.func31, Try.ntmps31
  go_wp2_with fail
  go_loopw [5] (fun iv wr => ∃ j : Nat, j ≤ n ∧ iv = .int .i64 j ∧ Hid (Below w.heap.size w wr)) (fun iv _ => n - (intOf iv).toNat)
  case atStart => exact ⟨0, by omega, rfl, hide (Below.refl _ _)⟩
  case round =>
    obtain ⟨j, hj, rfl, HB⟩ := hrel
    by_cases hjt : j < n
    · obtain ⟨x, y, g, g2, rfl, rfl, e1, e2, e3, e4, e5, e6⟩ := ST.out j hjt
      have o1 : wr.cell? ⟨g, j * 2, none⟩ = some (.int .i64 x) := (HB.out.cell (p := ⟨g, j * 2, none⟩) e1).trans e3
      have o2 : wr.cell? ⟨g, j * 2 + 1, none⟩ = some (.int .i64 y) := (HB.out.cell (p := ⟨g, j * 2 + 1, none⟩) e1).trans e4
      have o3 : wr.cell? ⟨g2, j * 2, none⟩ = some (.int .i64 x) := (HB.out.cell (p := ⟨g2, j * 2, none⟩) e2).trans e5
      have o4 : wr.cell? ⟨g2, j * 2 + 1, none⟩ = some (.int .i64 y) := (HB.out.cell (p := ⟨g2, j * 2 + 1, none⟩) e2).trans e6
      have i1 : (j : Int) < (n : Int) := by omega
      have i2 : (0 : Int) ≤ (j : Int) := by omega
      clear e1 e2 e3 e4 e5 e6
      go_wp2_with fail
      go_region_held3 (fun u => u.cell? ⟨g, j * 2, none⟩ = some (.int .i64 x) ∧ u.cell? ⟨g, j * 2 + 1, none⟩ = some (.int .i64 y) ∧ u.cell? ⟨g2, j * 2, none⟩ = some (.int .i64 x) ∧ u.cell? ⟨g2, j * 2 + 1, none⟩ = some (.int .i64 y)) (first | go_keep | exact ⟨o1, o2, o3, o4⟩) (fail)
      go_wp2_with fail
      go_roundw
      case rel => exact ⟨j + 1, by omega, by go_num, hide (HB.out.trans ⟨rfl, rfl, rfl, Nat.le_refl _, fun _ _ => rfl⟩)⟩
      case measure => simp [intOf]; omega
    · obtain rfl : j = n := by omega
      clear hj hjt
      go_wp2_with fail
      go_ret
      exact ⟨rfl, HB.out⟩
end Go.Proofs.Ytcbijiielikfmaa.Li
