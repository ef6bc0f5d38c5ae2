/- The law's alike: what told gathered against the document's list. No condition. -/
import Derived.Test.YtcbijiielikfmaaSlotsRefPut2
namespace Go.Proofs.Ytcbijiielikfmaa
open Go.ChangeShapes Go.WideShapes Go.ChangeAt Go.RowKit Sx Ls
set_option linter.unusedVariables false
namespace Rf
/-- the cells of a list at an address -/
def Cs (w : World) (a : Option Addr) (l : List (Int × ByteArray)) : Prop := ∀ (k : Nat) (p : Int × ByteArray), l[k]? = some p → ∃ g, a = some ⟨g, 0, none⟩ ∧ g < w.heap.size ∧ w.cell? ⟨g, k * 2, none⟩ = some (.int .i64 p.1) ∧ w.cell? ⟨g, k * 2 + 1, none⟩ = some (.string p.2)
theorem cs_row {w : World} {N T n c : Nat} {a : Option Addr} {l : List (Int × ByteArray)} (h : w.ownsRow N T 2 (.slice a n c) n (hcells l)) (hn : n = l.length) : Cs w a l := fun k p hk => by
  obtain ⟨g, e1, _, e2, e3⟩ := row_at h (by have := (List.getElem?_eq_some_iff.1 hk).1; omega)
  have q := hcells_get _ _ _ hk
  exact ⟨g, e1, e2, e3 _ _ q.1, e3 _ _ q.2⟩
theorem Cs.below {w w' : World} {a : Option Addr} {l : List (Int × ByteArray)} (h : Cs w a l) (hb : Below w.heap.size w w') : Cs w' a l := fun k p hk => by
  obtain ⟨g, e1, e2, e3, e4⟩ := h k p hk
  exact ⟨g, e1, Nat.lt_of_lt_of_le e2 hb.size, (hb.cell (p := ⟨g, k * 2, none⟩) e2).trans e3, (hb.cell (p := ⟨g, k * 2 + 1, none⟩) e2).trans e4⟩
theorem Cs.head {w : World} {a : Option Addr} {l r : List (Int × ByteArray)} (h : Cs w a l) (hr : ∀ (k : Nat) (p : Int × ByteArray), r[k]? = some p → l[k]? = some p) : Cs w a r := fun k p hk => h k p (hr k p hk)
set_option maxRecDepth 100000 in
set_option maxHeartbeats 2000000 in
theorem alike_any {w : World} {l : List (Int × ByteArray)} {aa ab : Option Addr} {n ca cb : Nat} (h1 : Cs w aa l) (h2 : Cs w ab l) (hn : n = l.length) (hm : n ≤ 1024) :
    Calls Try.prog 59 #[.slice aa n ca, .slice ab n cb] w fun e w' => e = .returned (.bool true) ∧ Below w.heap.size w w' := by
  have ST : Hid (∀ k, k < n → ∃ x y g g2, aa = some ⟨g, 0, none⟩ ∧ ab = some ⟨g2, 0, none⟩ ∧ g < w.heap.size ∧ g2 < w.heap.size ∧ w.cell? ⟨g, k * 2, none⟩ = some (.int .i64 x) ∧ w.cell? ⟨g, k * 2 + 1, none⟩ = some (.string y) ∧ w.cell? ⟨g2, k * 2, none⟩ = some (.int .i64 x) ∧ w.cell? ⟨g2, k * 2 + 1, none⟩ = some (.string y)) := fun k hk => by
    have hp := List.getElem?_eq_getElem (l := l) (i := k) (by omega)
    obtain ⟨g, e1, e2, e3, e4⟩ := h1 _ _ hp
    obtain ⟨g2, f1, f2, f3, f4⟩ := h2 _ _ hp
    exact ⟨_, _, g, g2, e1, f1, e2, f2, e3, e4, f3, f4⟩
  clear h1 h2 hn
  go_enter Try.func59, Try.ntmps59
  go_wp2_with fail
  go_loopw [5] (fun iv wr => ∃ j : Nat, j ≤ n ∧ iv = .int .i64 j ∧ Hid (Below w.heap.size w wr)) (fun iv _ => n - (intOf iv).toNat)
  case atStart => exact ⟨0, by omega, rfl, hide (Below.refl _ _)⟩
  case round =>
    obtain ⟨j, hj, rfl, HB⟩ := hrel
    by_cases hjt : j < n
    · obtain ⟨x, y, g, g2, rfl, rfl, e1, e2, e3, e4, e5, e6⟩ := ST.out j hjt
      have o1 : wr.cell? ⟨g, j * 2, none⟩ = some (.int .i64 x) := (HB.out.cell (p := ⟨g, j * 2, none⟩) e1).trans e3
      have o2 : wr.cell? ⟨g, j * 2 + 1, none⟩ = some (.string y) := (HB.out.cell (p := ⟨g, j * 2 + 1, none⟩) e1).trans e4
      have o3 : wr.cell? ⟨g2, j * 2, none⟩ = some (.int .i64 x) := (HB.out.cell (p := ⟨g2, j * 2, none⟩) e2).trans e5
      have o4 : wr.cell? ⟨g2, j * 2 + 1, none⟩ = some (.string y) := (HB.out.cell (p := ⟨g2, j * 2 + 1, none⟩) e2).trans e6
      have i1 : (j : Int) < (n : Int) := by omega
      have i2 : (0 : Int) ≤ (j : Int) := by omega
      clear e1 e2 e3 e4 e5 e6
      go_wp2_with fail
      go_region_held3 (fun u => u.cell? ⟨g, j * 2, none⟩ = some (.int .i64 x) ∧ u.cell? ⟨g, j * 2 + 1, none⟩ = some (.string y) ∧ u.cell? ⟨g2, j * 2, none⟩ = some (.int .i64 x) ∧ u.cell? ⟨g2, j * 2 + 1, none⟩ = some (.string y)) (first | go_keep | exact ⟨o1, o2, o3, o4⟩) (fail)
      go_wp2_with fail
      go_roundw
      case rel => exact ⟨j + 1, by omega, by go_num, hide (HB.out.trans ⟨rfl, rfl, rfl, Nat.le_refl _, fun _ _ => rfl⟩)⟩
      case measure => simp [intOf]; omega
    · obtain rfl : j = n := by omega
      clear hj hjt
      go_wp2_with fail
      go_ret
      exact ⟨rfl, HB.out⟩
end Rf
end Go.Proofs.Ytcbijiielikfmaa
