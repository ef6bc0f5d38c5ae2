/- The landed clock's Set. No condition but sizes. -/
import Derived.Test.YtoganfdpaagomaaClockState
import Derived.Test.YtoganfdpaagomaaClockClone
import Derived.Deep.RegionHeld3
import Derived.Deep.DeepCutAuto
namespace Go.Proofs.Ytoganfdpaagomaa
open Go.ChangeShapes Go.WideShapes Go.ChangeAt Go.RowKit Cm
set_option linter.unusedVariables false

section
variable {w : World} {C : Nat} {L : Ql} {s : Cs} {B : Int}
theorem bad_E {name : ByteArray} {d : Int} (h : name.size < 1 ∨ 16 < name.size ∨ d < 1 ∨ 2147483647 < d) : setE s name d = 1 ∧ setS s name d = s := by
  have e1 : bad name d = true := decide_eq_true h
  have e2 : setE s name d = 1 := by simp [setE, e1]
  exact ⟨e2, by simp [setS, e2]⟩
set_option maxRecDepth 100000 in
theorem set_bad (h : Cl w C L s B) (name : ByteArray) (d : Int) (hb : name.size < 1 ∨ 16 < name.size ∨ d < 1 ∨ 2147483647 < d) :
    Calls Try.prog 18 #[.pointer (some ⟨C, 0, none⟩), .string name, .int .i64 d] w fun e w' => e = .returned (.int .i64 1) ∧ w' = w := by
  clear h
  obtain ⟨n, en⟩ : ∃ n, n = name.size := ⟨_, rfl⟩
  by_cases h1 : name.size < 1
  · have x1 : decide ((name.size : Int) < 1) = true := decide_eq_true (by omega)
    have y1 : ((name.size : Int) < 1) = True := eq_true (by omega)
    clear h1 hb en
    go_enter Try.func18, Try.ntmps18
    go_wp2_with fail
    go_ret
    exact ⟨rfl, rfl⟩
  · have x1 : ¬ ((name.size : Int) < 1) := by omega
    have x0 : name.size ≠ 0 := by omega
    by_cases h2 : 16 < name.size
    · have x2 : ((16 : Int) < (name.size : Int)) := by omega
      clear hb h1 h2 en
      go_enter Try.func18, Try.ntmps18
      go_wp2_with fail
      go_ret
      exact ⟨rfl, rfl⟩
    · have x2 : ¬ ((16 : Int) < (name.size : Int)) := by omega
      by_cases h3 : d < 1
      · clear hb h1 h2 en
        go_enter Try.func18, Try.ntmps18
        go_wp2_with fail
        go_ret
        exact ⟨rfl, rfl⟩
      · have h4 : 2147483647 < d := by omega
        clear hb h1 h2 en
        go_enter Try.func18, Try.ntmps18
        go_wp2_with fail
        go_ret
        exact ⟨rfl, rfl⟩
theorem full_E {name : ByteArray} {d : Int} (h : ¬ (name.size < 1 ∨ 16 < name.size ∨ d < 1 ∨ 2147483647 < d)) (hh : has s name = false) (hl : 64 ≤ s.r.length) : setE s name d = 3 ∧ setS s name d = s := by
  have e1 : bad name d = false := decide_eq_false h
  have e2 : setE s name d = 3 := by simp [setE, e1, hh, hl]
  exact ⟨e2, by simp [setS, e2]⟩
theorem good_E {name : ByteArray} {d : Int} (h : ¬ (name.size < 1 ∨ 16 < name.size ∨ d < 1 ∨ 2147483647 < d)) (hh : has s name = true ∨ s.r.length < 64) : setE s name d = 0 ∧ setS s name d = ⟨s.now, s.sets + 1, without s.r name ++ [⟨name, s.now + d, s.sets + 1⟩]⟩ := by
  have e1 : bad name d = false := decide_eq_false h
  have e2 : setE s name d = 0 := by
    rcases hh with hh | hh
    · simp [setE, e1, hh]
    · have : ¬ 64 ≤ s.r.length := by omega
      simp [setE, e1, this]
  exact ⟨e2, by rw [setS, if_pos e2]⟩
theorem ac {w : World} {o : Obj} {a : Addr} {v : Value} (h : w.cell? a = some v) : (w.alloc o).cell? a = some v := ((below_alloc (Below.refl w.heap.size w) o).cell (World.block_lt_of_cell? w a h)).trans h
theorem sc {w : World} {p a : Addr} {u v : Value} (hn : a.block ≠ p.block) (h : w.cell? a = some v) : (w.setCell p u).cell? a = some v := (World.cell?_of_block (Below.heap_setCell _ _ _ _ hn)).trans h
theorem lay1 {w1 w3 : World} {C : Nat} {x y : Value} (hb : Below w1.drew.heap.size w1.drew w3) (lc : C < w1.heap.size) (k0 : w1.cell? ⟨C, 0, none⟩ = some x) (k1 : w1.cell? ⟨C, 1, none⟩ = some y) : w3.cell? ⟨C, 0, none⟩ = some x ∧ w3.cell? ⟨C, 1, none⟩ = some y ∧ Hid (Below w1.heap.size w1 w3) := ⟨(hb.cell (p := ⟨C, 0, none⟩) lc).trans k0, (hb.cell (p := ⟨C, 1, none⟩) lc).trans k1, (Below.refl w1.heap.size w1).drew.trans hb⟩
theorem lay2 {w1 w3 : World} {C : Nat} {x y : Value} (hb : Below (w1.alloc (.cells #[.string ⟨#[]⟩, .int .i64 0, .int .i64 0] 54)).drew.heap.size (w1.alloc (.cells #[.string ⟨#[]⟩, .int .i64 0, .int .i64 0] 54)).drew w3) (lc : C < w1.heap.size) (k0 : w1.cell? ⟨C, 0, none⟩ = some x) (k1 : w1.cell? ⟨C, 1, none⟩ = some y) : w3.cell? ⟨C, 0, none⟩ = some x ∧ w3.cell? ⟨C, 1, none⟩ = some y ∧ w3.cell? ⟨w1.heap.size, 0, none⟩ = some (.string ⟨#[]⟩) ∧ w3.cell? ⟨w1.heap.size, 1, none⟩ = some (.int .i64 0) ∧ w3.cell? ⟨w1.heap.size, 2, none⟩ = some (.int .i64 0) ∧ w3.frozen? ⟨w1.heap.size, 0, none⟩ = false ∧ w3.frozen? ⟨w1.heap.size, 1, none⟩ = false ∧ w3.frozen? ⟨w1.heap.size, 2, none⟩ = false ∧ Hid (Below w1.heap.size w1 w3 ∧ w3.heap[w1.heap.size]? = some (.cells #[.string ⟨#[]⟩, .int .i64 0, .int .i64 0] 54)) := by
  have V0 : w3.heap[w1.heap.size]? = some (.cells #[.string ⟨#[]⟩, .int .i64 0, .int .i64 0] 54) := (hb.block w1.heap.size (by show _ < (w1.alloc _).heap.size; simp)).trans (heap_alloc_new w1 _)
  have l2 : C < (w1.alloc (.cells #[.string ⟨#[]⟩, .int .i64 0, .int .i64 0] 54)).drew.heap.size := by show _ < (w1.alloc _).heap.size; simp; omega
  exact ⟨(hb.cell (p := ⟨C, 0, none⟩) l2).trans (ac k0), (hb.cell (p := ⟨C, 1, none⟩) l2).trans (ac k1), by rw [cell_of_row w3 _ 0 _ _ _ V0]; rfl, by rw [cell_of_row w3 _ 1 _ _ _ V0]; rfl, by rw [cell_of_row w3 _ 2 _ _ _ V0]; rfl, by simp [World.frozen?, V0], by simp [World.frozen?, V0], by simp [World.frozen?, V0], (below_alloc (Below.refl w1.heap.size w1) _).drew.trans (hb.mono (by show _ ≤ (w1.alloc _).heap.size; simp)), V0⟩
/-- what lies behind the first half: the timer in a box -/
def Boxed (w w' : World) (b : Nat) (t : Tm) : Prop := Below w.heap.size w w' ∧ w'.heap[b]? = some (.cells #[.string t.name, .int .i64 t.due, .int .i64 t.turn] 54) ∧ w.heap.size ≤ b
theorem boxA {w1 w3 : World} {t : Tm} {name : ByteArray} {x y : Int} (hb : Below w1.heap.size w1 w3) (e : name = t.name ∧ x = t.due ∧ y = t.turn) : Boxed w1 (w3.alloc (.cells #[.string name, .int .i64 x, .int .i64 y] 54)).drew w3.heap.size t := by
  obtain ⟨rfl, rfl, rfl⟩ := e
  exact ⟨(below_alloc hb _).drew, heap_alloc_new w3 _, hb.size⟩
theorem boxA' {w1 w3 : World} {t : Tm} {name : ByteArray} {x y : Int} (hb : Below w1.heap.size w1 w3) (e : name = t.name ∧ x = t.due ∧ y = t.turn) : Boxed w1 (w3.alloc (.cells #[.string name, .int .i64 x, .int .i64 y] 54)) w3.heap.size t := by
  obtain ⟨rfl, rfl, rfl⟩ := e
  exact ⟨below_alloc hb _, heap_alloc_new w3 _, hb.size⟩
theorem boxB {w1 w3 : World} {t : Tm} {name : ByteArray} {x y : Int} (h : Below w1.heap.size w1 w3 ∧ w3.heap[w1.heap.size]? = some (.cells #[.string ⟨#[]⟩, .int .i64 0, .int .i64 0] 54)) (e : name = t.name ∧ x = t.due ∧ y = t.turn) : Boxed w1 (((w3.setCell ⟨w1.heap.size, 0, none⟩ (.string name)).setCell ⟨w1.heap.size, 1, none⟩ (.int .i64 x)).setCell ⟨w1.heap.size, 2, none⟩ (.int .i64 y)) w1.heap.size t := by
  obtain ⟨rfl, rfl, rfl⟩ := e
  refine ⟨?_, set3 h.2, Nat.le_refl _⟩
  exact ((h.1.setCell (p := ⟨w1.heap.size, 0, none⟩) (Nat.le_refl _) _).setCell (p := ⟨w1.heap.size, 1, none⟩) (Nat.le_refl _) _).setCell (p := ⟨w1.heap.size, 2, none⟩) (Nat.le_refl _) _
theorem Boxed.cells {w1 W : World} {b : Nat} {t : Tm} (h : Boxed w1 W b t) : W.cell? ⟨b, 0, none⟩ = some (.string t.name) ∧ W.cell? ⟨b, 1, none⟩ = some (.int .i64 t.due) ∧ W.cell? ⟨b, 2, none⟩ = some (.int .i64 t.turn) :=
  ⟨by rw [cell_of_row W _ 0 _ _ _ h.2.1]; rfl, by rw [cell_of_row W _ 1 _ _ _ h.2.1]; rfl, by rw [cell_of_row W _ 2 _ _ _ h.2.1]; rfl⟩
end
end Go.Proofs.Ytoganfdpaagomaa
