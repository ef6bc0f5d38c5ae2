/- strings.Clone of a name that has a byte. No condition but a size. -/
import Derived.Test.YtoganfdpaagomaaHeld
import Derived.Test.YtoganfdpaagomaaBase
import Derived.Lib.BufferWrite
import Derived.Lib.UnsafeStr
namespace Go.Proofs.Ytoganfdpaagomaa
open Go.ChangeShapes Go.WideShapes Go.ChangeAt Go.RowKit
set_option linter.unusedVariables false

theorem byteInfo : (Try.prog.info? 5).map (fun i => (i.zero, i.size, i.bytes)) = some (some (.int .u8 0), 1, 1) := by kernel_rfl
set_option maxRecDepth 100000 in
theorem lite_clone (s : ByteArray) (w : World) (h0 : 0 < s.size) (h16 : s.size ≤ 1000000) :
    Calls Try.prog 41 #[.string s] w fun e w' => e = .returned (.string s) ∧ Below w.heap.size w w' := by
  obtain ⟨i0, hi, hz0, hz1, hz2⟩ := info_parts byteInfo
  have hinfo : (Try.prog.info? 5).map (·.size) = some 1 := by rw [hi]; simp [hz1]
  have hco : Try.prog.cellsOf 5 = 1 := by kernel_rfl
  obtain ⟨M, hM⟩ : ∃ M, M = madeCells (Value.int .u8 0).cells (((s.size : Nat) : Int).toNat * i0.size) := ⟨_, rfl⟩
  have hMs : M.size = s.size := by rw [hM, size_madeCells, hz1]; simp
  have mk : ∀ W : World, (Instr.makeSlice 89 (.int .i64 (s.size : Int)) (.int .i64 (s.size : Int))).run Try.prog W = .ok (.slice (some ⟨W.heap.size, 0, none⟩) s.size s.size) (W.alloc (.cells M 5)) := fun W => by
    have h := run_make (P := Try.prog) W 89 5 i0 (.int .u8 0) Try.underlying89 hi hz0 .i64 .i64 (s.size : Int) (s.size : Int) (by omega) (by omega) (by rw [hz2]; omega) (by omega)
    rw [← hM] at h
    simpa using h
  clear hM
  have cp := Lib.run_copy_row_string (P := Try.prog) (w.alloc (.cells M 5)) 89 9 3 5 w.heap.size 0 s.size s.size s M 5 Try.underlying89 hinfo (heap_alloc_new w _) (Nat.le_refl _) (by omega)
  obtain ⟨Y, hY⟩ : ∃ Y, Y = (M.toList.take 0 ++ Lib.byteCells s.data.toList ++ M.toList.drop (0 + s.size)).toArray := ⟨_, rfl⟩
  rw [← hY] at cp
  have yl : Y.toList = Lib.byteCells s.data.toList := by
    rw [hY, List.toList_toArray, List.take_zero, List.nil_append, List.drop_of_length_le (by rw [Array.length_toList]; omega), List.append_nil]
  have ys : Y.size = s.size := by rw [← Array.length_toList, yl, Lib.byteCells_length, ← Lib.size_eq]
  have gy : ((w.alloc (.cells M 5)).setRow w.heap.size Y).heap[w.heap.size]? = some (.cells Y 5 (0, 0)) := setRow_heap _ _ M _ 5 (0, 0) (heap_alloc_new w _)
  have ne : s.data.toList ≠ [] := fun e => by rw [Lib.size_eq, e] at h0; simp at h0
  have us := Lib.run_unsafeString_row (P := Try.prog) ((w.alloc (.cells M 5)).setRow w.heap.size Y) 90 3 9 5 Try.underlying90 hco w.heap.size Y.size (by unfold World.shape?; rw [gy]) s.data.toList ne (by rw [← Lib.size_eq]; omega) (by rw [← Lib.size_eq]; omega)
    (fun j x hx => Lib.cells_of_row gy Y.size j _ (by rw [List.take_of_length_le (by rw [Array.length_toList]; exact Nat.le_refl _), yl]; simp [Lib.byteCells, hx]))
  rw [← Lib.size_eq] at us
  have b1 : Below w.heap.size w (w.alloc (.cells M 5)) := below_alloc (Below.refl _ _) _
  have b2 : Below w.heap.size (w.alloc (.cells M 5)) ((w.alloc (.cells M 5)).setRow w.heap.size Y) := ⟨rfl, rfl, rfl, by simp, fun k hk => setRow_other _ _ _ _ (by omega)⟩
  have FIN := hide (Lib.below_freeze (b1.trans b2) (p := ⟨w.heap.size, 0, none⟩) (Nat.le_refl _) s.size)
  have x0 : (0 : Int) < (s.size : Int) := by omega
  have x1 : ((s.size : Int) == 0) = false := by rw [beq_eq_false_iff_ne]; omega
  have x2 : s.size ≠ 0 := by omega
  clear hY yl ys gy ne b1 b2
  go_enter Try.func41, Try.ntmps41
  go_wp2_with fail
  go_ret
  exact ⟨rfl, FIN.out⟩
theorem clone_any (s : ByteArray) (w : World) (h0 : 0 < s.size) (h16 : s.size ≤ 1000000) :
    Calls Try.prog 32 #[.string s] w fun e w' => e = .returned (.string s) ∧ Below w.heap.size w w' := by
  have C := hide (lite_clone s w h0 h16)
  clear h0 h16
  go_enter Try.func32, Try.ntmps32
  go_wp2_with fail
  refine C.out.mono ?_
  rintro e w1 ⟨rfl, hb⟩
  have HB := hide hb
  clear hb
  go_wp2_with fail
  go_ret
  exact ⟨rfl, HB.out⟩
end Go.Proofs.Ytoganfdpaagomaa
