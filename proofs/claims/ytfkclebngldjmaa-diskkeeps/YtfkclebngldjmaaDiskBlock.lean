/- The law folder's block: 64 bytes that rise, in memory of their own. No condition. -/
import Derived.Test.YtfkclebngldjmaaDiskWrite
namespace Go.Proofs.Ytfkclebngldjmaa
open Go.ChangeShapes Go.WideShapes Go.ChangeAt Go.RowKit B8 Dm
set_option linter.unusedVariables false

/-- the first k bytes that rise from fill on, and then zeros -/
def rise (fill : Int) (k : Nat) : List Int := (List.range k).map (fun i : Nat => (fill + i) % 256) ++ List.replicate (64 - k) 0
/-- a block full of bytes that rise -/
def blk (fill : Int) : List Int := rise fill 64
theorem rise_length (fill : Int) {k : Nat} (h : k ≤ 64) : (rise fill k).length = 64 := by simp [rise]; omega
theorem u8_wf (z : Int) : (Lit.int .u8 (z % 256)).wf = true := by
  have h1 : 0 ≤ z % 256 := by omega
  have h2 : z % 256 < 256 := by omega
  simp [Lit.wf, IntKind.min, IntKind.max, IntKind.bits, IntKind.signed]
  omega
theorem rise_wfs (fill : Int) (k : Nat) : wfs (rise fill k) := by
  refine wfs_append ?_ (wfs_zeros _)
  intro j
  by_cases hj : j < k
  · simp only [List.getElem?_map, List.getElem?_range hj, Option.map_some, Option.getD_some]
    exact u8_wf _
  · rw [List.getElem?_eq_none (by simp; omega)]
    decide
theorem blk_Blk (fill : Int) : Blk (blk fill) := ⟨rise_length fill (Nat.le_refl _), rise_wfs fill 64⟩
theorem rise_set (fill : Int) {k : Nat} (h : k < 64) : (rise fill k).set k ((fill + k) % 256) = rise fill (k + 1) := by
  unfold rise
  rw [List.set_append_right _ _ (by simp)]
  simp only [List.length_map, List.length_range, Nat.sub_self]
  rw [List.range_succ, List.map_append, List.append_assoc]
  congr 1
  obtain ⟨d, hd⟩ : ∃ d, 64 - k = d + 1 := ⟨63 - k, by omega⟩
  rw [hd, show 64 - (k + 1) = d by omega, List.replicate_succ]
  rfl

/-- 64 zeros -/
def z64 : List Int := List.replicate 64 0
theorem make64 (w : World) : (Instr.makeSlice 46 (.int .i64 64) (.int .i64 64)).run Try.prog w = .ok (.slice (some ⟨w.heap.size, 0, none⟩) 64 64) (w.alloc (.cells (vals z64).toArray 5)) := by
  obtain ⟨i0, hi, hz0, hz1, hz2⟩ := info_parts info
  have hr := run_make (P := Try.prog) w 46 5 i0 (.int .u8 0) Try.underlying46 hi hz0 .i64 .i64 64 64 (by omega) (by omega) (by rw [hz2]; omega) (by omega)
  rw [hr, hz1]
  have e : madeCells (Value.int IntKind.u8 0).cells (64 * 1) = (vals z64).toArray := by
    apply Array.ext'
    show (madeCells #[Value.int .u8 0] 64).toList = _
    rw [toList_madeCells_one]
    simp only [vals, z64, List.map_replicate]
  show Result.ok _ (w.alloc (.cells (madeCells (Value.int IntKind.u8 0).cells (64 * 1)) 5)) = _
  rw [e]
  rfl
theorem vals_get {zs : List Int} {k : Nat} (h : k < zs.length) : (vals zs).toArray[k]? = some (.int .u8 (zs[k]?.getD 0)) := by simp [vals, h]

set_option maxRecDepth 100000 in
theorem block_any (fill : Int) (w : World) :
    Calls Try.prog 24 #[.int .u8 fill] w fun e w' => e = .returned (.slice (some ⟨w.heap.size, 0, none⟩) 64 64) ∧ Below w.heap.size w w' ∧ w'.heap[w.heap.size]? = some (.cells (vals (blk fill)).toArray 5 (0, 0)) := by
  have mk := make64
  go_enter Try.func24, Try.ntmps24
  go_wp2_with fail
  clear mk
  go_loopw [4] (fun i wr => ∃ k : Nat, k ≤ 64 ∧ i = .int .i64 k ∧ Hid (Below w.heap.size w wr) ∧ Hid (wr.heap[w.heap.size]? = some (.cells (vals (rise fill k)).toArray 5 (0, 0)))) (fun i _ => 64 - (intOf i).toNat)
  case atStart => exact ⟨0, by omega, rfl, below_alloc (Below.refl _ _) _, heap_alloc_new w _⟩
  case round =>
    obtain ⟨k, hk, rfl, HB, HG⟩ := hrel
    by_cases hlt : k < 64
    · have c : wr.cell? ⟨w.heap.size, k, none⟩ = some (.int .u8 ((rise fill k)[k]?.getD 0)) := by rw [cell_of_row wr _ k _ _ _ HG.out]; exact vals_get (by rw [rise_length fill hk]; exact hlt)
      have f : wr.frozen? ⟨w.heap.size, k, none⟩ = false := frozen_of_row wr _ k _ _ HG.out
      have i1 : (k : Int) < 64 := by omega
      have i2 : (0 : Int) ≤ (k : Int) := by omega
      go_wp2_with fail
      go_roundw
      case rel =>
        refine ⟨k + 1, by omega, by go_num, Below.setCell HB.out (Nat.le_refl _) _, ?_⟩
        show _ = _
        rw [heap_setCell_same _ _ _ _ _ _ HG.out, ← rise_set fill hlt]
        congr 2
        simp [vals, List.map_set]
      case measure => simp [intOf]; omega
    · obtain rfl : k = 64 := by omega
      go_wp2_with fail
      go_ret
      exact ⟨rfl, HB.out, HG.out⟩
/-- a list in a block that is known whole -/
theorem sq_of_block {w : World} {g : Nat} {zs : List Int} {t : TypeId} (h : w.heap[g]? = some (.cells (vals zs).toArray t (0, 0))) (hw : wfs zs) : Sq w (some ⟨g, 0, none⟩) zs.length zs.length zs :=
  ⟨rfl, Nat.le_refl _, fun h => absurd h (by simp), fun h0 => ⟨g, 0, rfl, fun j hj => by rw [Nat.zero_add, cell_of_row w g j _ _ _ h]; exact vals_get hj⟩, hw⟩
theorem sq_blk {w : World} {g : Nat} {fill : Int} (h : w.heap[g]? = some (.cells (vals (blk fill)).toArray 5 (0, 0))) : Sq w (some ⟨g, 0, none⟩) 64 64 (blk fill) := by
  have := sq_of_block h (blk_Blk fill).2
  rw [(blk_Blk fill).1] at this
  exact this
end Go.Proofs.Ytfkclebngldjmaa
