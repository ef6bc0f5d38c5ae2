/- The landed disk's New: a disk of so many blocks, or none. No condition. -/
import Derived.Test.YtfkclebngldjmaaDiskSmall
import Derived.Test.YtfkclebngldjmaaWireRows
import Derived.Deep.RegionHeld3
namespace Go.Proofs.Ytfkclebngldjmaa
open Go.ChangeShapes Go.WideShapes Go.ChangeAt Go.RowKit B8 Dm
set_option linter.unusedVariables false

/-- so many blocks of zeros, as cells -/
def zrow (k : Nat) : Array Value := (List.replicate (k * 64) (Value.int .u8 0)).toArray
theorem made_zrow (k : Nat) : madeCells (Array.replicate 64 (Value.int .u8 0)) (k * 64) = zrow k := by
  unfold madeCells zrow
  apply Array.ext
  · simp
  · intro i h1 h2
    have hm : i % 64 < 64 := Nat.mod_lt _ (by omega)
    simp [hm]
theorem binfo : (Try.prog.info? 72).map (fun i => (i.zero.map (·.cells), i.size, i.bytes)) = some (some (Array.replicate 64 (Value.int .u8 0)), 64, 64) := by kernel_rfl
theorem make_blocks (k : Nat) (hk : k ≤ 16384) (w : World) : (Instr.makeSlice 62 (.int .i64 k) (.int .i64 k)).run Try.prog w = .ok (.slice (some ⟨w.heap.size, 0, none⟩) k k) (w.alloc (.cells (zrow k) 72)) := by
  have h := binfo
  cases hi : Try.prog.info? 72 with
  | none => rw [hi] at h; cases h
  | some i =>
    rw [hi] at h
    simp only [Option.map_some, Option.some.injEq, Prod.mk.injEq] at h
    obtain ⟨hz, hs, hb⟩ := h
    cases hz' : i.zero with
    | none => rw [hz'] at hz; cases hz
    | some z =>
      rw [hz'] at hz
      simp only [Option.map_some, Option.some.injEq] at hz
      have hr := run_make (P := Try.prog) w 62 72 i z Try.underlying62 hi hz' .i64 .i64 (k : Int) (k : Int) (by omega) (by omega) (by rw [hb]; omega) (by omega)
      rw [hr, hz, hs, Int.toNat_natCast, made_zrow]
theorem zrow_size (k : Nat) : (zrow k).size = k * 64 := by simp [zrow]
/-- a new row of zeros -/
theorem bks_new {w : World} {g n : Nat} {t : TypeId} (h : w.heap[g]? = some (.cells (zrow n) t (0, 0))) : Bks w g n (newS n).kept := by
  have hc : ∀ j, j < n * 64 → w.cell? ⟨g, j, none⟩ = some (.int .u8 0) := fun j hj => by
    rw [cell_of_row w g j (zrow n) t (0, 0) h]
    simp [zrow, hj]
  refine ⟨fun i hi j v hv => ?_, fun i hi j hj => ?_⟩
  · have hj : j < 64 := by
      have := (List.getElem?_eq_some_iff.1 hv).1
      simpa [vals, newS] using this
    rw [hc _ (by omega)]
    obtain rfl : v = .int .u8 0 := by
      have hm := List.mem_of_getElem? hv
      simp only [vals, newS, List.map_replicate] at hm
      exact List.eq_of_mem_replicate hm
    rfl
  · rw [hc _ (by omega), frozen_of_row w g _ (zrow n) t h]
    exact ⟨rfl, rfl⟩

theorem dk_new {w : World} {D gk gs n : Nat} (hD : w.heap[D]? = some (.cells #[.slice (some ⟨gk, 0, none⟩) n n, .slice (some ⟨gs, 0, none⟩) n n, .slice none 0 0, .int .i64 0, .bool false] 65 (0, 0)))
    (hk : w.heap[gk]? = some (.cells (zrow n) 72 (0, 0))) (hs : w.heap[gs]? = some (.cells (zrow n) 72 (0, 0))) (h1 : 1 ≤ n) (h2 : n ≤ 16384) (e1 : gk ≠ D) (e2 : gs ≠ D) (e3 : gk ≠ gs) : Dk w D gk n gs n none 0 0 (newS n) := by
  have c := fun j => cell_of_row w D j _ _ _ hD
  exact ⟨by rw [c]; rfl, by rw [c]; rfl, by rw [c]; rfl, by rw [c]; rfl, by rw [c]; rfl, fun o => frozen_of_row w D o _ _ hD, bks_new hk, bks_new hs, rfl, World.ownsRow_nil _ _ _ _, Nat.le_refl _, Nat.le_refl _, e1, e2, e3, by simp [Value.ownBlock], by simp [Value.ownBlock], by simp [Value.ownBlock], newS_ok h1 h2⟩
theorem heap_push_lt {w : World} (o : Obj) {k : Nat} (h : k < w.heap.size) : (w.alloc o).heap[k]? = w.heap[k]? := Below.heap_alloc w o k h

theorem dsk_new {W : World} {n gk gs : Nat} (h1 : 1 ≤ n) (h2 : n ≤ 16384) (hg : (gk = W.heap.size ∧ gs = W.heap.size + 1) ∨ (gk = W.heap.size + 1 ∧ gs = W.heap.size)) :
    Below W.heap.size W (((W.alloc (.cells (zrow n) 72)).alloc (.cells (zrow n) 72)).alloc (.cells #[.slice (some ⟨gk, 0, none⟩) n n, .slice (some ⟨gs, 0, none⟩) n n, .slice none 0 0, .int .i64 0, .bool false] 65)) ∧
    Dsk (((W.alloc (.cells (zrow n) 72)).alloc (.cells (zrow n) 72)).alloc (.cells #[.slice (some ⟨gk, 0, none⟩) n n, .slice (some ⟨gs, 0, none⟩) n n, .slice none 0 0, .int .i64 0, .bool false] 65)) (W.heap.size + 1 + 1) (newS n) (fun k => W.heap.size ≤ k) := by
  refine ⟨below_alloc (below_alloc (below_alloc (Below.refl _ _) _) _) _, gk, n, gs, n, none, 0, 0, ?_, ?_⟩
  · have hD : (((W.alloc (.cells (zrow n) 72)).alloc (.cells (zrow n) 72)).alloc (.cells #[.slice (some ⟨gk, 0, none⟩) n n, .slice (some ⟨gs, 0, none⟩) n n, .slice none 0 0, .int .i64 0, .bool false] 65)).heap[W.heap.size + 1 + 1]? = some (.cells #[.slice (some ⟨gk, 0, none⟩) n n, .slice (some ⟨gs, 0, none⟩) n n, .slice none 0 0, .int .i64 0, .bool false] 65 (0, 0)) := by
      have := heap_alloc_new ((W.alloc (.cells (zrow n) 72)).alloc (.cells (zrow n) 72)) (.cells #[.slice (some ⟨gk, 0, none⟩) n n, .slice (some ⟨gs, 0, none⟩) n n, .slice none 0 0, .int .i64 0, .bool false] 65)
      simpa using this
    have h0 : ∀ o : Obj, (((W.alloc (.cells (zrow n) 72)).alloc (.cells (zrow n) 72)).alloc o).heap[W.heap.size]? = some (.cells (zrow n) 72 (0, 0)) := fun o => by
      rw [heap_push_lt o (by simp; omega), heap_push_lt _ (by simp)]
      exact heap_alloc_new W _
    have h3 : ∀ o : Obj, (((W.alloc (.cells (zrow n) 72)).alloc (.cells (zrow n) 72)).alloc o).heap[W.heap.size + 1]? = some (.cells (zrow n) 72 (0, 0)) := fun o => by
      rw [heap_push_lt o (by simp)]
      have := heap_alloc_new (W.alloc (.cells (zrow n) 72)) (.cells (zrow n) 72)
      simpa using this
    rcases hg with ⟨rfl, rfl⟩ | ⟨rfl, rfl⟩
    · exact dk_new hD (h0 _) (h3 _) h1 h2 (by omega) (by omega) (by omega)
    · exact dk_new hD (h3 _) (h0 _) h1 h2 (by omega) (by omega) (by omega)
  · intro k hk
    rcases hk with rfl | rfl | rfl | hk
    · omega
    · rcases hg with ⟨rfl, rfl⟩ | ⟨rfl, rfl⟩ <;> omega
    · rcases hg with ⟨rfl, rfl⟩ | ⟨rfl, rfl⟩ <;> omega
    · simp [Value.ownBlock] at hk

set_option maxRecDepth 100000 in
theorem new_yes (n : Nat) (w : World) (h1 : 1 ≤ n) (h2 : n ≤ 16384) :
    Calls Try.prog 9 #[.int .i64 n] w fun e w' => ∃ D, e = .returned (.tuple #[.pointer (some ⟨D, 0, none⟩), .int .i64 0]) ∧ Below w.heap.size w w' ∧ Dsk w' D (newS n) (fun k => w.heap.size ≤ k) := by
  have mk := make_blocks n h2
  have i1 : (1 : Int) ≤ (n : Int) := by omega
  have i2 : (n : Int) ≤ 16384 := by omega
  have A := hide (dsk_new (W := w) h1 h2 (.inl ⟨rfl, rfl⟩))
  have B := hide (dsk_new (W := w) h1 h2 (.inr ⟨rfl, rfl⟩))
  go_enter Try.func9, Try.ntmps9
  go_wp2_with fail
  go_region_law (fail)
  all_goals go_wp2_with fail
  all_goals go_ret2
  · exact ⟨_, rfl, A.out.1.drew, A.out.2.drew⟩
  · exact ⟨_, rfl, B.out.1.drew, B.out.2.drew⟩
theorem new_no (z : Int) (w : World) (h : z < 1 ∨ 16384 < z) :
    Calls Try.prog 9 #[.int .i64 z] w fun e w' => e = .returned (.tuple #[.pointer none, .int .i64 1]) ∧ w' = w := by
  by_cases h1 : z < 1
  · clear h
    go_enter Try.func9, Try.ntmps9
    go_wp2_with fail
    go_ret2
    exact ⟨rfl, rfl⟩
  · have h2 : 16384 < z := by omega
    clear h
    go_enter Try.func9, Try.ntmps9
    go_wp2_with fail
    go_ret2
    exact ⟨rfl, rfl⟩
end Go.Proofs.Ytfkclebngldjmaa
