/- The law folder's helper Kept at a kind of flat structs: a list that was made by Own is as it was. No condition. -/
import Derived.Test.YthfjndlmihepbaaFlatFnP
import Derived.Test.YthfjndlmihepbaaHeld
namespace Go.Proofs.Ythfjndlmihepbaa
namespace FnP
open Go.ChangeShapes Go.WideShapes Go.ChangeAt Go.RowKit Rg
set_option linter.unusedVariables false

set_option maxRecDepth 100000 in
set_option maxHeartbeats 1000000 in
theorem kept_any {w : World} {B g len cap : Nat} {a : Option Addr} {l : List Pc} {mk : Pc} (h : Rl penc 3 32 w a len l)
    (ho : w.ownsRow B 39 3 (.slice (some ⟨g, 0, none⟩) (len + 2) (len + 2)) (len + 2) (fcells penc (l ++ [mk, mk]))) :
    Calls Try.prog 33 #[.slice (some ⟨g, 0, none⟩) len (len + 2), .slice a len cap, pval mk] w fun e w' => e = .returned (.bool true) ∧ Below w.heap.size w w' := by
  have hroom := h.room
  obtain ⟨r1, r2, r3⟩ := own_row h.len hroom ho
  have CP : ∀ W, Hid (Below w.heap.size w W → Calls Try.prog 25 #[.slice (some ⟨g, 0, none⟩) len (len + 2), .slice a len cap] W fun e w' => e = .returned (.bool true) ∧ Below W.heap.size W w') := fun W hW => by
    refine (plain_any (r1.below hW) (h.below hW)).mono ?_
    rintro e w' ⟨rfl, q, rfl⟩
    exact ⟨by rw [decide_eq_true rfl], rfl, rfl, rfl, Nat.le_refl _, fun _ _ => rfl⟩
  have hgl : g < w.heap.size := (ho.lt g rfl).2
  obtain ⟨c0, c1, c2⟩ := pc_at r2
  obtain ⟨d0, d1, d2⟩ := pc_at r3
  clear h ho r1 r2 r3
  unfold pval
  go_enter Try.func33, Try.ntmps33
  go_wp2_with fail
  have hw1 : IntKind.i64.wrap ((len : Int) + 1) = (len : Int) + 1 := by rw [IntKind.wrap_i64]; omega
  have ht1 : ((len : Int) + 1).toNat = len + 1 := by omega
  have hi1 : (0 : Int) ≤ (len : Int) + 1 := by omega
  have hi2 : (len : Int) + 1 < (len : Int) + 2 := by omega
  have hi3 : (len : Int) < (len : Int) + 2 := by omega
  obtain ⟨w1, ew⟩ : ∃ w1, w1 = w.alloc (.cells #[.int .i64 mk.g, .string mk.k, .int .i64 mk.ep] 39) := ⟨_, rfl⟩
  have HB1 : Hid (Below w.heap.size w w1) := by rw [ew]; exact (Below.refl _ _).alloc (Nat.le_refl _) _
  have HBX : w1.heap[w.heap.size]? = some (.cells #[.int .i64 mk.g, .string mk.k, .int .i64 mk.ep] 39 (0, 0)) := by rw [ew]; exact heap_alloc_new w _
  obtain ⟨e0, e1, e2⟩ := pc_row mk HBX
  simp only [Nat.zero_add] at e0 e1 e2
  rw [← HB1.out.cell hgl] at c0 c1 c2 d0 d1 d2
  rw [← ew]
  clear HBX ew
  refine wp_region_cells w1 [(⟨w.heap.size, 0, none⟩, .int .i64 mk.g), (⟨w.heap.size, 1, none⟩, .string mk.k), (⟨w.heap.size, 2, none⟩, .int .i64 mk.ep), (⟨g, len * 3, none⟩, .int .i64 mk.g), (⟨g, len * 3 + 1, none⟩, .string mk.k), (⟨g, len * 3 + 2, none⟩, .int .i64 mk.ep), (⟨g, (len + 1) * 3, none⟩, .int .i64 mk.g), (⟨g, (len + 1) * 3 + 1, none⟩, .string mk.k), (⟨g, (len + 1) * 3 + 2, none⟩, .int .i64 mk.ep)] (by kernel_rfl) (by kernel_rfl) (Below.refl _ _) (by simp [AllCells, c0, c1, c2, d0, d1, d2, e0, e1, e2]) ?_
  intro hne q
  simp only [AllCells, and_true] at q
  clear c0 c1 c2 d0 d1 d2 e0 e1 e2
  repeat (go_big_quiet_step (first | (go_at_call 25; exact Held.call _ ((CP _).out (HB1.out.trans ((Held.below _).mono HB1.out.size)))) ))
  refine wpQuiet_nil ?_
  rintro _ ⟨y, rfl⟩
  have BQ : Hid (Below w.heap.size w y.x) := HB1.out.trans (y.below.mono HB1.out.size)
  clear q hne
  go_wp2_with fail
  go_ret
  exact ⟨rfl, BQ.out⟩
end FnP
end Go.Proofs.Ythfjndlmihepbaa
