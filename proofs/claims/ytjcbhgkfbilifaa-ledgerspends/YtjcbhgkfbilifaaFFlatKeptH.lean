/- The law folder's helper Kept at a kind of flat structs: a list that was made by Own is as it was. No condition. -/
import Derived.Test.YtjcbhgkfbilifaaFFlatFnH
import Derived.Test.YtjcbhgkfbilifaaJV
namespace Go.Proofs.Ytjcbhgkfbilifaa
namespace FnH
open Go.ChangeShapes Go.WideShapes Go.ChangeAt Go.RowKit Ao
set_option linter.unusedVariables false

set_option maxRecDepth 100000 in
set_option maxHeartbeats 1000000 in
theorem kept_any {w : World} {B g len cap : Nat} {a : Option Addr} {l : List Hd} {mk : Hd} (h : Rl henc 4 32 w a len l)
    (ho : w.ownsRow B 33 4 (.slice (some ⟨g, 0, none⟩) (len + 2) (len + 2)) (len + 2) (fcells henc (l ++ [mk, mk]))) :
    Calls Try.prog 14 #[.slice (some ⟨g, 0, none⟩) len (len + 2), .slice a len cap, hval mk] w fun e w' => e = .returned (.bool true) ∧ Below w.heap.size w w' := by
  have hroom := h.room
  obtain ⟨r1, r2, r3⟩ := own_row h.len hroom ho
  have CP : ∀ W, Hid (Below w.heap.size w W → Calls Try.prog 58 #[.slice (some ⟨g, 0, none⟩) len (len + 2), .slice a len cap] W fun e w' => e = .returned (.bool true) ∧ Below W.heap.size W w') := fun W hW => by
    refine (plain_any (r1.below hW) (h.below hW)).mono ?_
    rintro e w' ⟨rfl, q, rfl⟩
    exact ⟨by rw [decide_eq_true rfl], rfl, rfl, rfl, Nat.le_refl _, fun _ _ => rfl⟩
  have hgl : g < w.heap.size := (ho.lt g rfl).2
  obtain ⟨c0, c1, c2, c3⟩ := hd_at r2
  obtain ⟨d0, d1, d2, d3⟩ := hd_at r3
  clear h ho r1 r2 r3
  unfold hval
  go_enter Try.func14, Try.ntmps14
  go_wp2_with fail
  have hw1 : IntKind.i64.wrap ((len : Int) + 1) = (len : Int) + 1 := by rw [IntKind.wrap_i64]; omega
  have ht1 : ((len : Int) + 1).toNat = len + 1 := by omega
  have hi1 : (0 : Int) ≤ (len : Int) + 1 := by omega
  have hi2 : (len : Int) + 1 < (len : Int) + 2 := by omega
  have hi3 : (len : Int) < (len : Int) + 2 := by omega
  obtain ⟨w1, ew⟩ : ∃ w1, w1 = w.alloc (.cells #[.int .i64 mk.nd, .int .i64 mk.ls, .int .i64 mk.up, .int .i64 mk.dn] 33) := ⟨_, rfl⟩
  have HB1 : Hid (Below w.heap.size w w1) := by rw [ew]; exact (Below.refl _ _).alloc (Nat.le_refl _) _
  have HBX : w1.heap[w.heap.size]? = some (.cells #[.int .i64 mk.nd, .int .i64 mk.ls, .int .i64 mk.up, .int .i64 mk.dn] 33 (0, 0)) := by rw [ew]; exact heap_alloc_new w _
  obtain ⟨e0, e1, e2, e3⟩ := hd_row mk HBX
  simp only [Nat.zero_add] at e0 e1 e2 e3
  rw [← HB1.out.cell hgl] at c0 c1 c2 c3 d0 d1 d2 d3
  rw [← ew]
  clear HBX ew
  refine wp_region_cells w1 [(⟨w.heap.size, 0, none⟩, .int .i64 mk.nd), (⟨w.heap.size, 1, none⟩, .int .i64 mk.ls), (⟨w.heap.size, 2, none⟩, .int .i64 mk.up), (⟨w.heap.size, 3, none⟩, .int .i64 mk.dn), (⟨g, len * 4, none⟩, .int .i64 mk.nd), (⟨g, len * 4 + 1, none⟩, .int .i64 mk.ls), (⟨g, len * 4 + 2, none⟩, .int .i64 mk.up), (⟨g, len * 4 + 3, none⟩, .int .i64 mk.dn), (⟨g, (len + 1) * 4, none⟩, .int .i64 mk.nd), (⟨g, (len + 1) * 4 + 1, none⟩, .int .i64 mk.ls), (⟨g, (len + 1) * 4 + 2, none⟩, .int .i64 mk.up), (⟨g, (len + 1) * 4 + 3, none⟩, .int .i64 mk.dn)] (by kernel_rfl) (by kernel_rfl) (Below.refl _ _) (by simp [AllCells, c0, c1, c2, c3, d0, d1, d2, d3, e0, e1, e2, e3]) ?_
  intro hne q
  simp only [AllCells, and_true] at q
  clear c0 c1 c2 c3 d0 d1 d2 d3 e0 e1 e2 e3
  repeat (go_big_quiet_step (first | (go_at_call 58; exact Held.call _ ((CP _).out (HB1.out.trans ((Held.below _).mono HB1.out.size)))) ))
  refine wpQuiet_nil ?_
  rintro _ ⟨y, rfl⟩
  have BQ : Hid (Below w.heap.size w y.x) := HB1.out.trans (y.below.mono HB1.out.size)
  clear q hne
  go_wp2_with fail
  go_ret
  exact ⟨rfl, BQ.out⟩
end FnH
end Go.Proofs.Ytjcbhgkfbilifaa
