/- The law folder's awake. No condition. -/
import Derived.Test.YtjhkenmlaammnaaChoOpen
import Derived.Test.YtjhkenmlaammnaaBuildOne
namespace Go.Proofs.Ytjhkenmlaammnaa
open Go.ChangeShapes Go.WideShapes Go.ChangeAt Go.RowKit Go.Shelf B8 Am Cz
set_option linter.unusedVariables false

def wakeL : List Pr := [⟨1, [⟨2, 1, 1, [7]⟩]⟩]
theorem wakeE : openE 1 1 wakeL = 0 := by decide
theorem wakeR : openR 1 1 wakeL = [(1, []), (2, [7])] := by decide
def wakeW (w : World) : World := (((w.alloc (.cells #[.int .i64 1, .int .i64 1] 43)).alloc (.cells #[.int .u8 7] 5)).alloc (.cells #[.int .i64 2, .int .i64 1, .int .i64 1, .slice (some ⟨w.heap.size + 1, 0, none⟩) 1 1] 45)).alloc (.cells #[.int .i64 1, .slice (some ⟨w.heap.size + 1 + 1, 0, none⟩) 1 1] 36)
theorem wakeP (w : World) : Ps (wakeW w) (some ⟨w.heap.size + 1 + 1 + 1, 0, none⟩) 1 [⟨1, some ⟨w.heap.size + 1 + 1, 0, none⟩, 1, 1, [⟨2, 1, 1, some ⟨w.heap.size + 1, 0, none⟩, 1, 1, [7]⟩]⟩] := by
  have h1 : (wakeW w).heap[w.heap.size + 1]? = some (.cells #[.int .u8 7] 5 (0, 0)) := by
    unfold wakeW
    rw [Below.heap_alloc _ _ _ (by simp <;> omega), Below.heap_alloc _ _ _ (by simp)]
    have := heap_alloc_new (w.alloc (.cells #[.int .i64 1, .int .i64 1] 43)) (.cells #[.int .u8 7] 5)
    simpa using this
  have h2 : (wakeW w).heap[w.heap.size + 1 + 1]? = some (.cells #[.int .i64 2, .int .i64 1, .int .i64 1, .slice (some ⟨w.heap.size + 1, 0, none⟩) 1 1] 45 (0, 0)) := by
    unfold wakeW
    rw [Below.heap_alloc _ _ _ (by simp)]
    have := heap_alloc_new ((w.alloc (.cells #[.int .i64 1, .int .i64 1] 43)).alloc (.cells #[.int .u8 7] 5)) (.cells #[.int .i64 2, .int .i64 1, .int .i64 1, .slice (some ⟨w.heap.size + 1, 0, none⟩) 1 1] 45)
    simpa using this
  have h3 : (wakeW w).heap[w.heap.size + 1 + 1 + 1]? = some (.cells #[.int .i64 1, .slice (some ⟨w.heap.size + 1 + 1, 0, none⟩) 1 1] 36 (0, 0)) := by
    have := heap_alloc_new (((w.alloc (.cells #[.int .i64 1, .int .i64 1] 43)).alloc (.cells #[.int .u8 7] 5)).alloc (.cells #[.int .i64 2, .int .i64 1, .int .i64 1, .slice (some ⟨w.heap.size + 1, 0, none⟩) 1 1] 45)) (.cells #[.int .i64 1, .slice (some ⟨w.heap.size + 1 + 1, 0, none⟩) 1 1] 36)
    unfold wakeW
    simpa using this
  generalize wakeW w = u at h1 h2 h3
  have sq : Sq u (some ⟨w.heap.size + 1, 0, none⟩) 1 1 [7] := by
    refine ⟨rfl, Nat.le_refl _, fun h => absurd h (by simp), fun _ => ⟨_, _, rfl, fun j hj => ?_⟩, wfs_cons (by decide) wfs_nil⟩
    obtain rfl : j = 0 := by omega
    rw [cell_of_row _ _ _ _ _ _ h1]
    rfl
  refine ⟨rfl, fun _ => ⟨_, _, rfl, (Array.getElem?_eq_some_iff.1 h3).1, fun j p hj o v hv => ?_⟩, fun p hp => ?_, by omega⟩
  · match j, hj with
    | 0, hj =>
      obtain rfl : _ = p := by simpa using hj
      simp only [Nat.zero_mul, Nat.add_zero, Nat.zero_add]
      rw [cell_of_row _ _ _ _ _ _ h3]
      match o, hv with
      | 0, hv => exact hv
      | 1, hv => exact hv
  · obtain rfl : p = _ := by simpa using hp
    refine ⟨⟨rfl, fun _ => ⟨_, _, rfl, (Array.getElem?_eq_some_iff.1 h2).1, fun j q hj o v hv => ?_⟩, fun q hq => ?_, by show 1 * 48 ≤ 140737488351232; omega⟩, by show (Lit.int .i64 1).wf = true; decide⟩
    · match j, hj with
      | 0, hj =>
        obtain rfl : _ = q := by simpa using hj
        simp only [Nat.zero_mul, Nat.add_zero, Nat.zero_add]
        rw [cell_of_row _ _ _ _ _ _ h2]
        match o, hv with
        | 0, hv => exact hv
        | 1, hv => exact hv
        | 2, hv => exact hv
        | 3, hv => exact hv
    · obtain rfl : q = _ := by simpa using hq
      exact ⟨sq, by show 1 ≤ 140737488351232; omega⟩
set_option maxRecDepth 100000 in
set_option maxHeartbeats 1000000 in
theorem awake_any (w : World) : Calls Try.prog 12 #[] w fun e w' => e = .returned (.bool true) ∧ Below w.heap.size w w' := by
  have C := hide (open_any (c := 1) (wakeP w) 1 1)
  have BW : Hid (Below w.heap.size w (wakeW w)) := by show Below _ _ _; unfold wakeW; go_grown
  unfold wakeW at C BW
  go_enter Try.func12, Try.ntmps12
  go_wp2_with fail
  refine C.out.mono ?_
  rintro e w1 ⟨a, m, c, le, rfl, hb, hes, hle⟩
  have e0 : openE 1 1 (List.map Pp.pr [⟨1, some ⟨w.heap.size + 1 + 1, 0, none⟩, 1, 1, [⟨2, 1, 1, some ⟨w.heap.size + 1, 0, none⟩, 1, 1, [7]⟩]⟩]) = 0 := wakeE
  have e1 : openR 1 1 (List.map Pp.pr [⟨1, some ⟨w.heap.size + 1 + 1, 0, none⟩, 1, 1, [⟨2, 1, 1, some ⟨w.heap.size + 1, 0, none⟩, 1, 1, [7]⟩]⟩]) = [(1, []), (2, [7])] := wakeR
  rw [e0]
  rw [e1] at hle
  clear e0 e1
  obtain ⟨p1, p2, rfl⟩ : ∃ p1 p2, le = [p1, p2] := by
    have hl := congrArg List.length hle
    match le, hl with
    | [p1, p2], _ => exact ⟨p1, p2, rfl⟩
  obtain rfl : m = 2 := hes.len.symm
  have hp2 : p2.b = [7] := by simp [Ev.ev] at hle; exact hle.2.2
  obtain ⟨b, rfl, _, _, c0, c1⟩ := hes.at (i := 1) (p := p2) rfl
  have hm : p2.m = 1 := by have h1 := (hes.each p2 (by simp)).1.2.1; rw [hp2] at h1; exact h1.symm
  rw [hm] at c1
  have B1 := hide (below_step BW.out hb)
  clear hb hes hle C
  simp only [Nat.one_mul, Nat.reduceAdd] at c0 c1
  go_wp2_with fail
  go_ret
  exact ⟨rfl, B1.out⟩
end Go.Proofs.Ytjhkenmlaammnaa
