/- A landed log's Fork. No condition. -/
import Derived.Test.YtcbijiielikfmaaSlotsCloneI
namespace Go.Proofs.Ytcbijiielikfmaa.Li
open Go.ChangeShapes Go.WideShapes Go.ChangeAt Go.RowKit Sx
set_option linter.unusedVariables false
section
variable {w : World} {P : Nat} {L : Lay} {s : Ss Al}
theorem fork_lg {X w2 : World} {a' : Option Addr} {c' : Nat} (h : Lg w P L s) (hX : Below w.heap.size w X) (hb : Below X.heap.size X w2) (hr : w2.ownsRow X.heap.size 96 1 (.slice a' L.bs.length c') L.bs.length (L.bs.map pv)) :
    Below w.heap.size w (w2.alloc (.cells #[.int .i64 s.first, .int .i64 s.most, .slice a' L.bs.length c'] 94)) ∧ Lg (w2.alloc (.cells #[.int .i64 s.first, .int .i64 s.most, .slice a' L.bs.length c'] 94)) w2.heap.size ⟨a', c', L.bs⟩ s ∧ ∀ k, (Lay.mk a' c' L.bs).M w2.heap.size k → w.heap.size ≤ k := by
  have b2 : Below w.heap.size w w2 := hX.trans (hb.mono hX.size)
  have hal := below_alloc b2 (.cells #[.int .i64 s.first, .int .i64 s.most, .slice a' L.bs.length c'] 94)
  have hr0 : w2.ownsRow 0 96 1 (.slice a' L.bs.length c') L.bs.length (L.bs.map pv) := by
    obtain ⟨hl, h | ⟨g, cp, cur, h1, h2, h3⟩⟩ := hr
    · exact ⟨hl, .inl h⟩
    · exact ⟨hl, .inr ⟨g, cp, cur, h1, Nat.zero_le _, h3⟩⟩
  refine ⟨hal, ⟨World.alloc_heap_new w2 _, hr0.alloc _, h.len, fun j b o h1 h2 => (h.pl j b o h1 h2).same (fun k e => hal.block k (h.vlt k (by rw [← e]; exact List.mem_of_getElem? h1))), h.ok⟩, ?_⟩
  rintro k (rfl | hk)
  · exact b2.size
  · have := (hr.lt k hk).1
    have := hX.size
    omega
set_option maxRecDepth 100000 in
set_option maxHeartbeats 2000000 in
theorem fork_any (h : Lg w P L s) : Calls Try.prog 28 #[.pointer (some ⟨P, 0, none⟩)] w fun e w' => ∃ P' L', e = .returned (.pointer (some ⟨P', 0, none⟩)) ∧ Below w.heap.size w w' ∧ Lg w' P' L' s ∧ ∀ k, L'.M P' k → w.heap.size ≤ k := by
  obtain ⟨c0, c1, c2, cf⟩ := h.c
  rw [Lay.v] at c2
  have FI : Hid (∀ (X w2 : World) (c' : Nat) (a' : Option Addr), Below w.heap.size w X → Below X.heap.size X w2 → w2.ownsRow X.heap.size 96 1 (.slice a' L.bs.length c') L.bs.length (L.bs.map pv) →
      ∃ L', Below w.heap.size w (w2.alloc (.cells #[.int .i64 s.first, .int .i64 s.most, .slice a' L.bs.length c'] 94)) ∧ Lg (w2.alloc (.cells #[.int .i64 s.first, .int .i64 s.most, .slice a' L.bs.length c'] 94)) w2.heap.size L' s ∧ ∀ k, L'.M w2.heap.size k → w.heap.size ≤ k) := fun X w2 c' a' h1 h2 h3 => ⟨_, fork_lg h h1 h2 h3⟩
  obtain ⟨N, eN⟩ : ∃ N, N = L.bs.length := ⟨_, rfl⟩
  have CL : Hid (∀ X : World, Below w.heap.size w X → Calls Try.prog 65 #[.slice L.a N L.c] X fun e w' => ∃ a' c', e = .returned (.slice a' N c') ∧ Below w.heap.size w X ∧ Below X.heap.size X w' ∧ w'.ownsRow X.heap.size 96 1 (.slice a' N c') N (L.bs.map pv)) := fun X hX => by
    have hl : L.bs.length ≤ 1024 := by have := h.ok.len; have := h.ok.m2; rw [h.len]; omega
    have := (h.below hX).row
    rw [Lay.v] at this
    rw [eN]
    exact (clone_any this (pvs_one _) hl).mono fun e w' ⟨a', c', h1, h2, h3⟩ => ⟨a', c', h1, hX, h2, h3⟩
  rw [← eN] at c2 FI
  have KP : Hid (∀ u, Below w.heap.size w u → u.cell? ⟨P, 0, none⟩ = some (.int .i64 s.first) ∧ u.cell? ⟨P, 1, none⟩ = some (.int .i64 s.most) ∧ u.cell? ⟨P, 2, none⟩ = some (.slice L.a N L.c)) := fun u hu => ⟨(hu.cell (p := ⟨P, 0, none⟩) h.ltP).trans c0, (hu.cell (p := ⟨P, 1, none⟩) h.ltP).trans c1, (hu.cell (p := ⟨P, 2, none⟩) h.ltP).trans c2⟩
  clear h eN
  go_enter Try.func28, Try.ntmps28
  go_wp2_with fail
  go_region_held3 (fun u => u.cell? ⟨P, 0, none⟩ = some (.int .i64 s.first) ∧ u.cell? ⟨P, 1, none⟩ = some (.int .i64 s.most) ∧ u.cell? ⟨P, 2, none⟩ = some (.slice L.a N L.c)) ((first | (refine KP.out _ ?_; repeat (first | exact BB.out | exact Below.refl _ _ | refine below_alloc ?_ _ | refine Below.drew ?_)))) ((first | (go_at_call 65; refine (CL.out _ (by repeat (first | exact Below.refl _ _ | refine below_alloc ?_ _ | refine Below.drew ?_))).mono ?_; rintro e w2 ⟨a', c', rfl, hX, hb, hr⟩; have HX := hide hX; have BB := hide (hX.trans (hb.mono hX.size)); have HB := hide hb; have HR := hide hr; clear hb hr hX)))
  all_goals (go_wp2_with fail; go_ret)
  all_goals
    obtain ⟨L', f1, f2, f3⟩ := FI.out _ _ _ _ HX.out HB.out HR.out
    exact ⟨_, L', rfl, f1, f2, f3⟩
end
end Go.Proofs.Ytcbijiielikfmaa.Li
