/- The landed disk's Read. No condition. -/
import Derived.Test.YtfkclebngldjmaaDiskSync
namespace Go.Proofs.Ytfkclebngldjmaa
open Go.ChangeShapes Go.WideShapes Go.ChangeAt Go.RowKit B8 Dm
set_option linter.unusedVariables false

/-- a block is copied into new memory -/
theorem copy_out {w : World} {g o : Nat} {bs : List Int} (hl : bs.length = 64) (h : w.rangeAt g o (vals bs)) (ty : TypeId) :
    (Builtin.copy_ #[46, 46] ty #[.slice (some ⟨w.heap.size, 0, none⟩) 64 64, .slice (some ⟨g, o, none⟩) 64 64]).run Try.prog (w.alloc (.cells (vals z64).toArray 5)) = .ok (goInt 64) (w.alloc (.cells (vals bs).toArray 5)) := by
  obtain ⟨i, hi, hz, hsz, hb⟩ := info_parts info
  have hv : (vals bs).length = 64 := by rw [vals_length, hl]
  have := run_copy_row (P := Try.prog) (w.alloc (.cells (vals z64).toArray 5)) 46 46 ty 5 w.heap.size 0 64 64 ⟨g, o, none⟩ 64 64 (vals z64).toArray 5 (vals bs) Try.underlying46 (by rw [hi, Option.map_some, hsz]) (heap_alloc_new w _) (by rw [hv]; rfl) (fun j v hj => by rw [Addr.add_mid]; exact World.rangeAt_alloc h _ j v hj) (by rw [hv]; simp [vals, z64]) (vals_one _)
  rw [this, hv]
  have e : ((vals z64).toArray.toList.take 0 ++ vals bs ++ (vals z64).toArray.toList.drop (0 + 64)).toArray = (vals bs).toArray := by
    rw [List.drop_eq_nil_of_le (by simp [vals, z64])]
    simp
  rw [e, setRow_alloc]
  rfl

set_option maxRecDepth 100000 in
theorem read_yes {w : World} {D : Nat} {s : Ds} {L : Nat → Prop} (h : Dsk w D s L) (at_ : Nat) (h0 : reachE s at_ = 0) (ha : at_ < s.n) :
    Calls Try.prog 25 #[.pointer (some ⟨D, 0, none⟩), .int .i64 at_] w fun e w' => e = .returned (.tuple #[.slice (some ⟨w.heap.size, 0, none⟩) 64 64, .int .i64 0]) ∧ Below w.heap.size w w' ∧ w'.heap[w.heap.size]? = some (.cells (vals (over s.kept s.ws at_)).toArray 5 (0, 0)) := by
  obtain ⟨gk, ck, gs, cs, av, m, cv, h, hl⟩ := h
  have C := hide (reach_any h at_)
  rw [h0] at C
  have mk := make64
  have hcp := copy_out (h.ok.shown at_ ha).1 (h.shown.cells at_ ha)
  have c1 : (w.alloc (.cells (vals z64).toArray 5)).cell? ⟨D, 1, none⟩ = some (.slice (some ⟨gs, 0, none⟩) s.n cs) := (World.cell?_alloc_lt w _ _ h.ltD).trans h.c1
  have b1 : (0 : Int) ≤ (at_ : Int) := by omega
  have b2 : (at_ : Int) < (s.n : Int) := by omega
  generalize over s.kept s.ws at_ = bs at *
  clear h hl h0
  go_enter Try.func25, Try.ntmps25
  go_wp2_with fail
  refine C.out.mono ?_
  rintro e w1 ⟨rfl, rfl⟩
  go_wp2_with fail
  go_ret2
  exact ⟨rfl, below_alloc (Below.refl _ _) _, heap_alloc_new w1 _⟩
theorem read_no {w : World} {D : Nat} {s : Ds} {L : Nat → Prop} (h : Dsk w D s L) (at_ : Int) (h0 : reachE s at_ ≠ 0) :
    Calls Try.prog 25 #[.pointer (some ⟨D, 0, none⟩), .int .i64 at_] w fun e w' => e = .returned (.tuple #[.slice none 0 0, .int .i64 (reachE s at_)]) ∧ w' = w := by
  obtain ⟨gk, ck, gs, cs, av, m, cv, h, hl⟩ := h
  have C := hide (reach_any h at_)
  have hx : (reachE s at_ == 0) = false := by simpa using h0
  have hx2 : (reachE s at_ = 0) = False := by simpa using h0
  generalize reachE s at_ = r at *
  clear h hl h0
  go_enter Try.func25, Try.ntmps25
  go_wp2_with fail
  refine C.out.mono ?_
  rintro e w1 ⟨rfl, rfl⟩
  go_wp2_with fail
  go_ret2
  exact ⟨rfl, rfl⟩
theorem reach_at {s : Ds} {at_ : Int} (h : reachE s at_ = 0) : s.down = false ∧ ∃ k : Nat, at_ = k ∧ k < s.n := by
  unfold reachE at h
  cases hd : s.down with
  | true => rw [hd] at h; simp at h
  | false =>
    rw [hd] at h
    simp at h
    exact ⟨rfl, at_.toNat, by omega, by omega⟩
theorem reach_ok {s : Ds} {k : Nat} (h : s.down = false) (hk : k < s.n) : reachE s k = 0 := by
  unfold reachE
  rw [h]
  simp
  omega
end Go.Proofs.Ytfkclebngldjmaa
