/- What the document's own sum of many (purseref01: Of, Add, Sub, Sum) returns, at the landed code. Conditions: the numbers are ints and lie in a list in memory. -/
import Derived.Test.YtgmnhpelncbknaaNumTold
import Derived.Deep.RegionWith
import Derived.Deep.RegionHeld
namespace Go.Proofs.Ytgmnhpelncbknaa
open Go.ChangeShapes Go.WideShapes Go.ChangeAt Go.RowKit
set_option linter.unusedVariables false

/-- the numbers of a list are ints -/
def ints (zs : List Int) : Prop := ∀ j : Nat, -9223372036854775808 ≤ zs[j]?.getD 0 ∧ zs[j]?.getD 0 ≤ 9223372036854775807

theorem sum_take_succ (zs : List Int) (k : Nat) (h : k < zs.length) : (zs.take (k + 1)).sum = (zs.take k).sum + zs[k]?.getD 0 := by
  rw [List.take_succ_eq_append_getElem h, List.sum_append]
  simp [h]

theorem sum_take_bd (zs : List Int) (hz : ints zs) (k : Nat) (h : k ≤ zs.length) : -9223372036854775808 * (k : Int) ≤ (zs.take k).sum ∧ (zs.take k).sum ≤ 9223372036854775807 * (k : Int) := by
  induction k with
  | zero => simp
  | succ k ih =>
    have := ih (by omega)
    have hk := hz k
    rw [sum_take_succ zs k (by omega)]
    omega

theorem hi_bd (z k : Int) (h0 : 0 ≤ k) (h1 : -9223372036854775808 * k ≤ z) (h2 : z ≤ 9223372036854775807 * k) (h3 : k ≤ 9223372036854775807) : -4611686018427387904 ≤ hiOf z ∧ hiOf z ≤ 4611686018427387904 := by
  unfold hiOf; omega

theorem two_sets (w1 : World) (N : Nat) (u v x y : Value) (h0 : w1.cell? ⟨N, 0, none⟩ = some u) (h1 : w1.cell? ⟨N, 1, none⟩ = some v) :
    ((w1.setCell ⟨N, 0, none⟩ x).setCell ⟨N, 1, none⟩ y).cell? ⟨N, 0, none⟩ = some x ∧ ((w1.setCell ⟨N, 0, none⟩ x).setCell ⟨N, 1, none⟩ y).cell? ⟨N, 1, none⟩ = some y
    ∧ (∀ b o, b ≠ N → ((w1.setCell ⟨N, 0, none⟩ x).setCell ⟨N, 1, none⟩ y).cell? ⟨b, o, none⟩ = w1.cell? ⟨b, o, none⟩) := by
  refine ⟨?_, ?_, ?_⟩
  · rw [World.cell?_setCell_other _ _ _ _ (by simp)]; exact World.cell?_setCell_same _ _ _ h0
  · exact World.cell?_setCell_same _ _ _ ((World.cell?_setCell_other _ _ _ _ (by simp)).trans h1)
  · intro b o hb
    rw [World.cell?_setCell_far _ _ _ _ (fun h => hb h.symm), World.cell?_setCell_far _ _ _ _ (fun h => hb h.symm)]

set_option maxHeartbeats 1000000 in
theorem of_any (b off len cap : Nat) (zs : List Int) (w : World) (hb : b < w.heap.size) (hl : len ≤ zs.length) (hm : len ≤ 9223372036854775807) (hz : ints zs)
    (hcell : ∀ j, j < zs.length → w.cell? ⟨b, off + j, none⟩ = some (.int .i64 (zs[j]?.getD 0))) :
    Calls Try.prog 33 #[.slice (some ⟨b, off, none⟩) len cap] w fun e w' => e = .returned (.agg #[.int .i64 (hiOf (zs.take len).sum), .int .u64 (loOf (zs.take len).sum)]) ∧ Below w.heap.size w w' := by
  have HZ := hide hz
  have HC := hide hcell
  clear hz hcell
  go_enter Try.func33, Try.ntmps33
  go_wp2_with fail
  go_loopw [4] (fun i wr => ∃ k : Nat, k ≤ len ∧ i = .int .i64 k ∧ wr.cell? ⟨w.heap.size + 1, 0, none⟩ = some (.int .i64 (hiOf (zs.take k).sum)) ∧ wr.cell? ⟨w.heap.size + 1, 1, none⟩ = some (.int .u64 (loOf (zs.take k).sum))
      ∧ wr.cell? ⟨w.heap.size, 0, none⟩ = some (.int .i64 0) ∧ wr.cell? ⟨w.heap.size, 1, none⟩ = some (.int .u64 0)
      ∧ wr.frozen? ⟨w.heap.size + 1, 0, none⟩ = false ∧ wr.frozen? ⟨w.heap.size + 1, 1, none⟩ = false ∧ wr.frozen? ⟨w.heap.size, 0, none⟩ = false ∧ wr.frozen? ⟨w.heap.size, 1, none⟩ = false
      ∧ Below w.heap.size w wr ∧ w.heap.size + 1 < wr.heap.size) (fun i _ => len - (intOf i).toNat)
  case atStart =>
    refine ⟨0, Nat.zero_le _, rfl, ?_, ?_, ?_, ?_, ?_, ?_, ?_, ?_, ?_, ?_⟩
    all_goals first | (simp [go_sem, hiOf, loOf]; done) | (repeat (first | exact Below.refl _ _ | refine Below.setCell ?_ (by simp <;> omega) _ | refine Below.alloc ?_ (by simp <;> omega) _))
  case round =>
    obtain ⟨k, hk, rfl, e0, e1, e2, e3, e4, e5, e6, e7, hbel, hsz⟩ := hrel
    by_cases hlt : k < len
    · have hck : wr.cell? ⟨b, off + k, none⟩ = some (.int .i64 (zs[k]?.getD 0)) := (hbel.cell hb).trans (HC.out k (by omega))
      have hbd := sum_take_bd zs HZ.out k (by omega)
      have hhi := hi_bd (zs.take k).sum k (by omega) hbd.1 hbd.2 (by omega)
      have hzk := HZ.out k
      have c := hide (fun w => plus_any (zs.take k).sum (zs[k]?.getD 0) w hhi.1 hhi.2 hzk.1 hzk.2)
      have HS := hide (sum_take_succ zs k (by omega))
      clear hbd hhi hzk
      go_wp2_with fail
      go_region_with (go_at_call 37; refine (c.out _).mono ?_; rintro e w1 ⟨rfl, hb1⟩; have q0 := (hb1.cell (p := ⟨w.heap.size + 1, 0, none⟩) hsz).trans e0; have q1 := (hb1.cell (p := ⟨w.heap.size + 1, 1, none⟩) hsz).trans e1; have q4 := (hb1.frozen (p := ⟨w.heap.size + 1, 0, none⟩) hsz).trans e4; have q5 := (hb1.frozen (p := ⟨w.heap.size + 1, 1, none⟩) hsz).trans e5)
      all_goals
        go_wp2_with fail
        go_roundw
        case rel =>
          obtain ⟨t0, t1, t2⟩ := two_sets w1 (w.heap.size + 1) _ _ (.int .i64 (hiOf ((zs.take k).sum + zs[k]?.getD 0))) (.int .u64 (loOf ((zs.take k).sum + zs[k]?.getD 0))) q0 q1
          have r2 := (hb1.cell (p := ⟨w.heap.size, 0, none⟩) (by simp; omega)).trans e2
          have r3 := (hb1.cell (p := ⟨w.heap.size, 1, none⟩) (by simp; omega)).trans e3
          have r6 := (hb1.frozen (p := ⟨w.heap.size, 0, none⟩) (by simp; omega)).trans e6
          have r7 := (hb1.frozen (p := ⟨w.heap.size, 1, none⟩) (by simp; omega)).trans e7
          have rs : wr.heap.size ≤ w1.heap.size := hb1.size
          refine ⟨k + 1, by omega, by go_num, ?_, ?_, ?_, ?_, ?_, ?_, ?_, ?_, ?_, ?_⟩
          · rw [HS.out]; exact t0
          · rw [HS.out]; exact t1
          · exact (t2 _ _ (by omega)).trans r2
          · exact (t2 _ _ (by omega)).trans r3
          · rw [World.frozen?_setCell, World.frozen?_setCell]; exact q4
          · rw [World.frozen?_setCell, World.frozen?_setCell]; exact q5
          · rw [World.frozen?_setCell, World.frozen?_setCell]; exact r6
          · rw [World.frozen?_setCell, World.frozen?_setCell]; exact r7
          · exact Below.setCell (Below.setCell (hbel.drew.trans (hb1.mono (B' := w.heap.size) hbel.size)) (Nat.le_succ _) _) (Nat.le_succ _) _
          · rw [World.size_setCell, World.size_setCell]; omega
        case measure => simp [intOf]; omega
    · obtain rfl : k = len := by omega
      go_wp2_with fail
      refine bodyPost_ret (v := .agg #[.int .i64 (hiOf (zs.take k).sum), .int .u64 (loOf (zs.take k).sum)]) (by simp [results, Try.results33, go_sem, e2, e3]) rfl ⟨rfl, ?_⟩
      repeat (first | exact hbel | refine Below.setCell ?_ (by simp <;> omega) _ | refine Below.alloc ?_ (by simp <;> omega) _)
end Go.Proofs.Ytgmnhpelncbknaa
