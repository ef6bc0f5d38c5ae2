/- What the document's own Sum (purseref01) returns for a list of ints that came in, at the landed code. No condition. -/
import Derived.Test.YtgmnhpelncbknaaNumSum
namespace Go.Proofs.Ytgmnhpelncbknaa
open Go.ChangeShapes Go.WideShapes Go.ChangeAt Go.RowKit
set_option linter.unusedVariables false

theorem of_none (a : Option Addr) (cap : Nat) (w : World) :
    Calls Try.prog 33 #[.slice a 0 cap] w fun e w' => e = .returned (.agg #[.int .i64 0, .int .u64 0]) ∧ Below w.heap.size w w' := by
  go_enter Try.func33, Try.ntmps33
  go_wp2_with fail
  refine wp_loop_rounds 1 ?_
  rw [rounds_succ]
  go_wp2_with fail
  refine bodyPost_ret (v := .agg #[.int .i64 0, .int .u64 0]) (by simp [results, Try.results33, go_sem]) rfl ⟨rfl, ?_⟩
  repeat (first | exact Below.refl _ _ | refine Below.setCell ?_ (by simp <;> omega) _ | refine Below.alloc ?_ (by simp <;> omega) _)

theorem of_sl {a : Option Addr} {len cap : Nat} {zs : List Int} {w : World} (h : Sl w a len cap zs) :
    Calls Try.prog 33 #[.slice a len cap] w fun e w' => e = .returned (.agg #[.int .i64 (hiOf zs.sum), .int .u64 (loOf zs.sum)]) ∧ Below w.heap.size w w' := by
  by_cases h0 : 0 < len
  · obtain ⟨b, off, rfl, hc⟩ := h.cells h0
    have := of_any b off len cap zs w (World.block_lt_of_cell? w _ (hc 0 h0)) (by have := h.length; omega) (by have := h.room; have := h.lecap; omega) h.isInts (fun j hj => hc j (by have := h.length; omega))
    rw [List.take_of_length_le (by have := h.length; omega)] at this
    exact this
  · obtain rfl : len = 0 := by omega
    have hz : zs = [] := List.eq_nil_of_length_eq_zero h.length
    subst hz
    exact of_none a cap w

theorem told_any (z : Int) (w : World) :
    Calls Try.prog 32 #[.agg #[.int .i64 (hiOf z), .int .u64 (loOf z)]] w fun e w' => e = .returned (.tuple #[.int .i64 (tellv z), .int .i64 (telle z)]) ∧ Below w.heap.size w w' := by
  by_cases h : -9223372036854775808 ≤ z ∧ z ≤ 9223372036854775807
  · rw [(tell_in h).1, (tell_in h).2]; exact told_yes z w h.1 h.2
  · rw [(tell_out h).1, (tell_out h).2]; exact told_no z w (by omega)

theorem refsum_sl {a : Option Addr} {len cap : Nat} {zs : List Int} {w : World} (h : Sl w a len cap zs) :
    Calls Try.prog 16 #[.slice a len cap] w fun e w' => e = .returned (.tuple #[.int .i64 (tellv zs.sum), .int .i64 (telle zs.sum)]) ∧ Below w.heap.size w w' := by
  have c := hide (of_sl h)
  clear h
  go_enter Try.func16, Try.ntmps16
  go_wp2_with fail
  refine c.out.mono ?_
  rintro e w1 ⟨rfl, hb1⟩
  go_wp2_with fail
  refine (told_any _ _).mono ?_
  rintro e w2 ⟨rfl, hb2⟩
  go_wp2_with fail
  go_ret2
  exact ⟨rfl, hb1.trans (hb2.mono hb1.size)⟩
end Go.Proofs.Ytgmnhpelncbknaa
