/- Two lists of strings compared by the law folder's helper. No condition but a size. -/
import Derived.Test.YtoganfdpaagomaaClockCalls
import Derived.BigQuiet
namespace Go.Proofs.Ytoganfdpaagomaa
open Go.ChangeShapes Go.WideShapes Go.ChangeAt Go.RowKit Cm
set_option linter.unusedVariables false

/-- a list of strings as it lies -/
structure StrL (w : World) (a : Option Addr) (l : List ByteArray) : Prop where
  cells : 0 < l.length → ∃ b, a = some ⟨b, 0, none⟩ ∧ b < w.heap.size ∧ ∀ i x, l[i]? = some x → w.cell? ⟨b, i, none⟩ = some (.string x)
theorem Told.strl {w : World} {B c m : Nat} {a : Option Addr} {l : List ByteArray} (h : Told w B (.slice a m c) l) (hm : m = l.length) : StrL w a l := ⟨fun h0 => by
  obtain ⟨b, rfl, _, hb⟩ := h.addr h0
  exact ⟨b, rfl, hb, fun i x hx => h.cell hm hx⟩⟩
theorem StrL.below {w w' : World} {a : Option Addr} {l : List ByteArray} (h : StrL w a l) (hb : Below w.heap.size w w') : StrL w' a l := ⟨fun h0 => by
  obtain ⟨b, e, hl, hc⟩ := h.cells h0
  exact ⟨b, e, Nat.lt_of_lt_of_le hl hb.size, fun i x hx => (hb.cell (p := ⟨b, i, none⟩) hl).trans (hc i x hx)⟩⟩
theorem below_drewN (w : World) (B n : Nat) : Below B w (w.drewN n) := ⟨rfl, rfl, rfl, Nat.le_refl _, fun _ _ => rfl⟩
set_option maxRecDepth 100000 in
set_option maxHeartbeats 1000000 in
theorem plain_same {w : World} {a1 a2 : Option Addr} {c1 c2 : Nat} {l : List ByteArray} (h1 : StrL w a1 l) (h2 : StrL w a2 l) (hl : l.length ≤ 1000) :
    Calls Try.prog 12 #[.slice a1 l.length c1, .slice a2 l.length c2] w fun e w' => e = .returned (.bool true) ∧ Below w.heap.size w w' := by
  have H1 := hide h1
  have H2 := hide h2
  clear h1 h2
  go_enter Try.func12, Try.ntmps12
  go_wp2_with fail
  go_loopw [5] (fun iv wr => ∃ (i q : Nat), i ≤ l.length ∧ iv = .int .i64 i ∧ Hid (wr = w.drewN q)) (fun iv _ => l.length - (intOf iv).toNat)
  case atStart => exact ⟨0, 0, Nat.zero_le _, rfl, rfl⟩
  case round =>
    obtain ⟨i, q, hi, rfl, HW⟩ := hrel
    obtain rfl := HW.out
    clear HW
    by_cases hlt : i < l.length
    · obtain ⟨b1, rfl, _, k1⟩ := H1.out.cells (by omega)
      obtain ⟨b2, rfl, _, k2⟩ := H2.out.cells (by omega)
      have hx : l[i]? = some l[i] := List.getElem?_eq_getElem hlt
      have e1 := k1 i _ hx
      have e2 := k2 i _ hx
      generalize l[i] = x at *
      have e3 : (x.toList == x.toList) = true := by simp
      have j1 : (i : Int) < (l.length : Int) := by omega
      have j2 : (0 : Int) ≤ (i : Int) := by omega
      clear k1 k2 hx
      go_wp2_with fail
      go_quiet (fail)
      go_wp2_with fail
      go_roundw
      case rel => exact ⟨i + 1, _, by omega, by go_num, rfl⟩
      case measure => simp [intOf]; omega
    · obtain rfl : i = l.length := by omega
      clear hlt hi
      go_wp2_with fail
      go_ret
      exact ⟨rfl, below_drewN _ _ _⟩
end Go.Proofs.Ytoganfdpaagomaa
