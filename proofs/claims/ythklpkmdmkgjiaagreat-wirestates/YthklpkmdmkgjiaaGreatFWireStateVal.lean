/- A state by value: its cells; what bytes are read as. No condition. -/
import Derived.Test.YthklpkmdmkgjiaaGreatFWireStateMem
import Derived.Test.YthklpkmdmkgjiaaGreatJI
namespace Go.Proofs.YthklpkmdmkgjiaaGreat
open Go.ChangeShapes Go.WideShapes Go.ChangeAt Go.RowKit B8 Cm Wm
set_option linter.unusedVariables false

structure StaV (w : World) (P : Nat → Prop) (cs : Array Value) (x : Sta) : Prop where
  size : cs.size = 29
  hk : StaK x
  c : StaC w P (fun j => cs[j]?) x
section
variable {w w1 : World} {P P' : Nat → Prop} {cs : Array Value} {x : Sta} {M : Nat} {t : TypeId} {fr : Nat × Nat}
theorem StaV.same (h : StaV w P cs x) (hb : ∀ b, P b → P' b ∧ w1.heap[b]? = w.heap[b]?) : StaV w1 P' cs x := ⟨h.size, h.hk, h.c.same (fun _ _ => rfl) h.hk hb⟩
theorem StaV.one (h : StaV w P cs x) : cs.all (·.oneCell') = true := by
  rw [Array.all_eq_true_iff_forall_mem]
  intro v hv
  obtain ⟨j, hj, e⟩ := Array.getElem_of_mem hv
  obtain ⟨u, h1, h2⟩ := h.c.cell h.hk j (by have := h.size; omega)
  have h1 : cs[j]? = some u := h1
  rw [Array.getElem?_eq_getElem hj, e] at h1
  obtain rfl := Option.some.inj h1
  exact h2
theorem staAt_of (hb : w.heap[M]? = some (.cells cs t fr)) (h : StaV w P cs x) : StaAt w P M 0 x :=
  h.c.same (fun j _ => by rw [Nat.zero_add]; exact cell_of_row w M j cs t fr hb) h.hk (fun b hb => ⟨hb, rfl⟩)
theorem staV_of (hb : w.heap[M]? = some (.cells cs t fr)) (hs : cs.size = 29) (hk : StaK x) (h : StaAt w P M 0 x) : StaV w P cs x :=
  ⟨hs, hk, StaC.same h (fun j _ => by show cs[j]? = w.cell? ⟨M, 0 + j, none⟩; rw [Nat.zero_add]; exact (cell_of_row w M j cs t fr hb).symm) hk (fun b hb => ⟨hb, rfl⟩)⟩
end
def zeroS : Sta := ⟨[0, 0, 2, 3, 3, 0].map zeroA, [], [], [], [], [], [0, 0, 0, 3, 3, 0, 0, 0, 0, 0, 3, 3, 0, 0, 4, 0, 0, 0].map zeroA⟩
theorem staK_zero : StaK zeroS := ⟨rfl, fun x hx => by simp [zeroS] at hx, fun x hx => by simp [zeroS] at hx, fun x hx => by simp [zeroS] at hx, fun x hx => by simp [zeroS] at hx, fun x hx => by simp [zeroS] at hx, rfl⟩
theorem staV_zero (u : World) (P : Nat → Prop) : StaV u P #[.int .i64 0, .int .i64 0, .bool false, .string ⟨#[]⟩, .string ⟨#[]⟩, .int .i64 0, .slice none 0 0, .slice none 0 0, .slice none 0 0, .slice none 0 0, .slice none 0 0, .int .i64 0, .int .i64 0, .int .i64 0, .string ⟨#[]⟩, .string ⟨#[]⟩, .int .i64 0, .int .i64 0, .int .i64 0, .int .i64 0, .int .i64 0, .string ⟨#[]⟩, .string ⟨#[]⟩, .int .i64 0, .int .i64 0, .slice none 0 0, .int .i64 0, .int .i64 0, .int .i64 0] zeroS := by
  have h0 := vals_zero u P [0, 0, 2, 3, 3, 0] (by decide)
  have h1 := vals_zero u P [0, 0, 0, 3, 3, 0, 0, 0, 0, 0, 3, 3, 0, 0, 4, 0, 0, 0] (by decide)
  refine ⟨rfl, staK_zero, fun j y hy => ?_, ⟨none, 0, 0, rfl, La.nil_ _ _⟩, ⟨none, 0, 0, rfl, Ls.nil_ _ _ _⟩, ⟨none, 0, 0, rfl, Ls.nil_ _ _ _⟩, ⟨none, 0, 0, rfl, Ls.nil_ _ _ _⟩, ⟨none, 0, 0, rfl, Ls.nil_ _ _ _⟩, fun j y hy => ?_⟩
  · obtain ⟨v, e1, e2⟩ := h0.2 j y hy
    refine ⟨v, ?_, e2⟩
    have hj : j < 6 := by have := (List.getElem?_eq_some_iff.1 hy).1; simpa [zeroS] using this
    match j, hj with
    | 0, _ => exact e1
    | 1, _ => exact e1
    | 2, _ => exact e1
    | 3, _ => exact e1
    | 4, _ => exact e1
    | 5, _ => exact e1
  · obtain ⟨v, e1, e2⟩ := h1.2 j y hy
    refine ⟨v, ?_, e2⟩
    have hj : j < 18 := by have := (List.getElem?_eq_some_iff.1 hy).1; simpa [zeroS] using this
    match j, hj with
    | 0, _ => exact e1
    | 1, _ => exact e1
    | 2, _ => exact e1
    | 3, _ => exact e1
    | 4, _ => exact e1
    | 5, _ => exact e1
    | 6, _ => exact e1
    | 7, _ => exact e1
    | 8, _ => exact e1
    | 9, _ => exact e1
    | 10, _ => exact e1
    | 11, _ => exact e1
    | 12, _ => exact e1
    | 13, _ => exact e1
    | 14, _ => exact e1
    | 15, _ => exact e1
    | 16, _ => exact e1
    | 17, _ => exact e1
theorem five {w : World} {M : Nat} {t : TypeId} {fr : Nat × Nat} (h : w.heap[M]? = some (.cells #[.int .i64 0, .int .i64 0, .bool false, .string ⟨#[]⟩, .string ⟨#[]⟩, .int .i64 0, .slice none 0 0, .slice none 0 0, .slice none 0 0, .slice none 0 0, .slice none 0 0, .int .i64 0, .int .i64 0, .int .i64 0, .string ⟨#[]⟩, .string ⟨#[]⟩, .int .i64 0, .int .i64 0, .int .i64 0, .int .i64 0, .int .i64 0, .string ⟨#[]⟩, .string ⟨#[]⟩, .int .i64 0, .int .i64 0, .slice none 0 0, .int .i64 0, .int .i64 0, .int .i64 0] t fr)) : ∀ q, 6 ≤ q → q ≤ 10 → w.cell? ⟨M, q, none⟩ = some (.slice none 0 0) := fun q h1 h2 => by
  rw [cell_of_row _ _ _ _ _ _ h]
  have : q = 6 ∨ q = 7 ∨ q = 8 ∨ q = 9 ∨ q = 10 := by omega
  rcases this with rfl | rfl | rfl | rfl | rfl <;> rfl
def sErr (bs : List Int) : Int := if 65536 < bs.length then 22 else endA bs (stateA bs ⟨0, 0⟩).s
def sVal (bs : List Int) : Sta := if sErr bs = 0 then (stateA bs ⟨0, 0⟩).v else zeroS
theorem sErr_long {bs : List Int} (h : 65536 < bs.length) : sErr bs = 22 := if_pos h
theorem sErr_short {bs : List Int} (h : ¬ 65536 < bs.length) : sErr bs = endA bs (stateA bs ⟨0, 0⟩).s := if_neg h
theorem sVal_bad {bs : List Int} (h : ¬ sErr bs = 0) : sVal bs = zeroS := if_neg h
theorem sVal_good {bs : List Int} (h : sErr bs = 0) : sVal bs = (stateA bs ⟨0, 0⟩).v := if_pos h
theorem sVal_kinds (bs : List Int) : StaK (sVal bs) := by
  unfold sVal
  split
  · exact stateK_A bs _
  · exact staK_zero
theorem StaV.fit {w w1 : World} {cs : Array Value} {x : Sta} (h : StaV w (fun b => b < w.heap.size) cs x) (hb : Below w.heap.size w w1) : StaV w1 (fun b => b < w1.heap.size) cs x := h.same fun b hl => ⟨Nat.lt_of_lt_of_le hl hb.size, hb.block b hl⟩
end Go.Proofs.YthklpkmdmkgjiaaGreat
