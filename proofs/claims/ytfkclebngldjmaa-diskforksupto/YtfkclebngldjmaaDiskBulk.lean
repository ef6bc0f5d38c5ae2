/- A list of calls on a disk that came in where the whole reading is of bounded bulk: its length is bounded. Condition: the bound itself. -/
import Derived.Test.YtfkclebngldjmaaDiskOps
import Derived.Deep.CondSized
namespace Go.Proofs.Ytfkclebngldjmaa
open Go.ChangeShapes Go.WideShapes Go.ChangeAt Go.RowKit
set_option linter.unusedVariables false

theorem bulk_one {H : Type} (d : DataW H) : 1 ≤ Rows.uptoBulk d := by
  cases d with
  | lit l => cases l <;> simp [Rows.uptoBulk]
  | nil => simp [Rows.uptoBulk]
  | ptr d => simp [Rows.uptoBulk]
  | slice a b => simp [Rows.uptoBulk]
  | agg a => simp [Rows.uptoBulk]
  | iface a d => simp [Rows.uptoBulk]
  | map a => simp [Rows.uptoBulk]
  | held a => simp [Rows.uptoBulk]
theorem bulk_len {H : Type} : ∀ l : List (DataW H), l.length ≤ Rows.uptoBulkAll l
  | [] => Nat.zero_le _
  | d :: r => by
    have := bulk_len r
    have := bulk_one d
    simp [Rows.uptoBulkAll]
    omega
theorem bulk_mem {H : Type} {d : DataW H} : ∀ {l : List (DataW H)}, d ∈ l → Rows.uptoBulk d ≤ Rows.uptoBulkAll l
  | x :: r, h => by
    rcases List.mem_cons.1 h with rfl | h
    · simp [Rows.uptoBulkAll]
    · have := bulk_mem h
      simp [Rows.uptoBulkAll]
      omega
theorem bulk_slice {H : Type} {ds : List (DataW H)} (hc : Rows.uptoSmall H ds = true) {elems spare : List (DataW H)} (hm : DataW.slice elems spare ∈ ds) : elems.length + spare.length ≤ 1048576 := by
  have h1 : Rows.uptoBulkAll ds ≤ 1048576 := of_decide_eq_true hc
  have h2 := bulk_mem hm
  have h3 := bulk_len elems
  have h4 := bulk_len spare
  have h5 : Rows.uptoBulk (DataW.slice elems spare) = Rows.uptoBulkAll elems + Rows.uptoBulkAll spare + 1 := by simp [Rows.uptoBulk]
  omega
theorem ops_len {H : Type} {enc : TypeId × Value → H} {W : World} {b0 : Nat} {held : Bool} {a : Option Addr} {len cap : Nat} {d : DataW H} {p : List MemPlace}
    (h : DataW.Trod enc Try.prog W b0 (fun _ => true) held 22 (.slice a len cap) d p)
    (hw : ∀ elems spare, d = .slice elems spare → elems.length + spare.length ≤ 1048576) : len ≤ 1048576 := by
  obtain ⟨fuel, hf⟩ := h
  rcases Go.Deep.open_slice Try.underlying22 hf with ⟨hcs, _⟩ | ⟨x, l, c, m, n, D, Pl, hcs, hb, hl, hm, hmm, hx, hcell⟩
  · simp [Value.cells] at hcs
    omega
  · simp [Value.cells] at hcs
    obtain ⟨rfl, rfl, rfl⟩ := hcs
    simp only [Prod.mk.injEq] at hx
    have := hw _ _ hx.1
    simp at this
    omega
theorem open_ops_hb {H : Type} {enc : TypeId × Value → H} {W : World} {r : Reach} {base b0 : Nat} {held : Bool} {v : Value} {d : DataW H} {p : List MemPlace}
    (hv : Value.okWide Try.prog W r base 22 v) (h : DataW.Trod enc Try.prog W b0 (fun _ => true) held 22 v d p)
    (hw : ∀ n ∈ d.weights Try.prog 22, n ≤ reachBytes) (hk : ∀ elems spare, d = .slice elems spare → elems.length + spare.length ≤ 1048576) :
    ∃ (a : Option Addr) (len cap : Nat) (os : Nat → Opd), v = .slice a len cap ∧ Ops W a len os ∧ len ≤ 1048576 := by
  obtain ⟨a, len, cap, os, rfl, ho⟩ := open_ops_held hv h hw
  exact ⟨a, len, cap, os, rfl, ho, ops_len h hk⟩
end Go.Proofs.Ytfkclebngldjmaa
