/- A chart by value: its cells; what bytes are read as. No condition. -/
import Derived.Test.YtiafohpigkkgbaaFWireChartMem
import Derived.Test.YtiafohpigkkgbaaJI
namespace Go.Proofs.Ytiafohpigkkgbaa
open Go.ChangeShapes Go.WideShapes Go.ChangeAt Go.RowKit B8 Cm Wm
set_option linter.unusedVariables false

structure ChtV (w : World) (P : Nat → Prop) (cs : Array Value) (x : Cht) : Prop where
  size : cs.size = 12
  l0 : x.x0.length = 1
  l1 : x.x1.length = 9
  f0 : ∀ (j : Nat) (y : Atom), x.x0[j]? = some y → ∃ v, cs[j]? = some v ∧ AtomV w P v y
  ps : ∃ a n cp, cs[1]? = some (.slice a n cp) ∧ Ls w P a n cp 3 x.ps
  f1 : ∀ (j : Nat) (y : Atom), x.x1[j]? = some y → ∃ v, cs[2 + j]? = some v ∧ AtomV w P v y
  ms : ∃ a n cp, cs[11]? = some (.slice a n cp) ∧ Ls w P a n cp 7 x.ms
section
variable {w w1 : World} {P P' : Nat → Prop} {cs : Array Value} {x : Cht} {M : Nat} {t : TypeId} {fr : Nat × Nat}
theorem ChtV.same (h : ChtV w P cs x) (hb : ∀ b, P b → P' b ∧ w1.heap[b]? = w.heap[b]?) : ChtV w1 P' cs x := by
  obtain ⟨a, n, cp, p1, p2⟩ := h.ps
  obtain ⟨a', n', cp', m1, m2⟩ := h.ms
  exact ⟨h.size, h.l0, h.l1, fun j y hy => by obtain ⟨v, h1, h2⟩ := h.f0 j y hy; exact ⟨v, h1, h2.same hb⟩, ⟨a, n, cp, p1, p2.same hb⟩, fun j y hy => by obtain ⟨v, h1, h2⟩ := h.f1 j y hy; exact ⟨v, h1, h2.same hb⟩, ⟨a', n', cp', m1, m2.same hb⟩⟩
/-- each of the twelve cells -/
theorem ChtV.cell (h : ChtV w P cs x) (j : Nat) (hj : j < 12) : ∃ v, cs[j]? = some v ∧ v.oneCell' = true := by
  by_cases e0 : j = 0
  · obtain ⟨v, h1, h2⟩ := h.f0 0 _ (List.getElem?_eq_getElem (by rw [h.l0]; omega))
    exact ⟨v, by rw [e0]; exact h1, atomV_one h2⟩
  · by_cases e1 : j = 1
    · obtain ⟨a, n, cp, p1, _⟩ := h.ps
      exact ⟨_, by rw [e1]; exact p1, rfl⟩
    · by_cases e2 : j = 11
      · obtain ⟨a, n, cp, p1, _⟩ := h.ms
        exact ⟨_, by rw [e2]; exact p1, rfl⟩
      · obtain ⟨v, h1, h2⟩ := h.f1 (j - 2) _ (List.getElem?_eq_getElem (by rw [h.l1]; omega))
        rw [show 2 + (j - 2) = j by omega] at h1
        exact ⟨v, h1, atomV_one h2⟩
theorem ChtV.one (h : ChtV w P cs x) : cs.all (·.oneCell') = true := by
  rw [Array.all_eq_true_iff_forall_mem]
  intro v hv
  obtain ⟨j, hj, e⟩ := Array.getElem_of_mem hv
  obtain ⟨u, h1, h2⟩ := h.cell j (by have := h.size; omega)
  rw [Array.getElem?_eq_getElem hj, e] at h1
  obtain rfl := Option.some.inj h1
  exact h2
theorem chtAt_of (hb : w.heap[M]? = some (.cells cs t fr)) (h : ChtV w P cs x) : ChtAt w P M 0 x := by
  have c : ∀ j, w.cell? ⟨M, j, none⟩ = cs[j]? := fun j => cell_of_row w M j cs t fr hb
  obtain ⟨a, n, cp, p1, p2⟩ := h.ps
  obtain ⟨a', n', cp', m1, m2⟩ := h.ms
  exact ⟨fun j y hy => by obtain ⟨v, h1, h2⟩ := h.f0 j y hy; exact ⟨v, by rw [Nat.zero_add, c]; exact h1, h2⟩, ⟨a, n, cp, by rw [c]; exact p1, p2⟩, fun j y hy => by obtain ⟨v, h1, h2⟩ := h.f1 j y hy; exact ⟨v, by rw [c]; exact h1, h2⟩, ⟨a', n', cp', by rw [c]; exact m1, m2⟩⟩
theorem chtV_of (hb : w.heap[M]? = some (.cells cs t fr)) (hs : cs.size = 12) (l0 : x.x0.length = 1) (l1 : x.x1.length = 9) (h : ChtAt w P M 0 x) : ChtV w P cs x := by
  have c : ∀ j, w.cell? ⟨M, j, none⟩ = cs[j]? := fun j => cell_of_row w M j cs t fr hb
  obtain ⟨a, n, cp, p1, p2⟩ := h.ps
  obtain ⟨a', n', cp', m1, m2⟩ := h.ms
  rw [c] at p1 m1
  exact ⟨hs, l0, l1, fun j y hy => by obtain ⟨v, h1, h2⟩ := h.f0 j y hy; exact ⟨v, by rw [Nat.zero_add, c] at h1; exact h1, h2⟩, ⟨a, n, cp, p1, p2⟩, fun j y hy => by obtain ⟨v, h1, h2⟩ := h.f1 j y hy; exact ⟨v, by rw [c] at h1; exact h1, h2⟩, ⟨a', n', cp', m1, m2⟩⟩
theorem ChtAt.cells (h : ChtAt w P M 0 x) (l0 : x.x0.length = 1) (l1 : x.x1.length = 9) (j : Nat) (hj : j < 12) : ∃ v, w.cell? ⟨M, j, none⟩ = some v := by
  by_cases e0 : j = 0
  · obtain ⟨v, h1, h2⟩ := h.f0 0 _ (List.getElem?_eq_getElem (by rw [l0]; omega))
    exact ⟨v, by rw [e0]; exact h1⟩
  · by_cases e1 : j = 1
    · obtain ⟨a, n, cp, p1, _⟩ := h.ps
      exact ⟨_, by rw [e1]; exact p1⟩
    · by_cases e2 : j = 11
      · obtain ⟨a, n, cp, p1, _⟩ := h.ms
        exact ⟨_, by rw [e2]; exact p1⟩
      · obtain ⟨v, h1, h2⟩ := h.f1 (j - 2) _ (List.getElem?_eq_getElem (by rw [l1]; omega))
        rw [show 0 + 2 + (j - 2) = j by omega] at h1
        exact ⟨v, h1⟩
theorem ChtAt.same (h : ChtAt w P M 0 x) (hc : ∀ o, w1.cell? ⟨M, o, none⟩ = w.cell? ⟨M, o, none⟩) (hb : ∀ b, P b → P' b ∧ w1.heap[b]? = w.heap[b]?) : ChtAt w1 P' M 0 x := by
  obtain ⟨a, n, cp, p1, p2⟩ := h.ps
  obtain ⟨a', n', cp', m1, m2⟩ := h.ms
  exact ⟨h.f0.same (fun j _ => hc _) hb, ⟨a, n, cp, (hc _).trans p1, p2.same hb⟩, h.f1.same (fun j _ => hc _) hb, ⟨a', n', cp', (hc _).trans m1, m2.same hb⟩⟩
end
def zeroC : Cht := ⟨[zeroA 0], [], [0, 0, 0, 0, 0, 3, 3, 0, 0].map zeroA, []⟩
theorem chtV_zero (u : World) (P : Nat → Prop) : ChtV u P #[.int .i64 0, .slice none 0 0, .int .i64 0, .int .i64 0, .int .i64 0, .int .i64 0, .int .i64 0, .string ⟨#[]⟩, .string ⟨#[]⟩, .int .i64 0, .int .i64 0, .slice none 0 0] zeroC := by
  have h0 := vals_zero u P [0] (by decide)
  have h1 := vals_zero u P [0, 0, 0, 0, 0, 3, 3, 0, 0] (by decide)
  refine ⟨rfl, rfl, rfl, fun j y hy => ?_, ⟨none, 0, 0, rfl, Ls.nil_ _ _ _⟩, fun j y hy => ?_, ⟨none, 0, 0, rfl, Ls.nil_ _ _ _⟩⟩
  · obtain ⟨v, e1, e2⟩ := h0.2 j y hy
    refine ⟨v, ?_, e2⟩
    have hj : j < 1 := by have := (List.getElem?_eq_some_iff.1 hy).1; simpa [zeroC] using this
    obtain rfl : j = 0 := by omega
    exact e1
  · obtain ⟨v, e1, e2⟩ := h1.2 j y hy
    refine ⟨v, ?_, e2⟩
    have hj : j < 9 := by have := (List.getElem?_eq_some_iff.1 hy).1; simpa [zeroC] using this
    match j, hj with
    | 0, _ => exact e1
    | 1, _ => exact e1
    | 2, _ => exact e1
    | 3, _ => exact e1
    | 4, _ => exact e1
    | 5, _ => exact e1
    | 6, _ => exact e1
    | 7, _ => exact e1
    | 8, _ => exact e1
def cErr (bs : List Int) : Int := if 65536 < bs.length then 22 else endA bs (chtA bs ⟨0, 0⟩).s
def cVal (bs : List Int) : Cht := if cErr bs = 0 then (chtA bs ⟨0, 0⟩).v else zeroC
theorem cErr_long {bs : List Int} (h : 65536 < bs.length) : cErr bs = 22 := if_pos h
theorem cErr_short {bs : List Int} (h : ¬ 65536 < bs.length) : cErr bs = endA bs (chtA bs ⟨0, 0⟩).s := if_neg h
theorem cVal_bad {bs : List Int} (h : ¬ cErr bs = 0) : cVal bs = zeroC := if_neg h
theorem cVal_good {bs : List Int} (h : cErr bs = 0) : cVal bs = (chtA bs ⟨0, 0⟩).v := if_pos h
theorem chtK_A (bs : List Int) (s : St) : ChtK (chtA bs s).v :=
  ⟨flatA_kinds bs _ _ (by decide), timesA_all _ (fun s => flatA_kinds bs _ s (by decide)) _ _, flatA_kinds bs _ _ (by decide), timesA_all _ (fun s => flatA_kinds bs _ s (by decide)) _ _⟩
theorem chtK_zero : ChtK zeroC := ⟨rfl, fun x hx => by simp [zeroC] at hx, rfl, fun x hx => by simp [zeroC] at hx⟩
theorem cVal_kinds (bs : List Int) : ChtK (cVal bs) := by
  unfold cVal
  split
  · exact chtK_A bs _
  · exact chtK_zero
theorem chtA_l0 (bs : List Int) (s : St) : (chtA bs s).v.x0.length = 1 := flatA_length bs _ _
theorem chtA_l1 (bs : List Int) (s : St) : (chtA bs s).v.x1.length = 9 := flatA_length bs _ _
end Go.Proofs.Ytiafohpigkkgbaa
