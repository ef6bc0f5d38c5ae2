/- A letter by value, behind its group or by itself: its cells; what bytes are read as. No condition. -/
import Derived.Test.YtghmgomlobddfaaFWireLetterMem
import Derived.Test.YtghmgomlobddfaaJI
namespace Go.Proofs.Ytghmgomlobddfaa
open Go.ChangeShapes Go.WideShapes Go.ChangeAt Go.RowKit B8 Cm Wm
set_option linter.unusedVariables false

structure LetV (m : Nat) (w : World) (P : Nat → Prop) (cs : Array Value) (x : Let) : Prop where
  size : cs.size = m + 6
  l0 : x.x0.length = m
  l1 : x.x1.length = 4
  f0 : ∀ (j : Nat) (y : Atom), x.x0[j]? = some y → ∃ v, cs[j]? = some v ∧ AtomV w P v y
  vs : ∃ a n cp, cs[m]? = some (.slice a n cp) ∧ Ls w P a n cp 4 x.vs
  es : ∃ a n cp, cs[m + 1]? = some (.slice a n cp) ∧ Ls w P a n cp 2 x.es
  f1 : ∀ (j : Nat) (y : Atom), x.x1[j]? = some y → ∃ v, cs[m + 2 + j]? = some v ∧ AtomV w P v y
section
variable {m : Nat} {w w1 : World} {P P' : Nat → Prop} {cs : Array Value} {x : Let} {M : Nat} {t : TypeId} {fr : Nat × Nat}
theorem LetV.same (h : LetV m w P cs x) (hb : ∀ b, P b → P' b ∧ w1.heap[b]? = w.heap[b]?) : LetV m w1 P' cs x := by
  obtain ⟨a, n, cp, p1, p2⟩ := h.vs
  obtain ⟨a', n', cp', m1, m2⟩ := h.es
  exact ⟨h.size, h.l0, h.l1, fun j y hy => by obtain ⟨v, h1, h2⟩ := h.f0 j y hy; exact ⟨v, h1, h2.same hb⟩, ⟨a, n, cp, p1, p2.same hb⟩, ⟨a', n', cp', m1, m2.same hb⟩, fun j y hy => by obtain ⟨v, h1, h2⟩ := h.f1 j y hy; exact ⟨v, h1, h2.same hb⟩⟩
/-- each of the cells -/
theorem LetV.cell (h : LetV m w P cs x) (j : Nat) (hj : j < m + 6) : ∃ v, cs[j]? = some v ∧ v.oneCell' = true := by
  by_cases e0 : j < m
  · obtain ⟨v, h1, h2⟩ := h.f0 j _ (List.getElem?_eq_getElem (by rw [h.l0]; omega))
    exact ⟨v, h1, atomV_one h2⟩
  · by_cases e1 : j = m
    · obtain ⟨a, n, cp, p1, _⟩ := h.vs
      exact ⟨_, by rw [e1]; exact p1, rfl⟩
    · by_cases e2 : j = m + 1
      · obtain ⟨a, n, cp, p1, _⟩ := h.es
        exact ⟨_, by rw [e2]; exact p1, rfl⟩
      · obtain ⟨v, h1, h2⟩ := h.f1 (j - (m + 2)) _ (List.getElem?_eq_getElem (by rw [h.l1]; omega))
        rw [show m + 2 + (j - (m + 2)) = j by omega] at h1
        exact ⟨v, h1, atomV_one h2⟩
theorem LetV.one (h : LetV m w P cs x) : cs.all (·.oneCell') = true := by
  rw [Array.all_eq_true_iff_forall_mem]
  intro v hv
  obtain ⟨j, hj, e⟩ := Array.getElem_of_mem hv
  obtain ⟨u, h1, h2⟩ := h.cell j (by have := h.size; omega)
  rw [Array.getElem?_eq_getElem hj, e] at h1
  obtain rfl := Option.some.inj h1
  exact h2
theorem letAt_of (hb : w.heap[M]? = some (.cells cs t fr)) (h : LetV m w P cs x) : LetAt m w P M 0 x := by
  have c : ∀ j, w.cell? ⟨M, j, none⟩ = cs[j]? := fun j => cell_of_row w M j cs t fr hb
  obtain ⟨a, n, cp, p1, p2⟩ := h.vs
  obtain ⟨a', n', cp', m1, m2⟩ := h.es
  exact ⟨fun j y hy => by obtain ⟨v, h1, h2⟩ := h.f0 j y hy; exact ⟨v, by rw [Nat.zero_add, c]; exact h1, h2⟩, ⟨a, n, cp, by rw [c, Nat.zero_add]; exact p1, p2⟩, ⟨a', n', cp', by rw [c, Nat.zero_add]; exact m1, m2⟩, fun j y hy => by obtain ⟨v, h1, h2⟩ := h.f1 j y hy; exact ⟨v, by rw [c, Nat.zero_add]; exact h1, h2⟩⟩
theorem letV_of (hb : w.heap[M]? = some (.cells cs t fr)) (hs : cs.size = m + 6) (l0 : x.x0.length = m) (l1 : x.x1.length = 4) (h : LetAt m w P M 0 x) : LetV m w P cs x := by
  have c : ∀ j, w.cell? ⟨M, j, none⟩ = cs[j]? := fun j => cell_of_row w M j cs t fr hb
  obtain ⟨a, n, cp, p1, p2⟩ := h.vs
  obtain ⟨a', n', cp', m1, m2⟩ := h.es
  rw [c, Nat.zero_add] at p1 m1
  exact ⟨hs, l0, l1, fun j y hy => by obtain ⟨v, h1, h2⟩ := h.f0 j y hy; exact ⟨v, by rw [Nat.zero_add, c] at h1; exact h1, h2⟩, ⟨a, n, cp, p1, p2⟩, ⟨a', n', cp', m1, m2⟩, fun j y hy => by obtain ⟨v, h1, h2⟩ := h.f1 j y hy; exact ⟨v, by rw [c, Nat.zero_add] at h1; exact h1, h2⟩⟩
theorem LetAt.cells (h : LetAt m w P M 0 x) (l0 : x.x0.length = m) (l1 : x.x1.length = 4) (j : Nat) (hj : j < m + 6) : ∃ v, w.cell? ⟨M, j, none⟩ = some v := by
  by_cases e0 : j < m
  · obtain ⟨v, h1, h2⟩ := h.f0 j _ (List.getElem?_eq_getElem (by rw [l0]; omega))
    exact ⟨v, by rw [Nat.zero_add] at h1; exact h1⟩
  · by_cases e1 : j = m
    · obtain ⟨a, n, cp, p1, _⟩ := h.vs
      exact ⟨_, by rw [e1]; rw [Nat.zero_add] at p1; exact p1⟩
    · by_cases e2 : j = m + 1
      · obtain ⟨a, n, cp, p1, _⟩ := h.es
        exact ⟨_, by rw [e2]; rw [Nat.zero_add] at p1; exact p1⟩
      · obtain ⟨v, h1, h2⟩ := h.f1 (j - (m + 2)) _ (List.getElem?_eq_getElem (by rw [l1]; omega))
        rw [show 0 + m + 2 + (j - (m + 2)) = j by omega] at h1
        exact ⟨v, h1⟩
theorem LetAt.same (h : LetAt m w P M 0 x) (hc : ∀ o, w1.cell? ⟨M, o, none⟩ = w.cell? ⟨M, o, none⟩) (hb : ∀ b, P b → P' b ∧ w1.heap[b]? = w.heap[b]?) : LetAt m w1 P' M 0 x := by
  obtain ⟨a, n, cp, p1, p2⟩ := h.vs
  obtain ⟨a', n', cp', m1, m2⟩ := h.es
  exact ⟨h.f0.same (fun j _ => hc _) hb, ⟨a, n, cp, (hc _).trans p1, p2.same hb⟩, ⟨a', n', cp', (hc _).trans m1, m2.same hb⟩, h.f1.same (fun j _ => hc _) hb⟩
end
/-- a letter behind its group, and the two -/
theorem LetV.tail {w : World} {P : Nat → Prop} {cs : Array Value} {g : Atom} {x0 : List Atom} {vs es : List (List Atom)} {x1 : List Atom} (h : LetV 8 w P cs ⟨g :: x0, vs, es, x1⟩) (hk : g.k = 0) : cs[0]? = some (.int .i64 g.z) ∧ LetV 7 w P (cs.extract 1 14) ⟨x0, vs, es, x1⟩ := by
  have hs := h.size
  have ex : ∀ j, j < 13 → (cs.extract 1 14)[j]? = cs[1 + j]? := fun j hj => by rw [Array.getElem?_extract, if_pos (by omega)]
  obtain ⟨v, h1, h2⟩ := h.f0 0 g rfl
  obtain ⟨rfl, _⟩ := atom_int h2 hk
  obtain ⟨a, n, cp, p1, p2⟩ := h.vs
  obtain ⟨a', n', cp', m1, m2⟩ := h.es
  have l0 : x0.length = 7 := by have := h.l0; simpa using this
  have l1 : x1.length = 4 := h.l1
  refine ⟨h1, by rw [Array.size_extract, hs]; rfl, l0, l1, fun j y hy => ?_, ⟨a, n, cp, by rw [ex 7 (by omega)]; exact p1, p2⟩, ⟨a', n', cp', by rw [ex 8 (by omega)]; exact m1, m2⟩, fun j y hy => ?_⟩
  · have hj : j < 7 := by rw [← l0]; exact (List.getElem?_eq_some_iff.1 hy).1
    obtain ⟨v, e1, e2⟩ := h.f0 (j + 1) y (by simpa using hy)
    exact ⟨v, by rw [ex j (by omega), Nat.add_comm]; exact e1, e2⟩
  · have hj : j < 4 := by rw [← l1]; exact (List.getElem?_eq_some_iff.1 hy).1
    obtain ⟨v, e1, e2⟩ := h.f1 j y hy
    exact ⟨v, by rw [ex (7 + 2 + j) (by omega), show 1 + (7 + 2 + j) = 8 + 2 + j by omega]; exact e1, e2⟩
theorem LetV.head {w : World} {P : Nat → Prop} {cs : Array Value} {z : Int} {x : Let} (h : LetV 7 w P cs x) (z0 : -9223372036854775808 ≤ z) (z1 : z ≤ 9223372036854775807) : LetV 8 w P (#[.int .i64 z] ++ cs) ⟨⟨0, z, []⟩ :: x.x0, x.vs, x.es, x.x1⟩ := by
  have hs := h.size
  have ex : ∀ j, (#[Value.int .i64 z] ++ cs)[1 + j]? = cs[j]? := fun j => by
    rw [Array.getElem?_append_right (by simp)]
    simp
  obtain ⟨a, n, cp, p1, p2⟩ := h.vs
  obtain ⟨a', n', cp', m1, m2⟩ := h.es
  refine ⟨by rw [Array.size_append, hs]; rfl, by simp [h.l0], h.l1, fun j y hy => ?_, ⟨a, n, cp, by rw [show 8 = 1 + 7 by omega, ex]; exact p1, p2⟩, ⟨a', n', cp', by rw [show 8 + 1 = 1 + (7 + 1) by omega, ex]; exact m1, m2⟩, fun j y hy => ?_⟩
  · match j, hy with
    | 0, hy =>
      obtain rfl : (⟨0, z, []⟩ : Atom) = y := by simpa using hy
      exact ⟨.int .i64 z, by rw [Array.getElem?_append_left (by simp)]; rfl, .inl ⟨rfl, rfl, z0, z1⟩⟩
    | j + 1, hy =>
      obtain ⟨v, e1, e2⟩ := h.f0 j y (by simpa using hy)
      exact ⟨v, by rw [Nat.add_comm j 1, ex]; exact e1, e2⟩
  · obtain ⟨v, e1, e2⟩ := h.f1 j y hy
    exact ⟨v, by rw [show 8 + 2 + j = 1 + (7 + 2 + j) by omega, ex]; exact e1, e2⟩
def zeroL : Let := ⟨List.replicate 8 (zeroA 0), [], [], [zeroA 0, zeroA 0, zeroA 1, zeroA 4]⟩
theorem letV_zero (u : World) (P : Nat → Prop) : LetV 8 u P #[.int .i64 0, .int .i64 0, .int .i64 0, .int .i64 0, .int .i64 0, .int .i64 0, .int .i64 0, .int .i64 0, .slice none 0 0, .slice none 0 0, .int .i64 0, .int .i64 0, .int .u32 0, .slice none 0 0] zeroL := by
  have h0 := vals_zero u P [0, 0, 0, 0, 0, 0, 0, 0] (by decide)
  have h1 := vals_zero u P [0, 0, 1, 4] (by decide)
  refine ⟨rfl, rfl, rfl, fun j y hy => ?_, ⟨none, 0, 0, rfl, Ls.nil_ _ _ _⟩, ⟨none, 0, 0, rfl, Ls.nil_ _ _ _⟩, fun j y hy => ?_⟩
  · obtain ⟨v, e1, e2⟩ := h0.2 j y hy
    refine ⟨v, ?_, e2⟩
    have hj : j < 8 := by have := (List.getElem?_eq_some_iff.1 hy).1; simpa [zeroL] using this
    match j, hj with
    | 0, _ => exact e1
    | 1, _ => exact e1
    | 2, _ => exact e1
    | 3, _ => exact e1
    | 4, _ => exact e1
    | 5, _ => exact e1
    | 6, _ => exact e1
    | 7, _ => exact e1
  · obtain ⟨v, e1, e2⟩ := h1.2 j y hy
    refine ⟨v, ?_, e2⟩
    have hj : j < 4 := by have := (List.getElem?_eq_some_iff.1 hy).1; simpa [zeroL] using this
    match j, hj with
    | 0, _ => exact e1
    | 1, _ => exact e1
    | 2, _ => exact e1
    | 3, _ => exact e1
def lErr (bs : List Int) : Int := if 65536 < bs.length then 22 else endA bs (letA 8 bs ⟨0, 0⟩).s
def lVal (bs : List Int) : Let := if lErr bs = 0 then (letA 8 bs ⟨0, 0⟩).v else zeroL
theorem lErr_long {bs : List Int} (h : 65536 < bs.length) : lErr bs = 22 := if_pos h
theorem lErr_short {bs : List Int} (h : ¬ 65536 < bs.length) : lErr bs = endA bs (letA 8 bs ⟨0, 0⟩).s := if_neg h
theorem lVal_bad {bs : List Int} (h : ¬ lErr bs = 0) : lVal bs = zeroL := if_neg h
theorem lVal_good {bs : List Int} (h : lErr bs = 0) : lVal bs = (letA 8 bs ⟨0, 0⟩).v := if_pos h
theorem letK_A (bs : List Int) (s : St) : LetK 8 (letA 8 bs s).v :=
  ⟨flatA_kinds bs _ _ (by decide), timesA_all _ (fun s => flatA_kinds bs _ s (by decide)) _ _, timesA_all _ (fun s => flatA_kinds bs _ s (by decide)) _ _, flatA_kinds bs _ _ (by decide)⟩
theorem letK_zero : LetK 8 zeroL := ⟨rfl, fun x hx => by simp [zeroL] at hx, fun x hx => by simp [zeroL] at hx, rfl⟩
theorem lVal_kinds (bs : List Int) : LetK 8 (lVal bs) := by
  unfold lVal
  split
  · exact letK_A bs _
  · exact letK_zero
theorem letA_l0 (m : Nat) (bs : List Int) (s : St) : (letA m bs s).v.x0.length = m := by show (flatA bs _ s).v.length = m; rw [flatA_length, List.length_replicate]
theorem letA_l1 (m : Nat) (bs : List Int) (s : St) : (letA m bs s).v.x1.length = 4 := flatA_length bs _ _
theorem LetV.fit {m : Nat} {w w1 : World} {cs : Array Value} {x : Let} (h : LetV m w (fun b => b < w.heap.size) cs x) (hb : Below w.heap.size w w1) : LetV m w1 (fun b => b < w1.heap.size) cs x := h.same fun b hl => ⟨Nat.lt_of_lt_of_le hl hb.size, hb.block b hl⟩
end Go.Proofs.Ytghmgomlobddfaa
