/- bytes.Clone; rows that are written. No condition but a size. -/
import Derived.Test.YtanfmpeblhegpaaDoorSq8
import Derived.Laws.AppendOwn
import Derived.Lib.SliceRun
import Derived.Handy
namespace Go.Proofs.YtanfmpeblhegpaaDoor
open Go.ChangeShapes Go.WideShapes Go.ChangeAt Go.RowKit B8
set_option linter.unusedVariables false

theorem below_row {w w1 : World} {T : TypeId} (hg : (w.alloc (.cells #[] T)).grownBy w1 (some w.heap.size)) : Below w.heap.size w w1 :=
  ⟨hg.os, hg.tape, hg.output, Nat.le_trans (by simp) hg.size, fun k hk => (hg.block k (by simp; omega) (by simp; omega)).trans (Below.heap_alloc _ _ _ hk)⟩

theorem set_row {w : World} {b c o : Nat} {u : Value} {cs : Array Value} {t : TypeId} (h : w.heap[b]? = some (.cells cs t (0, 0))) (e : c ≠ b) : (w.setCell ⟨c, o, none⟩ u).heap[b]? = some (.cells cs t (0, 0)) := by
  simp [World.setCell, Array.getElem?_modify, h, e]
theorem put_row {w : World} {b o : Nat} {u : Value} {cs : Array Value} {t : TypeId} (h : w.heap[b]? = some (.cells cs t (0, 0))) : (w.setCell ⟨b, o, none⟩ u).heap[b]? = some (.cells (cs.setIfInBounds o u) t (0, 0)) := by
  simp [World.setCell, Array.getElem?_modify, h]
theorem row_baseT {w : World} {B B' T n sz : Nat} {v : Value} {xs : List Value} (h : w.ownsRow B T sz v n xs) (hb : B' ≤ B) : w.ownsRow B' T sz v n xs := by
  obtain ⟨hl, h | ⟨g, cp, cur, h1, h2, h3⟩⟩ := h
  · exact ⟨hl, .inl h⟩
  · exact ⟨hl, .inr ⟨g, cp, cur, h1, Nat.le_trans hb h2, h3⟩⟩
set_option maxRecDepth 100000 in
theorem bclone_big {w : World} {a : Option Addr} {m cp : Nat} {b : List Int} (q : Sq w a m cp b) (hm : m ≤ 140737488351232) :
    Calls Tryd.prog 21 #[.slice a m cp] w fun e w' => ∃ a' c', e = .returned (.slice a' m c') ∧ Below w.heap.size w w' ∧ w'.ownsRow w.heap.size 5 1 (.slice a' m c') m (B8.vals b) := by
  obtain ⟨i0, hi, hz0, hz1, hz2⟩ := info_parts B8.info
  cases a with
  | none =>
    obtain rfl : cp = 0 := q.nil rfl
    obtain rfl : m = 0 := by have := q.lecap; omega
    obtain rfl : b = [] := List.eq_nil_of_length_eq_zero q.length
    clear q
    have qT : ∀ (w : World) (a : Option Addr) (n c n' c' : Nat), (binOp .eql 30 (.slice a n c) (.slice none n' c')).run Tryd.prog w = .ok (.bool a.isNone) w := fun w a n c n' c' => Lib.run_eql_slice_nil w _ _ a n c n' c' Tryd.underlying30
    go_enter Tryd.func21, Tryd.ntmps21
    go_wp2_with fail
    go_ret
    exact ⟨none, 0, rfl, Below.refl _ _, World.ownsRow_nil _ _ _ _⟩
  | some ad =>
    have HC : Hid (∀ j u, (B8.vals b)[j]? = some u → (w.alloc (.cells #[] 5)).cell? (ad.add j) = some u) := fun j u hu => by
      have hj : j < m := by have := (List.getElem?_eq_some_iff.1 hu).1; simp [B8.vals] at this; rw [q.length] at this; exact this
      obtain ⟨bb, off, e, hc⟩ := q.cells (by omega)
      cases e
      have h1 := hc j hj
      rw [Addr.add_lit, World.cell?_alloc_lt w _ _ (World.block_lt_of_cell? w _ h1), h1, ← hu]
      have : j < b.length := by rw [q.length]; exact hj
      simp [B8.vals, this]
    have HL : Hid ((B8.vals b).length = m * 1) := by show _ = _; simp [B8.vals, q.length]
    have H1 : Hid (∀ u ∈ B8.vals b, u.oneCell' = true) := fun u hu => by
      obtain ⟨x, _, rfl⟩ := List.mem_map.1 hu
      rfl
    clear q
    have qT : ∀ (w : World) (a : Option Addr) (n c n' c' : Nat), (binOp .eql 30 (.slice a n c) (.slice none n' c')).run Tryd.prog w = .ok (.bool a.isNone) w := fun w a n c n' c' => Lib.run_eql_slice_nil w _ _ a n c n' c' Tryd.underlying30
    go_enter Tryd.func21, Tryd.ntmps21
    go_wp2_with (at_builtin; refine wpList_append_own _ rfl (.tmp 5) (.tmp 6) 30 rfl w.heap.size 5 i0 (.int .u8 0) 1 1 Tryd.underlying30 hi hz0 hz1 hz2 (by rfl) (by omega) (.slice (some ⟨w.heap.size, 0, none⟩) 0 0) 0 [] rfl (World.ownsRow_made w #[] 0 (Nat.le_refl _) (by unfold maxLen; omega) (by simp)) ad m cp (B8.vals b) rfl HL.out HC.out H1.out (by unfold maxLen; omega) (by omega) (by simp) ?_; intro v' w1 ho hg _; have HO := hide ho; have HG := hide hg; clear ho hg)
    go_ret
    have ho := HO.out
    simp only [Nat.zero_add, List.nil_append] at ho
    have ho' := ho
    obtain ⟨_, ⟨rfl, e⟩ | ⟨G, C, cur, rfl, _⟩⟩ := ho
    · subst e
      exact ⟨none, 0, rfl, below_row HG.out, ho'⟩
    · exact ⟨_, _, rfl, below_row HG.out, ho'⟩
end Go.Proofs.YtanfmpeblhegpaaDoor
