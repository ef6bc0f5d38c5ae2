/- A list of holders without one: the landed code. Condition: the list can be read, and is short. -/
import Derived.Test.YtjcbhgkfbilifabAcoConcat
import Derived.Deep.RegionWith
namespace Go.Proofs.Ytjcbhgkfbilifab
open Go.ChangeShapes Go.WideShapes Go.ChangeAt Go.RowKit Ao
set_option linter.unusedVariables false

set_option maxRecDepth 100000 in
set_option maxHeartbeats 2000000 in
theorem without_any {w : World} {b off n cp p : Nat} {l : List Hd} (h : Hs w (some ⟨b, off, none⟩) n l) (hp : p < n) (hc : n ≤ cp) (hn : n ≤ 100) :
    Calls Try.prog 32 #[.slice (some ⟨b, off, none⟩) n cp, .int .i64 p] w fun e w' => ∃ a' c', e = .returned (.slice a' (n - 1) c') ∧ Hs w' a' (n - 1) (l.take p ++ l.drop (p + 1)) ∧ Below w.heap.size w w' ∧ Fr w.heap.size a' ∧ Cp a' (n - 1) c' := by
  have hl := h.len
  have K : ∀ (W : World) (o2 : Nat), Below w.heap.size w W → (p + 1 < n → o2 = off + (p + 1) * 4) → w.heap.size < W.heap.size →
      W.cell? ⟨w.heap.size, 0, none⟩ = some (.slice (some ⟨b, off, none⟩) p cp) → W.cell? ⟨w.heap.size, 1, none⟩ = some (.slice (some ⟨b, o2, none⟩) (n - (p + 1)) (cp - (p + 1))) →
      Hid (Calls Try.prog 51 #[.slice (some ⟨w.heap.size, 0, none⟩) 2 2] W fun e w' => ∃ a' c', e = .returned (.slice a' (n - 1) c') ∧ Hs w' a' (n - 1) (l.take p ++ l.drop (p + 1)) ∧ Below w.heap.size w w' ∧ Fr w.heap.size a' ∧ Cp a' (n - 1) c') := by
    intro W o2 hW ho hs h0 h1
    have hh := h.below hW
    obtain ⟨b', off', e, hb, hcl⟩ := hh.cells (by omega)
    obtain ⟨rfl, rfl⟩ : b = b' ∧ off = off' := by simpa using e
    have q1 : Hs W (some ⟨b, off, none⟩) p (l.take p) := ⟨by simp; omega, fun _ => ⟨b, off, rfl, hb, fun j x hj => hcl j x (by rw [List.getElem?_take] at hj; split at hj <;> simp_all)⟩, by omega⟩
    have q2 : Hs W (some ⟨b, o2, none⟩) (n - (p + 1)) (l.drop (p + 1)) := ⟨by simp; omega, fun h3 => ⟨b, o2, rfl, hb, fun j x hj => by
      have := hcl (p + 1 + j) x (by rw [List.getElem?_drop] at hj; exact hj)
      rw [ho (by omega), show off + (p + 1) * 4 + j * 4 = off + (p + 1 + j) * 4 by omega]
      exact this⟩, by omega⟩
    refine (concat_any h0 h1 hs q1 q2 (by omega) (by omega)).mono ?_
    rintro e w' ⟨a', c', rfl, ho', hb'⟩
    rw [show p + (n - (p + 1)) = n - 1 by omega] at ho' ⊢
    exact ⟨a', c', rfl, Rl.of_row hflat ho' (by omega), hW.trans (hb'.mono hW.size), fr_row ho' (Nat.le_refl _) hW.size, row_cp ho'⟩
  clear h hl
  have i1 : (p : Int) ≤ (cp : Int) := by omega
  have i2 : (p : Int) + 1 ≤ (n : Int) := by omega
  have i3 : IntKind.i64.wrap ((p : Int) + 1) = ((p + 1 : Nat) : Int) := by rw [IntKind.wrap_i64]; omega
  have HBX : ∀ X, Below w.heap.size w (w.alloc X).drew := fun X => by
    have Y : Below w.heap.size w (w.alloc X) := Below.alloc (Below.refl _ _) (Nat.le_refl _) _
    exact ⟨Y.os, Y.tape, Y.output, Y.size, Y.block⟩
  have RX : ∀ X : Array Value, (w.alloc (.cells X 24)).drew.heap[w.heap.size]? = some (.cells X 24 (0, 0)) := fun X => heap_alloc_new w _
  by_cases hcp : cp = p + 1
  · subst hcp
    obtain rfl : n = p + 1 := by omega
    go_enter Try.func32, Try.ntmps32
    go_wp2_with fail
    go_region_with (go_at_call 51; refine (K _ off (HBX _) (fun h => by omega) (by simp) ((cell_of_row _ _ _ _ _ _ (RX _)).trans rfl) ((cell_of_row _ _ _ _ _ _ (RX _)).trans (by simp))).out.mono ?_; rintro e w' ⟨a', c', rfl, hh, hb, hf, hc⟩; have HH := hide hh; have HB := hide hb; have HF := hide hf; have HC := hide hc; clear hh hb hf hc)
    all_goals (go_wp2_with fail)
    all_goals (go_returns; exact ⟨_, _, rfl, HH.out, HB.out, HF.out, HC.out⟩)
  · go_enter Try.func32, Try.ntmps32
    go_wp2_with fail
    go_region_with (go_at_call 51; refine (K _ (off + (p + 1) * 4) (HBX _) (fun h => rfl) (by simp) ((cell_of_row _ _ _ _ _ _ (RX _)).trans rfl) ((cell_of_row _ _ _ _ _ _ (RX _)).trans rfl)).out.mono ?_; rintro e w' ⟨a', c', rfl, hh, hb, hf, hc⟩; have HH := hide hh; have HB := hide hb; have HF := hide hf; have HC := hide hc; clear hh hb hf hc)
    all_goals (go_wp2_with fail)
    all_goals (go_returns; exact ⟨_, _, rfl, HH.out, HB.out, HF.out, HC.out⟩)
end Go.Proofs.Ytjcbhgkfbilifab
