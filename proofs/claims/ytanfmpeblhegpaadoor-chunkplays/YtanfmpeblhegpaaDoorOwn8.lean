/- What the law folder's helpers Own and Kept do with a list of numbers of one kind, at the landed code. Condition: the list takes no more memory than an argument may. -/
import Derived.Test.YtanfmpeblhegpaaDoorSq8
import Derived.Test.YtanfmpeblhegpaaDoorPl8
namespace Go.Proofs.YtanfmpeblhegpaaDoor
namespace B8
open Go.ChangeShapes Go.WideShapes Go.ChangeAt Go.RowKit
set_option linter.unusedVariables false

theorem own_sq {a : Option Addr} {len cap : Nat} {zs : List Int} {w : World} (m : Int) (h : Sq w a len cap zs) (hr : len * 1 ≤ 140737488351232) :
    Calls Tryd.prog 7 #[.slice a len cap, .int .u8 m] w fun e w' => e = .returned (.slice (some ⟨w.heap.size, 0, none⟩) len (len + 2)) ∧ Below w.heap.size w w' ∧ w'.ownsRow w.heap.size 5 1 (.slice (some ⟨w.heap.size, 0, none⟩) (len + 2) (len + 2)) (len + 2) (vals (zs ++ [m, m])) := by
  obtain ⟨i0, hi, hz0, hz1, hz2⟩ := info_parts info
  have hlc := h.lecap
  have H := hide h
  clear h
  go_enter Tryd.func7, Tryd.ntmps7
  go_wp2_with (at_make; refine wpList_make_own _ rfl _ _ 30 rfl w.heap.size 5 i0 (.int .u8 0) 1 Tryd.underlying30 hi hz0 hz1 _ _ _ (len + 2) rfl rfl (by omega) ?b2 ?b3 (Nat.le_refl _) ?_)
  case b2 => rw [hz2]; omega
  case b3 => unfold maxLen; omega
  intro w0 hown0 hgrow0
  have HB0 : Hid (Below w.heap.size w w0) := (Below.refl _ _).grown hgrow0 (Nat.le_refl _) (fun k h => by cases h)
  have H0 := hide (H.out.below HB0.out)
  go_wp2_with (first
    | (at_builtin; refine wpList_append_fits_any _ rfl (.tmp 10) (.tmp 11) 30 rfl w.heap.size 5 i0 1 Tryd.underlying30 hi hz1 w.heap.size 0 (len + 2) _ rfl hown0 a len cap (vals zs) rfl H0.out.valsLength H0.out.noAddr H0.out.news (vals_one _) (by omega) ?_; intro w1 hown1 hgrow1; simp only [Nat.zero_add, List.nil_append] at hown1)
    | (at_builtin; refine wpList_append_fits _ rfl (.tmp 13) (.tmp 16) 30 rfl w.heap.size 5 i0 1 Tryd.underlying30 hi hz1 w.heap.size len (len + 2) _ rfl (hown1.alloc _) ⟨w1.heap.size, 0, none⟩ 2 2 [.int .u8 m, .int .u8 m] rfl rfl (by intro t u ht; match t, ht with | 0, ht => simp at ht; subst ht; simp [Addr.add] | 1, ht => simp at ht; subst ht; simp [Addr.add]) (by intro u hu; simp at hu; subst hu; rfl) (by omega) ?_; intro w2 hown2 hgrow2))
  go_ret
  refine ⟨rfl, ?_, ?_⟩
  · have b1 : Below w.heap.size w w1 := HB0.out.grown hgrow1 HB0.out.size (fun k hk => by cases hk; exact Nat.le_refl _)
    exact (b1.alloc b1.size _).grown hgrow2 (Nat.le_trans b1.size (by simp)) (fun k hk => by cases hk; exact Nat.le_refl _)
  · rw [vals_append]
    exact hown2

theorem kept_sq {g len : Nat} {a : Option Addr} {cap : Nat} {zs : List Int} {w : World} (m : Int) (h : Sq w (some ⟨g, 0, none⟩) len (len + 2) zs) (h' : Sq w a len cap zs) (hm : len * 1 ≤ 140737488351232)
    (h1 : w.cell? ⟨g, len, none⟩ = some (.int .u8 m)) (h2 : w.cell? ⟨g, len + 1, none⟩ = some (.int .u8 m)) :
    Calls Tryd.prog 10 #[.slice (some ⟨g, 0, none⟩) len (len + 2), .slice a len cap, .int .u8 m] w fun e w' => e = .returned (.bool true) ∧ ∃ n, w' = w.drewN n := by
  have c := hide (plain_sq h h' (by omega))
  clear h h'
  go_enter Tryd.func10, Tryd.ntmps10
  go_wp2_with fail
  refine c.out.mono ?_
  rintro e w' ⟨rfl, n, rfl⟩
  go_wp2_with fail
  go_ret
  exact ⟨rfl, n, rfl⟩

/-- what Own has made, as a list -/
theorem sq_own {w : World} {B g len : Nat} {zs : List Int} {m : Int} (hl : zs.length = len) (hi : wfs zs)
    (h : w.ownsRow B 5 1 (.slice (some ⟨g, 0, none⟩) (len + 2) (len + 2)) (len + 2) (vals (zs ++ [m, m]))) :
    Sq w (some ⟨g, 0, none⟩) len (len + 2) zs ∧ w.cell? ⟨g, len, none⟩ = some (.int .u8 m) ∧ w.cell? ⟨g, len + 1, none⟩ = some (.int .u8 m) := by
  refine ⟨⟨hl, by omega, fun h => absurd h (by simp), fun h0 => ⟨g, 0, rfl, fun j hj => ?_⟩, hi⟩, ?_, ?_⟩
  · rw [Nat.zero_add, h.cellAt j (by omega)]
    have hj' : j < zs.length := by omega
    rw [vals_append, List.getElem?_append_left (by simpa [vals] using hj')]
    simp [vals, hj']
  · rw [h.cellAt len (by omega)]
    simp [vals, ← hl]
  · rw [h.cellAt (len + 1) (by omega)]
    simp [vals, ← hl]
end B8
end Go.Proofs.YtanfmpeblhegpaaDoor
