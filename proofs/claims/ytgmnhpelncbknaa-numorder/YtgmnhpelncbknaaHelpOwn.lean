/- What the law folder's helpers Own and Kept do with a list of ints, at the landed code: a list of its own with two marks behind it; and whether it is as it was. Condition: the list takes no more memory than an argument may. -/
import Derived.Test.YtgmnhpelncbknaaNumSl
import Derived.Laws.OwnMore
namespace Go.Proofs.Ytgmnhpelncbknaa
open Go.ChangeShapes Go.WideShapes Go.ChangeAt Go.RowKit
set_option linter.unusedVariables false

theorem info3 : (Try.prog.info? 3).map (fun i => (i.zero, i.size, i.bytes)) = some (some (.int .i64 0), 1, 8) := by kernel_rfl

theorem own_sl {a : Option Addr} {len cap : Nat} {zs : List Int} {w : World} (m : Int) (h : Sl w a len cap zs) :
    Calls Try.prog 14 #[.slice a len cap, .int .i64 m] w fun e w' => e = .returned (.slice (some ⟨w.heap.size, 0, none⟩) len (len + 2)) ∧ Below w.heap.size w w' ∧ w'.ownsRow w.heap.size 3 1 (.slice (some ⟨w.heap.size, 0, none⟩) (len + 2) (len + 2)) (len + 2) ((zs ++ [m, m]).map (Value.int .i64)) := by
  obtain ⟨i0, hi, hz0, hz1, hz2⟩ := info_parts info3
  have hr := h.room
  have hlc := h.lecap
  have H := hide h
  clear h
  go_enter Try.func14, Try.ntmps14
  go_wp2_with (at_make; refine wpList_make_own _ rfl _ _ 27 rfl w.heap.size 3 i0 (.int .i64 0) 1 Try.underlying27 hi hz0 hz1 _ _ _ (len + 2) rfl rfl (by omega) ?b2 ?b3 (Nat.le_refl _) ?_)
  case b2 => rw [hz2]; omega
  case b3 => unfold maxLen; omega
  intro w0 hown0 hgrow0
  have hn : a = none → len = 0 ∧ cap = 0 := fun e => by have := H.out.nil e; omega
  have hcs : ∀ ad, a = some ad → ∀ j u, (zs.map (Value.int .i64))[j]? = some u → w0.cell? (ad.add j) = some u := by
    intro ad e j u hu
    have hj : j < len := by
      have := (List.getElem?_eq_some_iff.1 hu).1
      have := H.out.length
      simp at *
      omega
    obtain ⟨b, off, e2, hc⟩ := H.out.cells (by omega)
    rw [e] at e2
    obtain rfl := Option.some.inj e2
    rw [Addr.add_lit, hgrow0.cell (hc j hj) (fun e => by cases e)]
    have := H.out.length
    have hj' : j < zs.length := by omega
    simpa [hj'] using hu
  have hln : (zs.map (Value.int .i64)).length = len * 1 := by have := H.out.length; simp; omega
  have hb0 : Below w.heap.size w w0 := (Below.refl _ _).grown hgrow0 (Nat.le_refl _) (fun k h => by cases h)
  have HN := hide hn
  have HCS := hide hcs
  have HLN := hide hln
  have HB0 := hide hb0
  clear hn hcs hln hb0
  go_wp2_with (first
    | (at_builtin; refine wpList_append_fits_any _ rfl (.tmp 10) (.tmp 11) 27 rfl w.heap.size 3 i0 1 Try.underlying27 hi hz1 w.heap.size 0 (len + 2) _ rfl hown0 a len cap (zs.map (Value.int .i64)) rfl HLN.out HN.out HCS.out (ints_oneCell _ _) (by omega) ?_; intro w1 hown1 hgrow1; simp only [Nat.zero_add, List.nil_append] at hown1)
    | (at_builtin; refine wpList_append_fits _ rfl (.tmp 13) (.tmp 16) 27 rfl w.heap.size 3 i0 1 Try.underlying27 hi hz1 w.heap.size len (len + 2) _ rfl (hown1.alloc _) ⟨w1.heap.size, 0, none⟩ 2 2 [.int .i64 m, .int .i64 m] rfl rfl (by intro t u ht; match t, ht with | 0, ht => simp at ht; subst ht; simp [Addr.add] | 1, ht => simp at ht; subst ht; simp [Addr.add]) (by intro u hu; simp at hu; subst hu; rfl) (by omega) ?_; intro w2 hown2 hgrow2))
  go_ret
  refine ⟨rfl, ?_, ?_⟩
  · have b1 : Below w.heap.size w w1 := HB0.out.grown hgrow1 HB0.out.size (fun k hk => by cases hk; exact Nat.le_refl _)
    exact (b1.alloc b1.size _).grown hgrow2 (Nat.le_trans b1.size (by simp)) (fun k hk => by cases hk; exact Nat.le_refl _)
  · rw [List.map_append]
    exact hown2
end Go.Proofs.Ytgmnhpelncbknaa
