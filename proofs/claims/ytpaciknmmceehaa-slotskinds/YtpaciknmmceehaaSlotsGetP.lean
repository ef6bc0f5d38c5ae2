/- A landed log's Get, of pairs (its results lie in cells). No condition. -/
import Derived.Test.YtpaciknmmceehaaSlotsCallsP
import Derived.Deep.Cut
import Derived.RangeFuncRecord
namespace Go.Proofs.Ytpaciknmmceehaa.Lp
open Go.ChangeShapes Go.WideShapes Go.ChangeAt Go.RowKit Sx
set_option linter.unusedVariables false

def va (x : Al) : Value := .agg #[.string x.1, .int .i64 x.2]
def zv : Value := .agg #[.string ⟨#[]⟩, .int .i64 0]
def ansV : Option Al → Value
  | some x => va x
  | none => zv
theorem enc_cells {w : World} {b : Nat} {x : Al} (h : w.heap[b]? = some (.cells (enc x) 26 (0, 0))) : ∀ (j : Nat) (v : Value), (enc x)[j]? = some v → w.cell? ⟨b, j, none⟩ = some v := fun j v hj => by rw [cell_of_row _ _ j _ _ _ h]; exact hj
theorem pairinfo : (Try.prog.info? 26).map (·.size) = some 2 := by kernel_rfl
theorem results_cell_tmp {P : Program} {fn : Func} {p q : Tmp} {ty : TypeId} (h : fn.results = #[.cell p ty, .tmp q]) (tmps : Array Value) (w : World) (g : Nat) (t : TypeId) (cs : Array Value) (fr : Nat × Nat) (d : TypeDesc) (x : Value)
    (hp : tmps.getD p undef = .pointer (some ⟨g, 0, none⟩)) (hq : tmps.getD q undef = x) (hg : w.heap[g]? = some (.cells cs t fr))
    (hu : P.underlying ty = some d) (hd : (match d with | .struct _ | .array _ _ => true | _ => false) = true) (hi : (P.info? ty).map (·.size) = some cs.size) :
    (results fn tmps).run P w = .ok (.tuple #[.agg cs, x]) w := by
  have hp' : tmps[p]?.getD undef = .pointer (some ⟨g, 0, none⟩) := by simpa using hp
  have hq' : tmps[q]?.getD undef = x := by simpa using hq
  simp [results, h, hp', hq', asAddr, run_loadVar_row w g t ty cs fr d hg hu hd hi]
theorem two_set {W : World} {b : Nat} {t : TypeId} {x y : Value} (v0 v1 : Value) (h : W.heap[b]? = some (.cells #[x, y] t (0, 0))) : ((W.setCell ⟨b, 0, none⟩ v0).setCell ⟨b, 1, none⟩ v1).heap[b]? = some (.cells #[v0, v1] t (0, 0)) := by
  simp [World.setCell, Array.getElem?_modify, h]
theorem two_below {w W : World} (v0 v1 : Value) (h : Below w.heap.size w W) : Below w.heap.size w ((W.setCell ⟨w.heap.size, 0, none⟩ v0).setCell ⟨w.heap.size, 1, none⟩ v1) := (h.setCell (p := ⟨w.heap.size, 0, none⟩) (Nat.le_refl _) _).setCell (p := ⟨w.heap.size, 1, none⟩) (Nat.le_refl _) _
section
variable {w w' : World} {P : Nat} {L : Lay} {s : Ss Al}
set_option maxRecDepth 100000 in
set_option maxHeartbeats 1000000 in
theorem get_any (h : Lg w P L s) (i : Int) : Calls Try.prog 11 #[.pointer (some ⟨P, 0, none⟩), .int .i64 i] w fun e w' => e = .returned (.tuple #[ansV (getV s i), .bool (getV s i).isSome]) ∧ Below w.heap.size w w' := by
  obtain ⟨w0, ew⟩ : ∃ w0, w0 = (w.alloc (.cells #[.string ⟨#[]⟩, .int .i64 0] 26)).alloc (.cells #[.string ⟨#[]⟩, .int .i64 0] 26) := ⟨_, rfl⟩
  have B0 : Below w.heap.size w w0 := by rw [ew]; exact below_alloc (below_alloc (Below.refl _ _) _) _
  have h0 := h.below B0
  have n1 : w0.heap[w.heap.size]? = some (.cells #[.string ⟨#[]⟩, .int .i64 0] 26 (0, 0)) := by rw [ew]; exact (Below.heap_alloc _ _ _ (by simp)).trans (World.alloc_heap_new w _)
  have n2 : w0.heap[w.heap.size + 1]? = some (.cells #[.string ⟨#[]⟩, .int .i64 0] 26 (0, 0)) := by
    rw [ew]
    have := World.alloc_heap_new (w.alloc (.cells #[.string ⟨#[]⟩, .int .i64 0] 26)) (.cells #[.string ⟨#[]⟩, .int .i64 0] 26)
    rwa [World.size_alloc] at this
  have d0 : w0.cell? ⟨w.heap.size + 1, 0, none⟩ = some (.string ⟨#[]⟩) := by rw [cell_of_row _ _ 0 _ _ _ n2]; rfl
  have d1 : w0.cell? ⟨w.heap.size + 1, 1, none⟩ = some (.int .i64 0) := by rw [cell_of_row _ _ 1 _ _ _ n2]; rfl
  have d2 : w0.cell? ⟨w.heap.size, 0, none⟩ = some (.string ⟨#[]⟩) := by rw [cell_of_row _ _ 0 _ _ _ n1]; rfl
  have d3 : w0.cell? ⟨w.heap.size, 1, none⟩ = some (.int .i64 0) := by rw [cell_of_row _ _ 1 _ _ _ n1]; rfl
  have fz : ∀ o, w0.frozen? ⟨w.heap.size, o, none⟩ = false := fun o => by simp [World.frozen?, n1]
  have HB := hide B0
  have HN := hide n1
  have EW := hide ew
  clear n1 n2 B0 ew h
  obtain ⟨c0, _, c2, _⟩ := h0.c
  have CT := hide (top_any h0)
  have H := hide h0
  have LN := h0.len
  rw [Lay.v, h0.len] at c2
  have f1 := h0.ok.f1
  have f2 := h0.ok.f2
  have l1 : s.ps.length ≤ 1024 := by have := h0.ok.len; have := h0.ok.m2; omega
  by_cases h1 : i < s.first
  · have e1 : getV s i = none := by simp [getV, h1]
    rw [e1]
    clear h0 e1 f1 f2 l1 LN
    go_enter Try.func11, Try.ntmps11
    go_upto_region 2 with fail
    rw [← EW.out]
    go_wp2_with fail
    refine bodyPost_ret (results_cell_tmp rfl _ _ w.heap.size 26 #[.string ⟨#[]⟩, .int .i64 0] (0, 0) _ (.bool false) rfl rfl (two_set _ _ HN.out) Try.underlying26 rfl pairinfo) rfl ⟨rfl, two_below _ _ (HB.out)⟩
  · obtain ⟨k, rfl⟩ : ∃ k : Nat, i = s.first + (k : Int) := ⟨(i - s.first).toNat, by omega⟩
    have eg : getV s (s.first + (k : Int)) = (s.ps[k]?).join := by unfold getV; rw [if_neg h1, show (s.first + (k : Int) - s.first).toNat = k by omega]
    rw [eg]
    have h1' : ¬ (s.first + (k : Int) < s.first) := h1
    by_cases h2 : k < s.ps.length
    · obtain ⟨b, o, e1, e2, hp⟩ := h0.place h2
      obtain ⟨g, ea, cg, _⟩ := h0.at e1
      rw [ea] at c2
      rw [e2]
      have t1 : ¬ (topV s ≤ s.first + (k : Int)) := by unfold topV; omega
      have t2 : (k : Int) < (s.ps.length : Int) := by omega
      have t3 : (0 : Int) ≤ (k : Int) := by omega
      have t4 : IntKind.i64.wrap (k : Int) = (k : Int) := by rw [IntKind.wrap_i64]; omega
      have t5 : IntKind.i64.wrap (s.first + (k : Int) - s.first) = (k : Int) := by rw [IntKind.wrap_i64]; omega
      rcases hp.shape with ⟨rfl, rfl⟩ | ⟨b0, x, rfl, rfl, hx⟩
      · rw [show pv none = .pointer none from rfl] at cg
        simp only [Option.join_some]
        clear h0 eg f1 f2 l1 LN e1 e2 hp ea h1
        generalize s.first = F at *
        go_enter Try.func11, Try.ntmps11
        go_upto_region 2 with fail
        rw [← EW.out]
        go_wp2_with fail
        refine CT.out.mono ?_
        rintro e w2 ⟨rfl, q, rfl⟩
        go_wp2_with fail
        go_quiet (fail)
        go_wp2_with fail
        refine bodyPost_ret (results_cell_tmp rfl _ _ w.heap.size 26 #[.string ⟨#[]⟩, .int .i64 0] (0, 0) _ (.bool false) rfl rfl (two_set _ _ HN.out) Try.underlying26 rfl pairinfo) rfl ⟨rfl, two_below _ _ (HB.out.trans ⟨rfl, rfl, rfl, Nat.le_refl _, fun _ _ => rfl⟩)⟩
      · rw [show pv (some b0) = .pointer (some ⟨b0, 0, none⟩) from rfl] at cg
        have y0 : w0.cell? ⟨b0, 0, none⟩ = some (.string x.1) := enc_cells hx 0 _ rfl
        have y1 : w0.cell? ⟨b0, 1, none⟩ = some (.int .i64 x.2) := enc_cells hx 1 _ rfl
        simp only [Option.join_some]
        clear h0 eg f1 f2 l1 LN e1 e2 hp ea h1
        generalize s.first = F at *
        go_enter Try.func11, Try.ntmps11
        go_upto_region 2 with fail
        rw [← EW.out]
        go_wp2_with fail
        refine CT.out.mono ?_
        rintro e w2 ⟨rfl, q, rfl⟩
        go_wp2_with fail
        go_quiet (fail)
        go_wp2_with fail
        refine bodyPost_ret (results_cell_tmp rfl _ _ w.heap.size 26 #[.string x.1, .int .i64 x.2] (0, 0) _ (.bool true) rfl rfl (two_set _ _ HN.out) Try.underlying26 rfl pairinfo) rfl ⟨rfl, two_below _ _ (HB.out.trans ⟨rfl, rfl, rfl, Nat.le_refl _, fun _ _ => rfl⟩)⟩
    · have e2 : s.ps[k]? = none := List.getElem?_eq_none (by omega)
      rw [e2]
      have t1 : topV s ≤ s.first + (k : Int) := by unfold topV; omega
      simp only [Option.join_none]
      clear h0 eg f1 f2 l1 LN e2 h1
      generalize s.first = F at *
      go_enter Try.func11, Try.ntmps11
      go_upto_region 2 with fail
      rw [← EW.out]
      go_wp2_with fail
      refine CT.out.mono ?_
      rintro e w2 ⟨rfl, q, rfl⟩
      go_wp2_with fail
      refine bodyPost_ret (results_cell_tmp rfl _ _ w.heap.size 26 #[.string ⟨#[]⟩, .int .i64 0] (0, 0) _ (.bool false) rfl rfl (two_set _ _ HN.out) Try.underlying26 rfl pairinfo) rfl ⟨rfl, two_below _ _ (HB.out.trans ⟨rfl, rfl, rfl, Nat.le_refl _, fun _ _ => rfl⟩)⟩
end
end Go.Proofs.Ytpaciknmmceehaa.Lp
