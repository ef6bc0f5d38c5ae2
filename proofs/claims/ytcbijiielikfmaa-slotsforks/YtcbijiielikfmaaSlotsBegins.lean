/- The law's begins: a sequence tells the beginning of a list. No condition. -/
import Derived.Test.YtcbijiielikfmaaSlotsReadI
import Derived.Test.YtcbijiielikfmaaSeqCount
namespace Go.Proofs.Ytcbijiielikfmaa.Li
open Go.ChangeShapes Go.WideShapes Go.ChangeAt Go.RowKit Go.Shelf Sx
set_option linter.unusedVariables false
attribute [local go_sem] Oper.semAt_some
theorem results_cell {P : Program} {fn : Func} {p : Tmp} {t : TypeId} (h : fn.results = #[.cell p t]) (tmps : Array Value) (w : World) (g : Nat) (v : Value) (hp : tmps.getD p undef = .pointer (some ⟨g, 0, none⟩)) (h1 : (loadVar t ⟨g, 0, none⟩).run P w = .ok v w) : (results fn tmps).run P w = .ok v w := by
  have hp' : tmps[p]?.getD undef = .pointer (some ⟨g, 0, none⟩) := by simpa using hp
  simp [results, h, hp', asAddr, h1]
set_option maxRecDepth 100000 in
set_option maxHeartbeats 2000000 in
theorem begins_any {w : World} {l r : List (Int × Int)} {aa : Option Addr} {ca N1 gf : Nat} {lb : Array Value} {K : Nat → Prop} (h1 : w.ownsRow N1 47 2 (.slice aa l.length ca) l.length (hcells l)) (hm : l.length ≤ 1024)
    (hr : ∀ (k : Nat) (p : Int × Int), r[k]? = some p → l[k]? = some p) (eg : ∀ args w, (callFunc gf args).run Try.prog w = .ok (.enter gf args) w) (ht : Tells Try.prog gf lb (r.map argsOf) K w) (hK : ∀ k, K k → k < w.heap.size) (stop lst : Int) (hl : lst ≤ least stop r.length ∨ least stop r.length = stop) :
    Calls Try.prog 32 #[.func (.func gf) #[] lb, .slice aa l.length ca, .int .i64 stop, .int .i64 lst] w fun e w' => e = .returned (.bool true) ∧ Below w.heap.size w w' := by
  have ST : Hid (∀ (k : Nat) (p : Int × Int), r[k]? = some p → k < l.length ∧ ∃ g, aa = some ⟨g, 0, none⟩ ∧ g < w.heap.size ∧ w.cell? ⟨g, k * 2, none⟩ = some (.int .i64 p.1) ∧ w.cell? ⟨g, k * 2 + 1, none⟩ = some (.int .i64 p.2)) := fun k p hp => by
    have hp' := hr k p hp
    have hk := (List.getElem?_eq_some_iff.1 hp').1
    obtain ⟨g, e1, _, e2, e3⟩ := row_at h1 (by omega)
    have q := hcells_get _ _ _ hp'
    exact ⟨hk, g, e1, e2, e3 _ _ q.1, e3 _ _ q.2⟩
  have TL := hide ht
  have HK := hide hK
  have HL := hide hl
  clear h1 hr ht hK hl
  generalize l.length = n at *
  refine (callsIn_wide (n := 9)).1 (callsIn_of_wp_marks Try.func32 rfl trivial (wpIn_wide.2 ?_) rfl)
  simp only [Try.ntmps32, List.size_toArray, List.length_cons, List.length_nil, Nat.reduceAdd, Nat.reduceSub, Array.replicate_succ, Array.replicate_zero, List.push_toArray, List.append_toArray, List.nil_append, List.cons_append]
  go_wp2_with fail
  obtain ⟨w0, ew⟩ : ∃ w0, w0 = (((w.alloc (.cells #[.slice aa n ca] 39)).alloc (.cells #[.int .i64 stop] 3)).alloc (.cells #[.bool false] 4)).alloc (.cells #[.int .i64 0] 3) := ⟨_, rfl⟩
  rw [← ew]
  have B0 : Below w.heap.size w w0 := by rw [ew]; exact below_alloc (below_alloc (below_alloc (below_alloc (Below.refl _ _) _) _) _) _
  have s0 : w0.heap.size = w.heap.size + 4 := by rw [ew]; simp
  have Y0 : Hid (Boxed w0 w.heap.size 39 (.slice aa n ca)) := by rw [ew]; exact (((Boxed.new w _ _).alloc _).alloc _).alloc _
  have Y1 : Hid (Boxed w0 (w.heap.size + 1) 3 (.int .i64 stop)) := by rw [ew]; exact ((box_two w _ _ _).alloc _).alloc _
  have Y2 : Hid (Boxed w0 (w.heap.size + 1 + 1) 4 (.bool false)) := by
    rw [ew]
    have := (box_two (w.alloc (.cells #[.slice aa n ca] 39)) (.cells #[.int .i64 stop] 3) 4 (.bool false)).alloc (.cells #[.int .i64 0] 3)
    rwa [World.size_alloc] at this
  have Y3 : Hid (Boxed w0 (w.heap.size + 1 + 1 + 1) 3 (.int .i64 0)) := by
    rw [ew]
    have := box_two ((w.alloc (.cells #[.slice aa n ca] 39)).alloc (.cells #[.int .i64 stop] 3)) (.cells #[.bool false] 4) 3 (.int .i64 0)
    rwa [World.size_alloc, World.size_alloc] at this
  have HB := hide B0
  have HS := hide s0
  clear B0 ew
  have T0 := TL.out.later (keepK_below HK.out HB.out)
  clear TL
  refine count_seq (gf := gf) (lb := lb) rfl eg T0 (fun k hk => by have := HK.out k hk; omega) (w.heap.size + 1 + 1 + 1) 3 stop 0 Y3.out (fun hk => by have := HK.out _ hk; omega) (fun _ _ h => by simpa [Exit.inBlock, Exit.then] using h) ?round ?after
  case round =>
    intro l2 j args W hl hx hW hi'
    rw [List.getElem?_map] at hx
    obtain ⟨p, hp, rfl⟩ := Option.map_eq_some_iff.1 hx
    refine ⟨rfl, ?_⟩
    simp only [argsOf, va]
    gi_wp2
    refine ⟨trivial, fun W2 hi2 hW2 => ?_⟩
    obtain ⟨jl, g, rfl, gl, g1, g2⟩ := ST.out j p hp
    have c4 := hi2.2.box.cell
    have f4 := hi2.2.box.frozen
    have x0 : Boxed W2 w.heap.size 39 (.slice (some ⟨g, 0, none⟩) n ca) := (hi2.2.chg.block _ Y0.out.lt (by omega)).trans Y0.out
    have x1 : Boxed W2 (w.heap.size + 1) 3 (.int .i64 stop) := (hi2.2.chg.block _ Y1.out.lt (by omega)).trans Y1.out
    have bk : W2.heap[g]? = w.heap[g]? := (hi2.2.chg.block _ (by omega) (by omega)).trans (HB.out.block g gl)
    have o1 : W2.cell? ⟨g, j * 2, none⟩ = some (.int .i64 p.1) := (World.cell?_of_block (w := w) (w' := W2) (a := ⟨g, j * 2, none⟩) bk).trans g1
    have o2 : W2.cell? ⟨g, j * 2 + 1, none⟩ = some (.int .i64 p.2) := (World.cell?_of_block (w := w) (w' := W2) (a := ⟨g, j * 2 + 1, none⟩) bk).trans g2
    have c0 := x0.cell
    have c1 := x1.cell
    have HI := hide hi2
    have AD := hide (ct_add Y3.out.lt hi2.2)
    have i1 : (j : Int) < (n : Int) := by omega
    have i2 : (0 : Int) ≤ (j : Int) := by omega
    have i3 : ¬ ((n : Int) ≤ (j : Int)) := by omega
    have j1 : ((j : Int) + 1 ≤ 1024) := by omega
    have j2 : ¬ (1024 < (j : Int) + 1) := by omega
    clear x0 x1 bk g1 g2 hi2 hi' hx s0
    by_cases hs : (j : Int) + 1 = stop
    · subst hs
      gi_wp2
      exact ⟨AD.out.1, AD.out.2.1, ⟨rfl, by simp⟩, AD.out.2.2⟩
    · have HS2 := hide hs
      gi_wp2
      exact ⟨AD.out.1, AD.out.2.1, HI.out.next HS2.out AD.out.2.2⟩
  case after =>
    intro D u hD g1 x1 d1
    rw [List.length_map] at x1
    have y1 : Boxed u (w.heap.size + 1) 3 (.int .i64 stop) := (g1.block _ Y1.out.lt (by omega)).trans Y1.out
    have y2 : Boxed u (w.heap.size + 1 + 1) 4 (.bool false) := (g1.block _ Y2.out.lt (by omega)).trans Y2.out
    have BU : Below w.heap.size w u := HB.out.trans (g1.below HB.out.size (fun k hk => by omega))
    have c1 := x1.cell
    have c2 := y1.cell
    have c3 := y2.cell
    have f3 := y2.frozen
    have e1 : (u.setCell ⟨w.heap.size + 1 + 1, 0, none⟩ (.bool true)).heap[D]? = some (.deferred (some [])) := (Below.heap_setCell _ _ _ _ (show D ≠ w.heap.size + 1 + 1 by omega)).trans d1
    have E := hide (And.intro e1 (And.intro (y2.set (.bool true)) (BU.setCell (p := ⟨w.heap.size + 1 + 1, 0, none⟩) (by show _ ≤ w.heap.size + 1 + 1; omega) (.bool true))))
    have DN := hide (show w.heap.size + 4 ≤ D by omega)
    clear x1 y1 y2 BU e1 d1 g1 hD
    dsimp only
    rcases HL.out with hh | hh
    · generalize least stop r.length = m at *
      have t1 : lst ≤ m := hh
      go_wp2_with fail
      have := DN.out
      exact ⟨by simp, .inl ⟨_, _, rfl, run_takeDeferred E.out.1, ⟨_, results_cell rfl _ _ (w.heap.size + 1 + 1) (.bool true) rfl (run_loadVar_box (box_put E.out.2.1 (by omega) _) Try.underlying4 rfl), rfl, below_put E.out.2.2 (by omega) _⟩⟩⟩
    · rw [hh] at c1
      by_cases t1 : lst ≤ stop
      · go_wp2_with fail
        have := DN.out
        exact ⟨by simp, .inl ⟨_, _, rfl, run_takeDeferred E.out.1, ⟨_, results_cell rfl _ _ (w.heap.size + 1 + 1) (.bool true) rfl (run_loadVar_box (box_put E.out.2.1 (by omega) _) Try.underlying4 rfl), rfl, below_put E.out.2.2 (by omega) _⟩⟩⟩
      · go_wp2_with fail
        have := DN.out
        exact ⟨by simp, .inl ⟨_, _, rfl, run_takeDeferred E.out.1, ⟨_, results_cell rfl _ _ (w.heap.size + 1 + 1) (.bool true) rfl (run_loadVar_box (box_put E.out.2.1 (by omega) _) Try.underlying4 rfl), rfl, below_put E.out.2.2 (by omega) _⟩⟩⟩
end Go.Proofs.Ytcbijiielikfmaa.Li
