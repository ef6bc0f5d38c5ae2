/- What the landed net's calls, and the law folder's list, answer of a nil net. No condition. -/
import Derived.Test.YtbgejpkkocedbaaNetRan
import Derived.Test.YtbgejpkkocedbaaNetList
namespace Go.Proofs.Ytbgejpkkocedbaa
namespace NetNil
open Go.ChangeShapes Go.WideShapes Go.ChangeAt Go.RowKit Go.Shelf B8 Nm
set_option linter.unusedVariables false
attribute [local go_sem] Oper.semAt_some

theorem reach_nil (z : Int) (w : World) :
    Calls Try.prog 34 #[.pointer none, .int .i64 z] w fun e w' => e = .returned (.int .i64 2) ∧ w' = w := by
  go_enter Try.func34, Try.ntmps34
  go_wp2_with fail
  go_ret
  exact ⟨rfl, rfl⟩
theorem drop_nil (z : Int) (w : World) :
    Calls Try.prog 17 #[.pointer none, .int .i64 z] w fun e w' => e = .returned (.int .i64 2) ∧ w' = w := by
  go_enter Try.func17, Try.ntmps17
  go_wp2_with fail
  refine (reach_nil _ _).mono ?_
  rintro e w1 ⟨rfl, rfl⟩
  go_wp2_with fail
  go_ret
  exact ⟨rfl, rfl⟩
theorem double_nil (z : Int) (w : World) :
    Calls Try.prog 18 #[.pointer none, .int .i64 z] w fun e w' => e = .returned (.int .i64 2) ∧ w' = w := by
  go_enter Try.func18, Try.ntmps18
  go_wp2_with fail
  refine (reach_nil _ _).mono ?_
  rintro e w1 ⟨rfl, rfl⟩
  go_wp2_with fail
  go_ret
  exact ⟨rfl, rfl⟩
theorem deliver_nil (z : Int) (w : World) :
    Calls Try.prog 16 #[.pointer none, .int .i64 z] w fun e w' => e = .returned (.tuple #[.agg #[.int .i64 0, .int .i64 0, .slice none 0 0], .int .i64 2]) ∧ Below w.heap.size w w' := by
  go_enter Try.func16, Try.ntmps16
  go_wp2_with fail
  refine (reach_nil _ _).mono ?_
  rintro e w1 ⟨rfl, rfl⟩
  go_wp2_with fail
  refine bodyPost_ret (v := .tuple #[.agg #[.int .i64 0, .int .i64 0, .slice none 0 0], .int .i64 2]) ?r ?d ?_
  case r => exact results_cell_tmp' rfl _ _ w.heap.size 39 #[.int .i64 0, .int .i64 0, .slice none 0 0] (0, 0) _ (.int .i64 2) rfl rfl (heap_alloc_new w _) Try.underlying39 rfl pksize
  case d => rfl
  exact ⟨rfl, below_alloc (Below.refl _ _) _⟩
theorem send_nil (a b : Int) (v : Value) (w : World) :
    Calls Try.prog 21 #[.pointer none, .int .i64 a, .int .i64 b, v] w fun e w' => e = .returned (.int .i64 2) ∧ w' = w := by
  go_enter Try.func21, Try.ntmps21
  go_wp2_with fail
  go_ret
  exact ⟨rfl, rfl⟩
theorem cut_nil (a b : Int) (w : World) :
    Calls Try.prog 19 #[.pointer none, .int .i64 a, .int .i64 b] w fun e w' => e = .returned (.int .i64 2) ∧ w' = w := by
  go_enter Try.func19, Try.ntmps19
  go_wp2_with fail
  go_ret
  exact ⟨rfl, rfl⟩
theorem heal_nil (w : World) :
    Calls Try.prog 20 #[.pointer none] w fun e w' => e = .returned (.int .i64 2) ∧ w' = w := by
  go_enter Try.func20, Try.ntmps20
  go_wp2_with fail
  go_ret
  exact ⟨rfl, rfl⟩
theorem len_nil (w : World) :
    Calls Try.prog 24 #[.pointer none] w fun e w' => e = .returned (.int .i64 0) ∧ w' = w := by
  go_enter Try.func24, Try.ntmps24
  go_wp2_with fail
  go_ret
  exact ⟨rfl, rfl⟩
theorem fork_nil (w : World) :
    Calls Try.prog 25 #[.pointer none] w fun e w' => e = .returned (.pointer none) ∧ w' = w := by
  go_enter Try.func25, Try.ntmps25
  go_wp2_with fail
  go_ret
  exact ⟨rfl, rfl⟩
/-- the iterator of a nil net: no round -/
theorem all1_in (l : Nat) (W : World) : CallsIn Fence.wide (9 - 1) Try.prog 41 #[.func (.yield l) #[] #[]] W fun e W' => (∃ v, e = .returned v) ∧ W' = W := by
  refine callsIn_wide.2 ?_
  go_enter Try.func41, Try.ntmps41
  go_wp2_with fail
  refine bodyPost_end (results_none rfl _ _ _) rfl ?_
  exact ⟨⟨_, rfl⟩, rfl⟩
structure NilI (w w1 : World) (k : Nat) (W : World) : Prop where
  b0 : Boxed W w.heap.size 34 (.slice none 0 0)
  b1 : Boxed W (w.heap.size + 1) 4 (.bool false)
  b2 : Boxed W (w.heap.size + 1 + 1) 34 (.slice none 0 0)
  below : Below w.heap.size w W
set_option maxRecDepth 100000 in
set_option maxHeartbeats 2000000 in
theorem list_nil (w : World) :
    Calls Try.prog 13 #[.pointer none] w fun e w' => e = .returned (.tuple #[.slice none 0 0, .bool true]) ∧ Below w.heap.size w w' := by
  obtain ⟨u, eu⟩ : ∃ u, u = ((w.alloc (.cells #[.slice none 0 0] 34)).alloc (.cells #[.bool false] 4)).alloc (.cells #[.slice none 0 0] 34) := ⟨_, rfl⟩
  have BU : Hid (Below w.heap.size w u) := by rw [eu]; exact below_alloc (below_alloc (below_alloc (Below.refl _ _) _) _) _
  have X0 : Hid (Boxed u w.heap.size 34 (.slice none 0 0)) := by rw [eu]; exact ((Boxed.new w _ _).alloc _).alloc _
  have X1 : Hid (Boxed u (w.heap.size + 1) 4 (.bool false)) := by
    rw [eu]
    have := (Boxed.new (w.alloc (.cells #[.slice none 0 0] 34)) 4 (.bool false)).alloc (.cells #[.slice none 0 0] 34)
    rw [World.size_alloc] at this
    exact this
  have X2 : Hid (Boxed u (w.heap.size + 1 + 1) 34 (.slice none 0 0)) := by
    rw [eu]
    have := Boxed.new ((w.alloc (.cells #[.slice none 0 0] 34)).alloc (.cells #[.bool false] 4)) 34 (.slice none 0 0)
    rw [World.size_alloc, World.size_alloc] at this
    exact this
  have CA := hide (all_nil u)
  have hqf := eql_func_nil u
  rw [eu] at CA hqf
  have EU := hide eu
  clear eu
  refine (callsIn_wide (n := 9)).1 (callsIn_of_wp_marks Try.func13 rfl trivial (wpIn_wide.2 ?_) rfl)
  simp only [Try.ntmps13, List.size_toArray, List.length_cons, List.length_nil, Nat.reduceAdd, Nat.reduceSub, Array.replicate_succ, Array.replicate_zero, List.push_toArray, List.append_toArray, List.nil_append, List.cons_append]
  go_wp2_with fail
  refine CA.out.mono ?_
  rintro e w1 ⟨rfl, rfl⟩
  go_wp2_with fail
  rw [← EU.out]
  clear hqf CA EU
  refine (wpIn_wide (n := 9)).1 (range_own (gf := 41) (lb := #[]) rfl (enters_of Try.func41 (by kernel_rfl) rfl) 0 (fun _ => False) (fun k hk => hk.elim) (NilI w u) (fun _ _ _ => False)
    (fun k W W' h hs => ⟨hs.same _ _ h.b0 (.inr rfl), hs.same _ _ h.b1 (.inr rfl), hs.same _ _ h.b2 (.inr rfl), h.below.trans ((hs.below' BU.out.size h.below.size))⟩)
    (fun l J hJ hY W hW hj => (all1_in l W).mono fun e W' ⟨h1, h2⟩ => ⟨h1, by rw [h2]; exact hj⟩)
    ⟨X0.out, X1.out, X2.out, BU.out⟩ (fun l k args W _ hk => absurd hk (by omega)) ?done)
  case done =>
    intro D W hD hi2 hK
    have CL := hide (len_nil W.drew)
    have c0 := hi2.b0.cell
    have f0 := hi2.b0.frozen
    have c1 := hi2.b1.cell
    have f1 := hi2.b1.frozen
    have c2 := hi2.b2.cell
    have HI := hide hi2
    have HD := hide hD
    have HKK := hide hK
    clear hi2 hK hD
    dsimp only
    go_wp2_with fail
    go_cut [] from 28 (fun w5 => w5 = ((W.setCell ⟨w.heap.size, 0, none⟩ (.slice none 0 0)).setCell ⟨w.heap.size + 1, 0, none⟩ (.bool true)).drew)
    case first =>
      refine wp_nopanic ?_
      go_region_with (go_at_call 24; refine CL.out.mono ?_; rintro e w5 ⟨rfl, rfl⟩)
      all_goals (go_wp2_with fail; go_meet; case rel => rfl)
    case rest =>
      subst hcut
      have K5 : Hid (((W.setCell ⟨w.heap.size, 0, none⟩ (.slice none 0 0)).setCell ⟨w.heap.size + 1, 0, none⟩ (.bool true)).drew.heap[D]? = some (.deferred (some []))) := by
        have n0 : D ≠ w.heap.size := fun e => by have := HKK.out; rw [e, show W.heap[w.heap.size]? = _ from HI.out.b0] at this; cases this
        have n1 : D ≠ w.heap.size + 1 := fun e => by have := HKK.out; rw [e, show W.heap[w.heap.size + 1]? = _ from HI.out.b1] at this; cases this
        exact (Below.heap_setCell _ _ _ _ n1).trans ((Below.heap_setCell _ _ _ _ n0).trans HKK.out)
      have b0' : Hid (Boxed ((W.setCell ⟨w.heap.size, 0, none⟩ (.slice none 0 0)).setCell ⟨w.heap.size + 1, 0, none⟩ (.bool true)).drew w.heap.size 34 (.slice none 0 0)) := (HI.out.b0.set _).other (by omega) _
      have b1' : Hid (Boxed ((W.setCell ⟨w.heap.size, 0, none⟩ (.slice none 0 0)).setCell ⟨w.heap.size + 1, 0, none⟩ (.bool true)).drew (w.heap.size + 1) 4 (.bool true)) := (HI.out.b1.other (by omega) _).set _
      have b2' : Hid (Below w.heap.size W ((W.setCell ⟨w.heap.size, 0, none⟩ (.slice none 0 0)).setCell ⟨w.heap.size + 1, 0, none⟩ (.bool true)).drew) := (((Below.refl w.heap.size W).setCell (p := ⟨w.heap.size, 0, none⟩) (Nat.le_refl _) _).setCell (p := ⟨w.heap.size + 1, 0, none⟩) (Nat.le_succ _) _).drew
      go_wp2_with fail
      refine ⟨by simp, .inl ⟨_, _, rfl, run_takeDeferred K5.out, ?_⟩⟩
      refine ⟨_, results_cell_cell rfl _ _ w.heap.size (w.heap.size + 1) (.slice none 0 0) (.bool true) rfl rfl (run_loadVar_box (boxed_put b0'.out K5.out rfl _) Try.underlying34 rfl) (run_loadVar_box (boxed_put b1'.out K5.out rfl _) Try.underlying4 rfl), rfl, ?_⟩
      have hd := HD.out
      have hw := BU.out.size
      exact (HI.out.below.trans b2'.out).trans ((Below.refl _ _).grown (grownBy_putObj' _ D _) (by have := (Array.getElem?_eq_some_iff.1 K5.out).1; have := HI.out.below.size; have := b2'.out.size; omega) (fun k e => by cases e; omega))
end NetNil
end Go.Proofs.Ytbgejpkkocedbaa
