/- The landed Of. Condition: the list can be read. -/
import Derived.Test.YthfjndlmihepbaaRgTold
import Derived.Test.YthfjndlmihepbaaSeqBoxes
namespace Go.Proofs.Ythfjndlmihepbaa
open Go.ChangeShapes Go.WideShapes Go.ChangeAt Go.RowKit Go.Shelf Rg
set_option linter.unusedVariables false
attribute [local go_sem] Oper.semAt_some

theorem told_eg : ∀ args w, (callFunc 41 args).run Try.prog w = .ok (.enter 41 args) w := enters_of Try.func41 (by kernel_rfl) rfl
set_option maxRecDepth 100000 in
set_option maxHeartbeats 4000000 in
theorem of_any {w : World} {a : Option Addr} {n c : Nat} {l : List Pc} (h : Ps w a n l) (g : Int) :
    Calls Try.prog 11 #[.slice a n c, .int .i64 g] w fun e w' => e = .returned (.tuple #[.int .i64 (ofN l g), .bool (ofB l g)]) ∧ Below w.heap.size w w' := by
  have CT := fun W => hide (told_any a n c W)
  have H := hide h
  clear h
  refine (callsIn_wide (n := 9)).1 (callsIn_of_wp_marks Try.func11 rfl trivial (wpIn_wide.2 ?_) rfl)
  simp only [Try.ntmps11, List.size_toArray, List.length_cons, List.length_nil, Nat.reduceAdd, Nat.reduceSub, Array.replicate_succ, Array.replicate_zero, List.push_toArray, List.append_toArray, List.nil_append, List.cons_append]
  obtain ⟨w0, ew, B0, s0, X0, X1, X2, X3⟩ := boxes4 w 3 3 4 3 (.int .i64 g) (.int .i64 0) (.bool false) (.int .i64 0)
  go_wp2_with fail
  rw [← ew]
  clear ew
  refine (CT w0).out.mono ?_
  rintro e w1 ⟨rfl, hb1, hx1⟩
  have B1 : Below w.heap.size w w1 := B0.trans (hb1.mono B0.size)
  have T : Ta w1 w0.heap.size a n c l := ⟨hx1, H.out.below B1⟩
  have Y0 : Boxed w1 w.heap.size 3 (.int .i64 g) := (hb1.block _ X0.lt).trans X0
  have Y1 : Boxed w1 (w.heap.size + 1) 3 (.int .i64 0) := (hb1.block _ X1.lt).trans X1
  have Y2 : Boxed w1 (w.heap.size + 1 + 1) 4 (.bool false) := (hb1.block _ X2.lt).trans X2
  have Y3 : Boxed w1 (w.heap.size + 1 + 1 + 1) 3 (.int .i64 0) := (hb1.block _ X3.lt).trans X3
  have l3 := Y3.lt
  have hroom := H.out.room
  have hlen := H.out.len
  have notK : ∀ b, b ∈ [w.heap.size + 1, w.heap.size + 1 + 1, w.heap.size + 1 + 1 + 1] → b < w1.heap.size ∧ ¬ KT w0.heap.size a n b := fun b hb => by
    simp only [List.mem_cons, List.mem_nil_iff, or_false] at hb
    refine ⟨by omega, fun hk => ?_⟩
    rcases hk with e | ⟨h0, ad, e, e2⟩
    · omega
    · obtain ⟨b', off, e3, hb', _⟩ := H.out.cells h0
      rw [e] at e3
      cases e3
      simp at e2
      omega
  have HS0 := hide s0
  clear X0 X1 X2 X3 CT hx1 s0
  go_wp2_with fail
  refine range_seqA (gf := 41) (lb := #[.pointer (some ⟨w0.heap.size, 0, none⟩)]) rfl told_eg (told1_tells T) T.lt
    (fun k W => (∀ j, j < k → grpAt l g j = false) ∧ St w1 [w.heap.size + 1, w.heap.size + 1 + 1, w.heap.size + 1 + 1 + 1] [(w.heap.size, 3, .int .i64 g), (w.heap.size + 1, 3, .int .i64 0), (w.heap.size + 1 + 1, 4, .bool false), (w.heap.size + 1 + 1 + 1, 3, .int .i64 k)] W)
    (fun cd k W => (cd = .ret ∧ ∃ q, k = q + 1 ∧ grpAt l g q = true ∧ ∀ j, j < q → grpAt l g j = false) ∧ St w1 [w.heap.size + 1, w.heap.size + 1 + 1, w.heap.size + 1 + 1 + 1] [(w.heap.size + 1, 3, .int .i64 ((k - 1 : Nat) : Int)), (w.heap.size + 1 + 1, 4, .bool true)] W)
    (InL [w.heap.size + 1, w.heap.size + 1 + 1, w.heap.size + 1 + 1 + 1])
    (fun k => st_stab (by simp; omega) _) (fun cd k => st_stab (by simp; omega) _) notK
    ⟨fun j hj => absurd hj (by omega), Chg.refl _ _, by simp only [List.mem_cons, List.mem_nil_iff, or_false]; rintro p (rfl | rfl | rfl | rfl) <;> assumption⟩ ?round ?done ?stop
  case round =>
    intro l2 k args W hl hx hW hi
    obtain ⟨p, hp, rfl⟩ := xsL_inv hx
    refine ⟨rfl, ?_⟩
    simp only [pval]
    gi_wp2
    refine ⟨below_alloc (Below.refl _ _) _, fun W2 hi2 hW2 hcs => ?_⟩
    obtain ⟨hn, hst⟩ := hi2
    obtain ⟨c0, c1, c2⟩ := pc_row p (hcs.same _ _ (heap_alloc_new W _) rfl)
    have b0 := hst.box (w.heap.size, 3, .int .i64 g) (by simp)
    have b1 := hst.box (w.heap.size + 1, 3, .int .i64 0) (by simp)
    have b2 := hst.box (w.heap.size + 1 + 1, 4, .bool false) (by simp)
    have b3 := hst.box (w.heap.size + 1 + 1 + 1, 3, .int .i64 k) (by simp)
    simp only at b0 b1 b2 b3
    have d0 := b0.cell
    have d1 := b1.cell
    have d2 := b2.cell
    have d3 := b3.cell
    have f1 := b1.frozen
    have f2 := b2.frozen
    have f3 := b3.frozen
    have hk : k < n := by rw [← hlen]; exact (List.getElem?_eq_some_iff.1 hp).1
    have i3 : IntKind.i64.wrap ((k : Int) + 1) = (k : Int) + 1 := by rw [IntKind.wrap_i64]; omega
    have HG := hide (grpAt_at (g := g) hp)
    have HN := hide hn
    have HS := hide hst
    clear hn hst hx hi hcs
    by_cases hg : p.g = g
    · subst hg
      gi_wp2
      have hc : Chg (fun b => b ∈ [w.heap.size + 1, w.heap.size + 1 + 1, w.heap.size + 1 + 1 + 1]) W2 ((W2.setCell ⟨w.heap.size + 1, 0, none⟩ (.int .i64 k)).setCell ⟨w.heap.size + 1 + 1, 0, none⟩ (.bool true)) := ((Chg.refl _ _).setCell (.inl (by simp)) _).setCell (.inl (by simp)) _
      obtain ⟨kf, ku⟩ := keeps_of_chg (B := w1.heap.size) (fun b hb => (notK b hb).1) hc
      refine ⟨kf, ku, ⟨rfl, k, rfl, by rw [HG.out]; first | rfl | simp, HN.out⟩, HS.out.next hc ?_⟩
      simp only [List.mem_cons, List.mem_nil_iff, or_false]
      rintro p (rfl | rfl)
      · exact box_far (b1.set _) (by show w.heap.size + 1 ≠ _; omega)
      · exact (box_far b2 (by omega)).set _
    · gi_wp2
      have hc : Chg (fun b => b ∈ [w.heap.size + 1, w.heap.size + 1 + 1, w.heap.size + 1 + 1 + 1]) W2 (W2.setCell ⟨w.heap.size + 1 + 1 + 1, 0, none⟩ (.int .i64 ((k : Int) + 1))) := (Chg.refl _ _).setCell (.inl (by simp)) _
      obtain ⟨kf, ku⟩ := keeps_of_chg (B := w1.heap.size) (fun b hb => (notK b hb).1) hc
      refine ⟨kf, ku, fun j hj => ?_, HS.out.next hc ?_⟩
      · by_cases e : j = k
        · rw [e, HG.out, decide_eq_false hg]
        · exact HN.out j (by omega)
      simp only [List.mem_cons, List.mem_nil_iff, or_false]
      rintro p (rfl | rfl | rfl | rfl)
      · exact box_far b0 (by show w.heap.size ≠ _; omega)
      · exact box_far b1 (by show w.heap.size + 1 ≠ _; omega)
      · exact box_far b2 (by show w.heap.size + 1 + 1 ≠ _; omega)
      · exact b3.set _
  case done =>
    intro D W hD hi hd nd
    obtain ⟨hn, hst⟩ := hi
    rw [xsL_length] at hn
    have b1 := hst.box (w.heap.size + 1, 3, .int .i64 0) (by simp)
    have b2 := hst.box (w.heap.size + 1 + 1, 4, .bool false) (by simp)
    simp only at b1 b2
    have d1 := b1.cell
    have d2 := b2.cell
    have f1 := b1.frozen
    have f2 := b2.frozen
    have s1 := set_id b1
    have s2 := set_id b2
    have HN := hide hn
    have HS := hide hst
    have HD := hide hd
    clear hn hst hd
    dsimp only
    go_wp2_with fail
    refine ⟨by simp, .inl ⟨_, _, rfl, run_takeDeferred HD.out, ?_⟩⟩
    refine ⟨_, results_c2 rfl _ _ (w.heap.size + 1) (w.heap.size + 1 + 1) _ _ rfl rfl (run_loadVar_box (box_put b1 (by omega) _) Try.underlying3 rfl) (run_loadVar_box (box_put b2 (by omega) _) Try.underlying4 rfl), ?_, below_put (HS.out.below B1 (by simp; omega)) (by omega) _⟩
    unfold ofN ofB ofO
    rw [first_none HN.out]
    rfl
  case stop =>
    rintro D cd k W hD hk ⟨⟨rfl, q, eq, hq1, hq2⟩, hst⟩ hd nd
    obtain rfl : k = q := by omega
    have b1 := hst.box (w.heap.size + 1, 3, .int .i64 ((k + 1 - 1 : Nat) : Int)) (by simp)
    have b2 := hst.box (w.heap.size + 1 + 1, 4, .bool true) (by simp)
    simp only at b1 b2
    have HS := hide hst
    have HD := hide hd
    clear hst hd
    go_wp2_with fail
    refine ⟨by simp, .inl ⟨_, _, rfl, run_takeDeferred HD.out, ?_⟩⟩
    refine ⟨_, results_c2 rfl _ _ (w.heap.size + 1) (w.heap.size + 1 + 1) _ _ rfl rfl (run_loadVar_box (box_put b1 (by omega) _) Try.underlying3 rfl) (run_loadVar_box (box_put b2 (by omega) _) Try.underlying4 rfl), ?_, below_put (HS.out.below B1 (by simp; omega)) (by omega) _⟩
    rw [xsL_length] at hk
    unfold ofN ofB ofO
    rw [first_at (by omega) hq1 hq2]
    rfl
end Go.Proofs.Ythfjndlmihepbaa
