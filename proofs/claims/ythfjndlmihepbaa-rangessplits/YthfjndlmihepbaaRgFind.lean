/- The landed Find and Epoch. Condition: the list can be read. -/
import Derived.Test.YthfjndlmihepbaaRgOf
namespace Go.Proofs.Ythfjndlmihepbaa
open Go.ChangeShapes Go.WideShapes Go.ChangeAt Go.RowKit Go.Shelf Rg
set_option linter.unusedVariables false
attribute [local go_sem] Oper.semAt_some

set_option maxRecDepth 100000 in
set_option maxHeartbeats 4000000 in
theorem find_any {w : World} {a : Option Addr} {n c : Nat} {l : List Pc} (h : Ps w a n l) (key : ByteArray) :
    Calls Try.prog 16 #[.slice a n c, .string key] w fun e w' => e = .returned (.int .i64 (findV l key : Nat)) ∧ Below w.heap.size w w' := by
  have CT := fun W => hide (told_any a n c W)
  have CW := fun lo hi W => hide (within_any lo hi key W)
  have H := hide h
  clear h
  refine (callsIn_wide (n := 9)).1 (callsIn_of_wp_marks Try.func16 rfl trivial (wpIn_wide.2 ?_) rfl)
  simp only [Try.ntmps16, List.size_toArray, List.length_cons, List.length_nil, Nat.reduceAdd, Nat.reduceSub, Array.replicate_succ, Array.replicate_zero, List.push_toArray, List.append_toArray, List.nil_append, List.cons_append]
  obtain ⟨w0, ew, B0, s0, X0, X1, X2⟩ := boxes3 w 9 3 3 (.string key) (.int .i64 0) (.int .i64 0)
  go_wp2_with fail
  rw [← ew]
  clear ew
  refine (CT w0).out.mono ?_
  rintro e w1 ⟨rfl, hb1, hx1⟩
  have B1 : Below w.heap.size w w1 := B0.trans (hb1.mono B0.size)
  have T : Ta w1 w0.heap.size a n c l := ⟨hx1, H.out.below B1⟩
  have Y0 : Boxed w1 w.heap.size 9 (.string key) := (hb1.block _ X0.lt).trans X0
  have Y1 : Boxed w1 (w.heap.size + 1) 3 (.int .i64 0) := (hb1.block _ X1.lt).trans X1
  have Y2 : Boxed w1 (w.heap.size + 1 + 1) 3 (.int .i64 0) := (hb1.block _ X2.lt).trans X2
  have l3 := Y2.lt
  have hroom := H.out.room
  have hlen := H.out.len
  have notK : ∀ b, b ∈ [w.heap.size + 1, w.heap.size + 1 + 1] → b < w1.heap.size ∧ ¬ KT w0.heap.size a n b := fun b hb => by
    simp only [List.mem_cons, List.mem_nil_iff, or_false] at hb
    refine ⟨by omega, fun hk => ?_⟩
    rcases hk with e | ⟨h0, ad, e, e2⟩
    · omega
    · obtain ⟨b', off, e3, hb', _⟩ := H.out.cells h0
      rw [e] at e3
      cases e3
      simp at e2
      omega
  have HS0 := hide s0
  clear X0 X1 X2 CT hx1 s0
  go_wp2_with fail
  refine range_seqA (gf := 41) (lb := #[.pointer (some ⟨w0.heap.size, 0, none⟩)]) rfl told_eg (told1_tells T) T.lt
    (fun k W => (∀ j, j < k → hasB l key j = false) ∧ St w1 [w.heap.size + 1, w.heap.size + 1 + 1] [(w.heap.size, 9, .string key), (w.heap.size + 1, 3, .int .i64 0), (w.heap.size + 1 + 1, 3, .int .i64 k)] W)
    (fun cd k W => (cd = .ret ∧ ∃ q, k = q + 1 ∧ hasB l key q = true ∧ ∀ j, j < q → hasB l key j = false) ∧ St w1 [w.heap.size + 1, w.heap.size + 1 + 1] [(w.heap.size + 1, 3, .int .i64 ((k - 1 : Nat) : Int))] W)
    (InL [w.heap.size + 1, w.heap.size + 1 + 1])
    (fun k => st_stab (by simp; omega) _) (fun cd k => st_stab (by simp; omega) _) notK
    ⟨fun j hj => absurd hj (by omega), Chg.refl _ _, by simp only [List.mem_cons, List.mem_nil_iff, or_false]; rintro p (rfl | rfl | rfl) <;> assumption⟩ ?round ?done ?stop
  case round =>
    intro l2 k args W hl hx hW hi
    obtain ⟨p, hp, rfl⟩ := xsL_inv hx
    refine ⟨rfl, ?_⟩
    simp only [pval]
    gi_wp2
    refine ⟨below_alloc (Below.refl _ _) _, fun W2 hi2 hW2 hcs => ?_⟩
    obtain ⟨hn, hst⟩ := hi2
    obtain ⟨c0, c1, c2⟩ := pc_row p (hcs.same _ _ (heap_alloc_new W _) rfl)
    have b0 := hst.box (w.heap.size, 9, .string key) (by simp)
    have b1 := hst.box (w.heap.size + 1, 3, .int .i64 0) (by simp)
    have b3 := hst.box (w.heap.size + 1 + 1, 3, .int .i64 k) (by simp)
    simp only at b0 b1 b3
    have d0 := b0.cell
    have d1 := b1.cell
    have d3 := b3.cell
    have f1 := b1.frozen
    have f3 := b3.frozen
    have hk : k < n := by rw [← hlen]; exact (List.getElem?_eq_some_iff.1 hp).1
    have i3 : IntKind.i64.wrap ((k : Int) + 1) = (k : Int) + 1 := by rw [IntKind.wrap_i64]; omega
    have HG := hide (hasB_at (key := key) hp)
    have HN := hide hn
    have HS := hide hst
    have CX := CW p.k (endN l k) W2
    generalize withinB p.k (endN l k) key = z at CX HG
    clear hn hst hx hi hcs CW
    cases z
    · gi_wp2_with (refine ⟨trivial, ?_⟩; gi_at_call 13; refine (CallsIn.inRound l2 (callsIn_wide.2 CX.out)).mono ?_; rintro e w' ⟨rfl, hw⟩; rw [hw]; clear hw)
      have hc : Chg (fun b => b ∈ [w.heap.size + 1, w.heap.size + 1 + 1]) W2 (W2.setCell ⟨w.heap.size + 1 + 1, 0, none⟩ (.int .i64 ((k : Int) + 1))) := (Chg.refl _ _).setCell (.inl (by simp)) _
      obtain ⟨kf, ku⟩ := keeps_of_chg (B := w1.heap.size) (fun b hb => (notK b hb).1) hc
      refine ⟨kf, ku, fun j hj => ?_, HS.out.next hc ?_⟩
      · by_cases e : j = k
        · rw [e, HG.out]
        · exact HN.out j (by omega)
      simp only [List.mem_cons, List.mem_nil_iff, or_false]
      rintro p (rfl | rfl | rfl)
      · exact box_far b0 (by show w.heap.size ≠ _; omega)
      · exact box_far b1 (by show w.heap.size + 1 ≠ _; omega)
      · exact b3.set _
    · gi_wp2_with (refine ⟨trivial, ?_⟩; gi_at_call 13; refine (CallsIn.inRound l2 (callsIn_wide.2 CX.out)).mono ?_; rintro e w' ⟨rfl, hw⟩; rw [hw]; clear hw)
      have hc : Chg (fun b => b ∈ [w.heap.size + 1, w.heap.size + 1 + 1]) W2 (W2.setCell ⟨w.heap.size + 1, 0, none⟩ (.int .i64 k)) := (Chg.refl _ _).setCell (.inl (by simp)) _
      obtain ⟨kf, ku⟩ := keeps_of_chg (B := w1.heap.size) (fun b hb => (notK b hb).1) hc
      refine ⟨kf, ku, ⟨rfl, k, rfl, HG.out, HN.out⟩, HS.out.next hc ?_⟩
      simp only [List.mem_cons, List.mem_nil_iff, or_false]
      rintro p rfl
      exact b1.set _
  case done =>
    intro D W hD hi hd nd
    obtain ⟨hn, hst⟩ := hi
    rw [xsL_length] at hn
    have b1 := hst.box (w.heap.size + 1, 3, .int .i64 0) (by simp)
    simp only at b1
    have d1 := b1.cell
    have f1 := b1.frozen
    have s1 := set_id b1
    have HN := hide hn
    have HS := hide hst
    have HD := hide hd
    clear hn hst hd
    dsimp only
    go_wp2_with fail
    refine ⟨by simp, .inl ⟨_, _, rfl, run_takeDeferred HD.out, ?_⟩⟩
    refine ⟨_, results_c1 rfl _ _ (w.heap.size + 1) _ rfl (run_loadVar_box (box_put b1 (by omega) _) Try.underlying3 rfl), ?_, below_put (HS.out.below B1 (by simp; omega)) (by omega) _⟩
    unfold findV
    rw [first_none HN.out]
    rfl
  case stop =>
    rintro D cd k W hD hk ⟨⟨rfl, q, eq, hq1, hq2⟩, hst⟩ hd nd
    obtain rfl : k = q := by omega
    have b1 := hst.box (w.heap.size + 1, 3, .int .i64 ((k + 1 - 1 : Nat) : Int)) (by simp)
    simp only at b1
    have HS := hide hst
    have HD := hide hd
    clear hst hd
    go_wp2_with fail
    refine ⟨by simp, .inl ⟨_, _, rfl, run_takeDeferred HD.out, ?_⟩⟩
    refine ⟨_, results_c1 rfl _ _ (w.heap.size + 1) _ rfl (run_loadVar_box (box_put b1 (by omega) _) Try.underlying3 rfl), ?_, below_put (HS.out.below B1 (by simp; omega)) (by omega) _⟩
    rw [xsL_length] at hk
    unfold findV
    rw [first_at (by omega) hq1 hq2]
    rfl
set_option maxRecDepth 100000 in
set_option maxHeartbeats 4000000 in
theorem epoch_any {w : World} {a : Option Addr} {n c : Nat} {l : List Pc} (h : Ps w a n l) :
    Calls Try.prog 23 #[.slice a n c] w fun e w' => e = .returned (.int .i64 (epochV l)) ∧ Below w.heap.size w w' := by
  have CT := fun W => hide (told_any a n c W)
  have H := hide h
  clear h
  refine (callsIn_wide (n := 9)).1 (callsIn_of_wp_marks Try.func23 rfl trivial (wpIn_wide.2 ?_) rfl)
  simp only [Try.ntmps23, List.size_toArray, List.length_cons, List.length_nil, Nat.reduceAdd, Nat.reduceSub, Array.replicate_succ, Array.replicate_zero, List.push_toArray, List.append_toArray, List.nil_append, List.cons_append]
  obtain ⟨w0, ew⟩ : ∃ w0, w0 = w.alloc (.cells #[.int .i64 0] 3) := ⟨_, rfl⟩
  have B0 : Below w.heap.size w w0 := by rw [ew]; exact below_alloc (Below.refl _ _) _
  have s0 : w0.heap.size = w.heap.size + 1 := by rw [ew]; simp
  have X0 : Boxed w0 w.heap.size 3 (.int .i64 0) := by rw [ew]; exact box_new _ _ _
  go_wp2_with fail
  rw [← ew]
  clear ew
  refine (CT w0).out.mono ?_
  rintro e w1 ⟨rfl, hb1, hx1⟩
  have B1 : Below w.heap.size w w1 := B0.trans (hb1.mono B0.size)
  have T : Ta w1 w0.heap.size a n c l := ⟨hx1, H.out.below B1⟩
  have Y0 : Boxed w1 w.heap.size 3 (.int .i64 0) := (hb1.block _ X0.lt).trans X0
  have l3 := Y0.lt
  have hroom := H.out.room
  have hlen := H.out.len
  have notK : ∀ b, b ∈ [w.heap.size] → b < w1.heap.size ∧ ¬ KT w0.heap.size a n b := fun b hb => by
    simp only [List.mem_cons, List.mem_nil_iff, or_false] at hb
    refine ⟨by omega, fun hk => ?_⟩
    rcases hk with e | ⟨h0, ad, e, e2⟩
    · omega
    · obtain ⟨b', off, e3, hb', _⟩ := H.out.cells h0
      rw [e] at e3
      cases e3
      simp at e2
      omega
  have HS0 := hide s0
  clear X0 CT hx1 s0
  go_wp2_with fail
  refine range_seqA (gf := 41) (lb := #[.pointer (some ⟨w0.heap.size, 0, none⟩)]) rfl told_eg (told1_tells T) T.lt
    (fun k W => True ∧ St w1 [w.heap.size] [(w.heap.size, 3, .int .i64 (epochV (l.take k)))] W)
    (fun cd k W => False ∧ St w1 [w.heap.size] [] W)
    (InL [w.heap.size])
    (fun k => st_stab (by simp; omega) _) (fun cd k => st_stab (by simp) _) notK
    ⟨trivial, Chg.refl _ _, by simp only [List.mem_cons, List.mem_nil_iff, or_false]; rintro p rfl; exact Y0⟩ ?round ?done (by rintro D cd k W hD hk ⟨h, _⟩; exact h.elim)
  case round =>
    intro l2 k args W hl hx hW hi
    obtain ⟨p, hp, rfl⟩ := xsL_inv hx
    refine ⟨rfl, ?_⟩
    simp only [pval]
    gi_wp2
    refine ⟨below_alloc (Below.refl _ _) _, fun W2 hi2 hW2 hcs => ?_⟩
    obtain ⟨hn, hst⟩ := hi2
    obtain ⟨c0, c1, c2⟩ := pc_row p (hcs.same _ _ (heap_alloc_new W _) rfl)
    have b0 := hst.box (w.heap.size, 3, .int .i64 (epochV (l.take k))) (by simp)
    simp only at b0
    have HG := hide (epoch_take hp)
    generalize epochV (l.take k) = z at b0 HG
    have d0 := b0.cell
    have f0 := b0.frozen
    have HS := hide hst
    clear hn hst hx hi hcs
    by_cases hm : z < p.ep
    · gi_wp2
      have hc : Chg (fun b => b ∈ [w.heap.size]) W2 (W2.setCell ⟨w.heap.size, 0, none⟩ (.int .i64 p.ep)) := (Chg.refl _ _).setCell (.inl (by simp)) _
      obtain ⟨kf, ku⟩ := keeps_of_chg (B := w1.heap.size) (fun b hb => (notK b hb).1) hc
      first | refine ⟨kf, ku, trivial, HS.out.next hc ?_⟩ | refine ⟨kf, ku, HS.out.next hc ?_⟩
      simp only [List.mem_cons, List.mem_nil_iff, or_false]
      rintro q rfl
      rw [HG.out, show maxI z p.ep = p.ep from if_pos hm]
      exact b0.set _
    · gi_wp2
      have hc : Chg (fun b => b ∈ [w.heap.size]) W2 (W2.setCell ⟨w.heap.size, 0, none⟩ (.int .i64 z)) := (Chg.refl _ _).setCell (.inl (by simp)) _
      obtain ⟨kf, ku⟩ := keeps_of_chg (B := w1.heap.size) (fun b hb => (notK b hb).1) hc
      first | refine ⟨kf, ku, trivial, HS.out.next hc ?_⟩ | refine ⟨kf, ku, HS.out.next hc ?_⟩
      simp only [List.mem_cons, List.mem_nil_iff, or_false]
      rintro q rfl
      rw [HG.out, show maxI z p.ep = z from if_neg (by omega)]
      exact b0.set _
  case done =>
    intro D W hD hi hd nd
    obtain ⟨hn, hst⟩ := hi
    rw [xsL_length, List.take_length] at hst
    have b1 := hst.box (w.heap.size, 3, .int .i64 (epochV l)) (by simp)
    simp only at b1
    have d1 := b1.cell
    have HS := hide hst
    have HD := hide hd
    clear hn hst hd
    dsimp only
    go_wp2_with fail
    refine ⟨by simp, .inl ⟨_, _, rfl, run_takeDeferred HD.out, ?_⟩⟩
    exact ⟨_, by simp [results, Try.f23], rfl, below_put (HS.out.below B1 (by simp)) (by omega) _⟩
end Go.Proofs.Ythfjndlmihepbaa
