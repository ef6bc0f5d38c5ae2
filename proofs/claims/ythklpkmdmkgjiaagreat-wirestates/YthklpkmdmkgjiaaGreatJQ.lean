/- What the document's walk reads of a list of marks. No condition but the size. What the document's walk reads of a list of waits. No condition but the size. What the document's walk reads of a list of deals. No condition but the size. What the document's walk reads of a list of ends. No condition but the size. -/
import Derived.Test.YthklpkmdmkgjiaaGreatJS
import Derived.Test.YthklpkmdmkgjiaaGreatJA
import Derived.Deep.DeepCutAuto
import Derived.Laws.CopyOwn
import Derived.Deep.AppendLies
namespace Go.Proofs.YthklpkmdmkgjiaaGreat
open Go.ChangeShapes Go.WideShapes Go.ChangeAt Go.RowKit B8 Cm Wm
set_option linter.unusedVariables false

theorem xinfo_marks : (Tryz.prog.info? 66).map (fun i => (i.zero, i.size, i.bytes)) = some (some (.agg #[.int .i64 0, .int .i64 0, .bool false, .int .i64 0, .int .i64 0, .int .i64 0, .int .i64 0]), 7, 56) := by kernel_rfl
/-- what reading a list at the cell p of M brings about -/
def XLMark (B W R : Nat) (a : Option Addr) (n cp : Nat) (bs : List Int) (s : St) (w : World) (M p : Nat) (u : World) : Prop :=
  XS u B W R a n cp bs (listA bs (flatA bs [0, 0, 2, 0, 0, 0, 0]) s).s ∧ ((listA bs (flatA bs [0, 0, 2, 0, 0, 0, 0]) s).s.err = 0 → ∃ ad k c, u.cell? ⟨M, p, none⟩ = some (.slice ad k c) ∧ Ls u (OutB B (Rown W R) M u) ad k c 7 (listA bs (flatA bs [0, 0, 2, 0, 0, 0, 0]) s).v) ∧ Stp (Rown W R) M p (p + 1) w u
/-- the walk stands behind j of them -/
structure XLoopMark (B W R : Nat) (a : Option Addr) (n cp : Nat) (bs : List Int) (s : St) (w : World) (M p j : Nat) (av : Option Addr) (cv : Nat) (rows : List (List Value)) (u : World) : Prop where
  x : XS u B W R a n cp bs (timesA (flatA bs [0, 0, 2, 0, 0, 0, 0]) j (countA bs 1024 s).s).s
  c : u.cell? ⟨M, p, none⟩ = some (.slice av j cv)
  f : u.frozen? ⟨M, p, none⟩ = false
  own : u.ownsRow w.heap.size 66 7 (.slice av j cv) j rows.flatten
  r : Xrows rows (timesA (flatA bs [0, 0, 2, 0, 0, 0, 0]) j (countA bs 1024 s).s).v 7
  st : Stp (Rown W R) M p (p + 1) w u

set_option maxRecDepth 100000 in
set_option maxHeartbeats 4000000 in
theorem xlist_marks {B W R : Nat} {a : Option Addr} {n cp : Nat} {bs : List Int} {s : St} {w : World} {M p : Nat} (h : XS w B W R a n cp bs s) (hF : Far W R a M) (hc : ∃ av nv cv, w.cell? ⟨M, p, none⟩ = some (.slice av nv cv)) (hz : w.frozen? ⟨M, p, none⟩ = false) :
    Calls Tryz.prog 49 #[.pointer (some ⟨W, 0, none⟩), .pointer (some ⟨M, p, none⟩)] w fun e w' => e = .returned (.tuple #[]) ∧ XLMark B W R a n cp bs s w M p w' := by
  obtain ⟨i0, hi, hz0, hz1, hz2⟩ := info_parts xinfo_marks
  obtain ⟨av0, nv0, cv0, hc⟩ := hc
  have CM := hide (xmany_any (nv0 : Int) h)
  have HF := hide hF
  have HZ := hide hz
  have HC := hide hc
  have ltM : Hid (M < w.heap.size) := World.block_lt_of_cell? w _ hc
  have WR : Hid (W < w.heap.size ∧ R < w.heap.size) := h.lt
  have AP : Hid (∀ b off, a = some ⟨b, off, none⟩ → b < w.heap.size) := fun b off e => (h.ap b off e).2
  have LO : Hid (B ≤ w.heap.size) := h.low
  have CL : Hid ((countA bs 1024 s).v ≤ 1024) := by show _ ≤ _; have := countA_le bs 1024 s; omega
  clear h hF hz
  go_enter Tryz.func49, Tryz.ntmps49
  go_wp2_with fail
  refine CM.out.mono ?_
  rintro e w1 ⟨rfl, hx1, hs1⟩
  have c1 := hx1.c1
  have eM := hs1.block M ltM.out (far_own HF.out w)
  have cM : w1.cell? ⟨M, p, none⟩ = some (.slice av0 nv0 cv0) := (World.cell?_of_block (w := w) (a := ⟨M, p, none⟩) eM).trans HC.out
  have fM : w1.frozen? ⟨M, p, none⟩ = false := (World.frozen?_of_block (w := w) (a := ⟨M, p, none⟩) eM).trans HZ.out
  have L0 : Hid (XLoopMark B W R a n cp bs s w M p 0 none 0 [] (w1.setCell ⟨M, p, none⟩ (.slice none 0 0))) :=
    ⟨hx1.store HF.out _, World.cell?_setCell_same _ _ _ cM, by rw [World.frozen?_setCell]; exact fM, World.ownsRow_nil _ _ _ _, ⟨rfl, fun i row xs hr => by simp at hr⟩, stp_set hs1 ltM.out (far_own HF.out w) (fun v k hk => hk) _⟩
  obtain ⟨k, ek⟩ : ∃ k, k = (countA bs 1024 s).v := ⟨_, rfl⟩
  rw [← ek]
  have EK := hide ek
  have KL : k ≤ 1024 := by rw [ek]; exact CL.out
  clear hx1 hs1 eM CM hc ek
  go_wp2_with fail
  obtain ⟨w2, e2⟩ : ∃ w2, w2 = w1.setCell ⟨M, p, none⟩ (.slice none 0 0) := ⟨_, rfl⟩
  rw [← e2] at L0 ⊢
  clear e2 c1 cM fM
  go_loopw [6] (fun i wr => ∃ (j : Nat) (av : Option Addr) (cv : Nat) (rows : List (List Value)), j ≤ k ∧ i = .int .i64 j ∧ Hid (XLoopMark B W R a n cp bs s w M p j av cv rows wr)) (fun i _ => k - (intOf i).toNat)
  case atStart => exact ⟨0, none, 0, [], Nat.zero_le _, rfl, L0⟩
  case round =>
    clear L0
    obtain ⟨j, av, cv, rows, hj, rfl, HX⟩ := hrel
    by_cases hlt : j < k
    · have i1 : (j : Int) < (k : Int) := by omega
      have CM := hide (xmore_any HX.out.x)
      by_cases he : (timesA (flatA bs [0, 0, 2, 0, 0, 0, 0]) j (countA bs 1024 s).s).s.err = 0
      · rw [decide_eq_true he] at CM
        have d1 : (wr.alloc (.cells #[.int .i64 0, .int .i64 0, .bool false, .int .i64 0, .int .i64 0, .int .i64 0, .int .i64 0] 66)).cell? ⟨W, 1, none⟩ = some (.pointer (some ⟨R, 0, none⟩)) := (World.cell?_alloc_lt wr _ _ HX.out.x.lt.1).trans HX.out.x.c1
        have hsz := HX.out.st.size
        have FN : Hid (Far W R a wr.heap.size) := ⟨by have := WR.out; omega, by have := WR.out; omega, fun b off e => by have := AP.out b off e; omega⟩
        have XP := hide (xmark_any (M := wr.heap.size) (o := 0) (HX.out.x.below (below_alloc1 wr (.cells #[.int .i64 0, .int .i64 0, .bool false, .int .i64 0, .int .i64 0, .int .i64 0, .int .i64 0] 66))) FN.out (by simp) (room_new wr #[.int .i64 0, .int .i64 0, .bool false, .int .i64 0, .int .i64 0, .int .i64 0, .int .i64 0] 66 7 rfl) ⟨0, by rw [cell_of_row _ _ _ _ _ _ (heap_alloc_new wr (.cells #[.int .i64 0, .int .i64 0, .bool false, .int .i64 0, .int .i64 0, .int .i64 0, .int .i64 0] 66))]; rfl⟩)
        have ltw : Hid (w.heap.size ≤ wr.heap.size) := hsz
        have SL : Hid (wr.heap.size < (wr.alloc (.cells #[.int .i64 0, .int .i64 0, .bool false, .int .i64 0, .int .i64 0, .int .i64 0, .int .i64 0] 66)).heap.size) := by show _ < _; simp
        clear hsz he
        go_wp2_with fail
        refine CM.out.mono ?_
        rintro e wx ⟨rfl, rfl⟩
        go_wp2_with fail
        refine XP.out.mono ?_
        rintro e w3 ⟨rfl, hx3, hf3, hs3⟩
        have c3 := hx3.c1
        obtain ⟨cs, hcl, hcells, hvals⟩ := xrow_of hf3 (flatA_length bs [0, 0, 2, 0, 0, 0, 0] _) (kinds_small (flatA_kinds bs [0, 0, 2, 0, 0, 0, 0] _ (by decide)) (by decide))
        obtain ⟨v0, v1, v2, v3, v4, v5, v6, rfl⟩ : ∃ v0 v1 v2 v3 v4 v5 v6, cs = [v0, v1, v2, v3, v4, v5, v6] := by
          match cs, hcl with
          | [v0, v1, v2, v3, v4, v5, v6], _ => exact ⟨_, _, _, _, _, _, _, rfl⟩
        have q0 := hcells 0 v0 rfl
        have q1 := hcells 1 v1 rfl
        have q2 := hcells 2 v2 rfl
        have q3 := hcells 3 v3 rfl
        have q4 := hcells 4 v4 rfl
        have q5 := hcells 5 v5 rfl
        have q6 := hcells 6 v6 rfl
        have hq3 := hs3.inner (rq_below W R (below_alloc1 wx (.cells #[.int .i64 0, .int .i64 0, .bool false, .int .i64 0, .int .i64 0, .int .i64 0, .int .i64 0] 66))) (Nat.le_refl _)
        have eM := hq3.block M (Nat.lt_of_lt_of_le ltM.out ltw.out) (far_own HF.out wx)
        have cM : w3.cell? ⟨M, p, none⟩ = some (.slice av j cv) := (World.cell?_of_block (w := wx) (a := ⟨M, p, none⟩) eM).trans HX.out.c
        have fM : w3.frozen? ⟨M, p, none⟩ = false := (World.frozen?_of_block (w := wx) (a := ⟨M, p, none⟩) eM).trans HX.out.f
        have nR : ∀ k, w.heap.size ≤ k → ¬ Rown W R wx k := fun k hk e => by have := WR.out; rcases e with e | e <;> omega
        have OW := hide (own_same (w' := w3) HX.out.own (fun k hk => hq3.block k (HX.out.own.lt k hk).2 (nR k (HX.out.own.lt k hk).1)))
        have Q3 := hide hq3
        have X3 := hide hx3
        have VL := hide hvals
        have ONE : Hid (∀ u ∈ [v0, v1, v2, v3, v4, v5, v6], u.oneCell' = true) := fun u hu => by have := (hvals w (fun _ => True)).one; rw [Array.all_eq_true_iff_forall_mem] at this; exact this u (by simpa using hu)
        have ltM3 : Hid (M < w3.heap.size) := World.block_lt_of_cell? w3 _ cM
        have NE : Hid (∀ k, (Value.slice av j cv).ownBlock = some k → w.heap.size ≤ k ∧ k < w3.heap.size) := fun k hk => OW.out.lt k hk
        have RA : Hid (∀ u, Below w3.heap.size w3 u → u.ownsRow w.heap.size 66 7 (.slice av j cv) j rows.flatten) := fun u hb => own_same OW.out (fun k hk => hb.block k (NE.out k hk).2)
        have BA : Hid (w.heap.size ≤ w3.heap.size) := Nat.le_trans ltw.out Q3.out.size
        have cMa : (w3.alloc (.cells #[v0, v1, v2, v3, v4, v5, v6] 66)).cell? ⟨M, p, none⟩ = some (.slice av j cv) := (World.cell?_alloc_lt w3 _ _ ltM3.out).trans cM
        clear hx3 hf3 hs3 hcells hvals hq3 eM nR XP CM d1
        go_wp2_with fail
        go_region_law (refine step_append_where _ (by rfl) (.tmp 50) (.tmp 52) 23 (by rfl) w.heap.size 66 i0 (.agg #[.int .i64 0, .int .i64 0, .bool false, .int .i64 0, .int .i64 0, .int .i64 0, .int .i64 0]) 7 56 Tryz.underlying23 hi hz0 hz1 hz2 (by rfl) (by omega) av j cv (by rfl) rows.flatten (RA.out _ (below_alloc (Below.refl _ _).drew _)) ⟨w3.heap.size, 0, none⟩ 1 1 (by rfl) [v0, v1, v2, v3, v4, v5, v6] (by rfl) (World.news_of_block (heap_alloc_new w3.drew _)) ONE.out (by omega) (by unfold maxLen; omega) (by omega) (by simp; exact Nat.le_succ_of_le BA.out) ?_; intro g2 cap2 w4 hown hgrow hat; have c4 : w4.cell? ⟨M, p, none⟩ = some (.slice av j cv) := hgrow.cell ((World.cell?_alloc_lt w3.drew _ _ ltM3.out).trans cM) (fun e => by have := (NE.out M e.symm).1; have := ltM.out; omega); have f4 : w4.frozen? ⟨M, p, none⟩ = false := (hgrow.frozen_far ⟨M, p, none⟩ (by simp; exact Nat.lt_succ_of_lt ltM3.out) (fun e => by have := (NE.out M e.symm).1; have := ltM.out; omega)).trans ((World.frozen?_alloc_past _ _ _ ltM3.out).trans fM); have HO := hide hown; have HG := hide hgrow; clear hown hgrow hat)
        all_goals (
          have LN : Hid (XLoopMark B W R a n cp bs s w M p (j + 1) (some ⟨g2, 0, none⟩) cap2 (rows ++ [[v0, v1, v2, v3, v4, v5, v6]]) (w4.setCell ⟨M, p, none⟩ (.slice (some ⟨g2, 0, none⟩) (j + 1) cap2))) := by
            have hgt := HO.out.lt g2 rfl
            have nrow : ∀ k, k < w.heap.size → some k ≠ (Value.slice av j cv).ownBlock := fun k hk e => by have := (NE.out k e.symm).1; omega
            have hx4 := ((X3.out.below (below_alloc1 w3 (.cells #[v0, v1, v2, v3, v4, v5, v6] 66))).below (w1 := (w3.alloc (.cells #[v0, v1, v2, v3, v4, v5, v6] 66)).drew) ⟨rfl, rfl, rfl, Nat.le_refl _, fun _ _ => rfl⟩).grown HG.out (nrow W WR.out.1) (nrow R WR.out.2) (fun b off e => nrow b (AP.out b off e))
            refine ⟨?_, World.cell?_setCell_same _ _ _ c4, by rw [World.frozen?_setCell]; exact f4, ?_, ?_, ?_⟩
            · rw [timesA_snoc]
              exact hx4.store HF.out _
            · rw [List.flatten_append]
              simpa using own_same HO.out (fun k hk => Below.heap_setCell _ ⟨M, p, none⟩ _ k (by have e5 : g2 = k := (by simpa [Value.ownBlock] using hk); show k ≠ M; have := ltM.out; omega))
            · rw [timesA_snoc]
              exact HX.out.r.snoc rfl VL.out
            · refine stp_app HX.out.st HF.out ltM.out (HG.out.os.trans Q3.out.os) (HG.out.tape.trans Q3.out.tape) (HG.out.output.trans Q3.out.output) (Nat.le_trans Q3.out.size (Nat.le_trans (by simp) HG.out.size)) (fun k hk hs => ?_) _
              have hk3 : k < w3.heap.size := Nat.lt_of_lt_of_le hk BA.out
              exact (HG.out.block k (by simp; omega) (nrow k hk)).trans ((heap_alloc_old w3 _ hk3).trans (Q3.out.block k (Nat.lt_of_lt_of_le hk ltw.out) hs))
          clear HO HG
          go_wp2_with fail
          go_roundw
          case rel => exact ⟨j + 1, _, _, _, by omega, by go_num, LN⟩
          case measure => simp [intOf]; omega)
      · rw [decide_eq_false he] at CM
        have HE := hide he
        clear he
        go_wp2_with fail
        refine CM.out.mono ?_
        rintro e wx ⟨rfl, rfl⟩
        go_wp2_with fail
        refine bodyPost_end (results_none rfl _ _ _) rfl ?_
        have es : (listA bs (flatA bs [0, 0, 2, 0, 0, 0, 0]) s).s = (timesA (flatA bs [0, 0, 2, 0, 0, 0, 0]) j (countA bs 1024 s).s).s := by
          unfold listA
          rw [← EK.out]
          have := timesA_later (flatA bs [0, 0, 2, 0, 0, 0, 0]) (fun s hs => flatA_stuck bs [0, 0, 2, 0, 0, 0, 0] s hs) j (countA bs 1024 s).s HE.out (k - j)
          rw [show j + (k - j) = k by omega] at this
          exact this
        refine ⟨rfl, by rw [es]; exact HX.out.x, fun h0 => absurd (by rw [← es]; exact h0) HE.out, HX.out.st⟩
    · obtain rfl : j = k := by omega
      go_wp2_with fail
      refine bodyPost_end (results_none rfl _ _ _) rfl ?_
      have es : listA bs (flatA bs [0, 0, 2, 0, 0, 0, 0]) s = timesA (flatA bs [0, 0, 2, 0, 0, 0, 0]) j (countA bs 1024 s).s := by unfold listA; rw [← EK.out]
      have hP : ∀ g, (Value.slice av j cv).ownBlock = some g → OutB B (Rown W R) M wr g := fun g hg => by
        have hg2 := HX.out.own.lt g hg
        exact ⟨Nat.le_trans LO.out hg2.1, hg2.2, fun e => by have := WR.out; rcases e with e | e <;> omega, by have := ltM.out; omega⟩
      have hls := ls_of_rows (P := OutB B (Rown W R) M wr) HX.out.own HX.out.r (timesA_length _ _ _) (by omega) hP
      rw [← es] at hls
      exact ⟨rfl, by rw [es]; exact HX.out.x, fun _ => ⟨av, j, cv, HX.out.c, hls⟩, HX.out.st⟩
end Go.Proofs.YthklpkmdmkgjiaaGreat

namespace Go.Proofs.YthklpkmdmkgjiaaGreat
open Go.ChangeShapes Go.WideShapes Go.ChangeAt Go.RowKit B8 Cm Wm
set_option linter.unusedVariables false

theorem xinfo_waits : (Tryz.prog.info? 69).map (fun i => (i.zero, i.size, i.bytes)) = some (some (.agg #[.int .i64 0, .int .i64 0, .int .i64 0, .int .i64 0, .int .i64 0, .int .i64 0, .string ⟨#[]⟩, .string ⟨#[]⟩, .int .i64 0, .int .i64 0, .int .i64 0]), 11, 104) := by kernel_rfl
/-- what reading a list at the cell p of M brings about -/
def XLWait (B W R : Nat) (a : Option Addr) (n cp : Nat) (bs : List Int) (s : St) (w : World) (M p : Nat) (u : World) : Prop :=
  XS u B W R a n cp bs (listA bs (flatA bs [0, 0, 0, 0, 0, 0, 3, 3, 0, 0, 0]) s).s ∧ ((listA bs (flatA bs [0, 0, 0, 0, 0, 0, 3, 3, 0, 0, 0]) s).s.err = 0 → ∃ ad k c, u.cell? ⟨M, p, none⟩ = some (.slice ad k c) ∧ Ls u (OutB B (Rown W R) M u) ad k c 11 (listA bs (flatA bs [0, 0, 0, 0, 0, 0, 3, 3, 0, 0, 0]) s).v) ∧ Stp (Rown W R) M p (p + 1) w u
/-- the walk stands behind j of them -/
structure XLoopWait (B W R : Nat) (a : Option Addr) (n cp : Nat) (bs : List Int) (s : St) (w : World) (M p j : Nat) (av : Option Addr) (cv : Nat) (rows : List (List Value)) (u : World) : Prop where
  x : XS u B W R a n cp bs (timesA (flatA bs [0, 0, 0, 0, 0, 0, 3, 3, 0, 0, 0]) j (countA bs 1024 s).s).s
  c : u.cell? ⟨M, p, none⟩ = some (.slice av j cv)
  f : u.frozen? ⟨M, p, none⟩ = false
  own : u.ownsRow w.heap.size 69 11 (.slice av j cv) j rows.flatten
  r : Xrows rows (timesA (flatA bs [0, 0, 0, 0, 0, 0, 3, 3, 0, 0, 0]) j (countA bs 1024 s).s).v 11
  st : Stp (Rown W R) M p (p + 1) w u

set_option maxRecDepth 100000 in
set_option maxHeartbeats 4000000 in
theorem xlist_waits {B W R : Nat} {a : Option Addr} {n cp : Nat} {bs : List Int} {s : St} {w : World} {M p : Nat} (h : XS w B W R a n cp bs s) (hF : Far W R a M) (hc : ∃ av nv cv, w.cell? ⟨M, p, none⟩ = some (.slice av nv cv)) (hz : w.frozen? ⟨M, p, none⟩ = false) :
    Calls Tryz.prog 50 #[.pointer (some ⟨W, 0, none⟩), .pointer (some ⟨M, p, none⟩)] w fun e w' => e = .returned (.tuple #[]) ∧ XLWait B W R a n cp bs s w M p w' := by
  obtain ⟨i0, hi, hz0, hz1, hz2⟩ := info_parts xinfo_waits
  obtain ⟨av0, nv0, cv0, hc⟩ := hc
  have CM := hide (xmany_any (nv0 : Int) h)
  have HF := hide hF
  have HZ := hide hz
  have HC := hide hc
  have ltM : Hid (M < w.heap.size) := World.block_lt_of_cell? w _ hc
  have WR : Hid (W < w.heap.size ∧ R < w.heap.size) := h.lt
  have AP : Hid (∀ b off, a = some ⟨b, off, none⟩ → b < w.heap.size) := fun b off e => (h.ap b off e).2
  have LO : Hid (B ≤ w.heap.size) := h.low
  have CL : Hid ((countA bs 1024 s).v ≤ 1024) := by show _ ≤ _; have := countA_le bs 1024 s; omega
  clear h hF hz
  go_enter Tryz.func50, Tryz.ntmps50
  go_wp2_with fail
  refine CM.out.mono ?_
  rintro e w1 ⟨rfl, hx1, hs1⟩
  have c1 := hx1.c1
  have eM := hs1.block M ltM.out (far_own HF.out w)
  have cM : w1.cell? ⟨M, p, none⟩ = some (.slice av0 nv0 cv0) := (World.cell?_of_block (w := w) (a := ⟨M, p, none⟩) eM).trans HC.out
  have fM : w1.frozen? ⟨M, p, none⟩ = false := (World.frozen?_of_block (w := w) (a := ⟨M, p, none⟩) eM).trans HZ.out
  have L0 : Hid (XLoopWait B W R a n cp bs s w M p 0 none 0 [] (w1.setCell ⟨M, p, none⟩ (.slice none 0 0))) :=
    ⟨hx1.store HF.out _, World.cell?_setCell_same _ _ _ cM, by rw [World.frozen?_setCell]; exact fM, World.ownsRow_nil _ _ _ _, ⟨rfl, fun i row xs hr => by simp at hr⟩, stp_set hs1 ltM.out (far_own HF.out w) (fun v k hk => hk) _⟩
  obtain ⟨k, ek⟩ : ∃ k, k = (countA bs 1024 s).v := ⟨_, rfl⟩
  rw [← ek]
  have EK := hide ek
  have KL : k ≤ 1024 := by rw [ek]; exact CL.out
  clear hx1 hs1 eM CM hc ek
  go_wp2_with fail
  obtain ⟨w2, e2⟩ : ∃ w2, w2 = w1.setCell ⟨M, p, none⟩ (.slice none 0 0) := ⟨_, rfl⟩
  rw [← e2] at L0 ⊢
  clear e2 c1 cM fM
  go_loopw [6] (fun i wr => ∃ (j : Nat) (av : Option Addr) (cv : Nat) (rows : List (List Value)), j ≤ k ∧ i = .int .i64 j ∧ Hid (XLoopWait B W R a n cp bs s w M p j av cv rows wr)) (fun i _ => k - (intOf i).toNat)
  case atStart => exact ⟨0, none, 0, [], Nat.zero_le _, rfl, L0⟩
  case round =>
    clear L0
    obtain ⟨j, av, cv, rows, hj, rfl, HX⟩ := hrel
    by_cases hlt : j < k
    · have i1 : (j : Int) < (k : Int) := by omega
      have CM := hide (xmore_any HX.out.x)
      by_cases he : (timesA (flatA bs [0, 0, 0, 0, 0, 0, 3, 3, 0, 0, 0]) j (countA bs 1024 s).s).s.err = 0
      · rw [decide_eq_true he] at CM
        have d1 : (wr.alloc (.cells #[.int .i64 0, .int .i64 0, .int .i64 0, .int .i64 0, .int .i64 0, .int .i64 0, .string ⟨#[]⟩, .string ⟨#[]⟩, .int .i64 0, .int .i64 0, .int .i64 0] 69)).cell? ⟨W, 1, none⟩ = some (.pointer (some ⟨R, 0, none⟩)) := (World.cell?_alloc_lt wr _ _ HX.out.x.lt.1).trans HX.out.x.c1
        have hsz := HX.out.st.size
        have FN : Hid (Far W R a wr.heap.size) := ⟨by have := WR.out; omega, by have := WR.out; omega, fun b off e => by have := AP.out b off e; omega⟩
        have XP := hide (xwait_any (M := wr.heap.size) (o := 0) (HX.out.x.below (below_alloc1 wr (.cells #[.int .i64 0, .int .i64 0, .int .i64 0, .int .i64 0, .int .i64 0, .int .i64 0, .string ⟨#[]⟩, .string ⟨#[]⟩, .int .i64 0, .int .i64 0, .int .i64 0] 69))) FN.out (by simp) (room_new wr #[.int .i64 0, .int .i64 0, .int .i64 0, .int .i64 0, .int .i64 0, .int .i64 0, .string ⟨#[]⟩, .string ⟨#[]⟩, .int .i64 0, .int .i64 0, .int .i64 0] 69 11 rfl))
        have ltw : Hid (w.heap.size ≤ wr.heap.size) := hsz
        have SL : Hid (wr.heap.size < (wr.alloc (.cells #[.int .i64 0, .int .i64 0, .int .i64 0, .int .i64 0, .int .i64 0, .int .i64 0, .string ⟨#[]⟩, .string ⟨#[]⟩, .int .i64 0, .int .i64 0, .int .i64 0] 69)).heap.size) := by show _ < _; simp
        clear hsz he
        go_wp2_with fail
        refine CM.out.mono ?_
        rintro e wx ⟨rfl, rfl⟩
        go_wp2_with fail
        refine XP.out.mono ?_
        rintro e w3 ⟨rfl, hx3, hf3, hs3⟩
        have c3 := hx3.c1
        obtain ⟨cs, hcl, hcells, hvals⟩ := xrow_of hf3 (flatA_length bs [0, 0, 0, 0, 0, 0, 3, 3, 0, 0, 0] _) (kinds_small (flatA_kinds bs [0, 0, 0, 0, 0, 0, 3, 3, 0, 0, 0] _ (by decide)) (by decide))
        obtain ⟨v0, v1, v2, v3, v4, v5, v6, v7, v8, v9, v10, rfl⟩ : ∃ v0 v1 v2 v3 v4 v5 v6 v7 v8 v9 v10, cs = [v0, v1, v2, v3, v4, v5, v6, v7, v8, v9, v10] := by
          match cs, hcl with
          | [v0, v1, v2, v3, v4, v5, v6, v7, v8, v9, v10], _ => exact ⟨_, _, _, _, _, _, _, _, _, _, _, rfl⟩
        have q0 := hcells 0 v0 rfl
        have q1 := hcells 1 v1 rfl
        have q2 := hcells 2 v2 rfl
        have q3 := hcells 3 v3 rfl
        have q4 := hcells 4 v4 rfl
        have q5 := hcells 5 v5 rfl
        have q6 := hcells 6 v6 rfl
        have q7 := hcells 7 v7 rfl
        have q8 := hcells 8 v8 rfl
        have q9 := hcells 9 v9 rfl
        have q10 := hcells 10 v10 rfl
        have hq3 := hs3.inner (rq_below W R (below_alloc1 wx (.cells #[.int .i64 0, .int .i64 0, .int .i64 0, .int .i64 0, .int .i64 0, .int .i64 0, .string ⟨#[]⟩, .string ⟨#[]⟩, .int .i64 0, .int .i64 0, .int .i64 0] 69))) (Nat.le_refl _)
        have eM := hq3.block M (Nat.lt_of_lt_of_le ltM.out ltw.out) (far_own HF.out wx)
        have cM : w3.cell? ⟨M, p, none⟩ = some (.slice av j cv) := (World.cell?_of_block (w := wx) (a := ⟨M, p, none⟩) eM).trans HX.out.c
        have fM : w3.frozen? ⟨M, p, none⟩ = false := (World.frozen?_of_block (w := wx) (a := ⟨M, p, none⟩) eM).trans HX.out.f
        have nR : ∀ k, w.heap.size ≤ k → ¬ Rown W R wx k := fun k hk e => by have := WR.out; rcases e with e | e <;> omega
        have OW := hide (own_same (w' := w3) HX.out.own (fun k hk => hq3.block k (HX.out.own.lt k hk).2 (nR k (HX.out.own.lt k hk).1)))
        have Q3 := hide hq3
        have X3 := hide hx3
        have VL := hide hvals
        have ONE : Hid (∀ u ∈ [v0, v1, v2, v3, v4, v5, v6, v7, v8, v9, v10], u.oneCell' = true) := fun u hu => by have := (hvals w (fun _ => True)).one; rw [Array.all_eq_true_iff_forall_mem] at this; exact this u (by simpa using hu)
        have ltM3 : Hid (M < w3.heap.size) := World.block_lt_of_cell? w3 _ cM
        have NE : Hid (∀ k, (Value.slice av j cv).ownBlock = some k → w.heap.size ≤ k ∧ k < w3.heap.size) := fun k hk => OW.out.lt k hk
        have RA : Hid (∀ u, Below w3.heap.size w3 u → u.ownsRow w.heap.size 69 11 (.slice av j cv) j rows.flatten) := fun u hb => own_same OW.out (fun k hk => hb.block k (NE.out k hk).2)
        have BA : Hid (w.heap.size ≤ w3.heap.size) := Nat.le_trans ltw.out Q3.out.size
        have cMa : (w3.alloc (.cells #[v0, v1, v2, v3, v4, v5, v6, v7, v8, v9, v10] 69)).cell? ⟨M, p, none⟩ = some (.slice av j cv) := (World.cell?_alloc_lt w3 _ _ ltM3.out).trans cM
        clear hx3 hf3 hs3 hcells hvals hq3 eM nR XP CM d1
        go_wp2_with fail
        go_region_law (refine step_append_where _ (by rfl) (.tmp 50) (.tmp 52) 24 (by rfl) w.heap.size 69 i0 (.agg #[.int .i64 0, .int .i64 0, .int .i64 0, .int .i64 0, .int .i64 0, .int .i64 0, .string ⟨#[]⟩, .string ⟨#[]⟩, .int .i64 0, .int .i64 0, .int .i64 0]) 11 104 Tryz.underlying24 hi hz0 hz1 hz2 (by rfl) (by omega) av j cv (by rfl) rows.flatten (RA.out _ (below_alloc (Below.refl _ _).drew _)) ⟨w3.heap.size, 0, none⟩ 1 1 (by rfl) [v0, v1, v2, v3, v4, v5, v6, v7, v8, v9, v10] (by rfl) (World.news_of_block (heap_alloc_new w3.drew _)) ONE.out (by omega) (by unfold maxLen; omega) (by omega) (by simp; exact Nat.le_succ_of_le BA.out) ?_; intro g2 cap2 w4 hown hgrow hat; have c4 : w4.cell? ⟨M, p, none⟩ = some (.slice av j cv) := hgrow.cell ((World.cell?_alloc_lt w3.drew _ _ ltM3.out).trans cM) (fun e => by have := (NE.out M e.symm).1; have := ltM.out; omega); have f4 : w4.frozen? ⟨M, p, none⟩ = false := (hgrow.frozen_far ⟨M, p, none⟩ (by simp; exact Nat.lt_succ_of_lt ltM3.out) (fun e => by have := (NE.out M e.symm).1; have := ltM.out; omega)).trans ((World.frozen?_alloc_past _ _ _ ltM3.out).trans fM); have HO := hide hown; have HG := hide hgrow; clear hown hgrow hat)
        all_goals (
          have LN : Hid (XLoopWait B W R a n cp bs s w M p (j + 1) (some ⟨g2, 0, none⟩) cap2 (rows ++ [[v0, v1, v2, v3, v4, v5, v6, v7, v8, v9, v10]]) (w4.setCell ⟨M, p, none⟩ (.slice (some ⟨g2, 0, none⟩) (j + 1) cap2))) := by
            have hgt := HO.out.lt g2 rfl
            have nrow : ∀ k, k < w.heap.size → some k ≠ (Value.slice av j cv).ownBlock := fun k hk e => by have := (NE.out k e.symm).1; omega
            have hx4 := ((X3.out.below (below_alloc1 w3 (.cells #[v0, v1, v2, v3, v4, v5, v6, v7, v8, v9, v10] 69))).below (w1 := (w3.alloc (.cells #[v0, v1, v2, v3, v4, v5, v6, v7, v8, v9, v10] 69)).drew) ⟨rfl, rfl, rfl, Nat.le_refl _, fun _ _ => rfl⟩).grown HG.out (nrow W WR.out.1) (nrow R WR.out.2) (fun b off e => nrow b (AP.out b off e))
            refine ⟨?_, World.cell?_setCell_same _ _ _ c4, by rw [World.frozen?_setCell]; exact f4, ?_, ?_, ?_⟩
            · rw [timesA_snoc]
              exact hx4.store HF.out _
            · rw [List.flatten_append]
              simpa using own_same HO.out (fun k hk => Below.heap_setCell _ ⟨M, p, none⟩ _ k (by have e5 : g2 = k := (by simpa [Value.ownBlock] using hk); show k ≠ M; have := ltM.out; omega))
            · rw [timesA_snoc]
              exact HX.out.r.snoc rfl VL.out
            · refine stp_app HX.out.st HF.out ltM.out (HG.out.os.trans Q3.out.os) (HG.out.tape.trans Q3.out.tape) (HG.out.output.trans Q3.out.output) (Nat.le_trans Q3.out.size (Nat.le_trans (by simp) HG.out.size)) (fun k hk hs => ?_) _
              have hk3 : k < w3.heap.size := Nat.lt_of_lt_of_le hk BA.out
              exact (HG.out.block k (by simp; omega) (nrow k hk)).trans ((heap_alloc_old w3 _ hk3).trans (Q3.out.block k (Nat.lt_of_lt_of_le hk ltw.out) hs))
          clear HO HG
          go_wp2_with fail
          go_roundw
          case rel => exact ⟨j + 1, _, _, _, by omega, by go_num, LN⟩
          case measure => simp [intOf]; omega)
      · rw [decide_eq_false he] at CM
        have HE := hide he
        clear he
        go_wp2_with fail
        refine CM.out.mono ?_
        rintro e wx ⟨rfl, rfl⟩
        go_wp2_with fail
        refine bodyPost_end (results_none rfl _ _ _) rfl ?_
        have es : (listA bs (flatA bs [0, 0, 0, 0, 0, 0, 3, 3, 0, 0, 0]) s).s = (timesA (flatA bs [0, 0, 0, 0, 0, 0, 3, 3, 0, 0, 0]) j (countA bs 1024 s).s).s := by
          unfold listA
          rw [← EK.out]
          have := timesA_later (flatA bs [0, 0, 0, 0, 0, 0, 3, 3, 0, 0, 0]) (fun s hs => flatA_stuck bs [0, 0, 0, 0, 0, 0, 3, 3, 0, 0, 0] s hs) j (countA bs 1024 s).s HE.out (k - j)
          rw [show j + (k - j) = k by omega] at this
          exact this
        refine ⟨rfl, by rw [es]; exact HX.out.x, fun h0 => absurd (by rw [← es]; exact h0) HE.out, HX.out.st⟩
    · obtain rfl : j = k := by omega
      go_wp2_with fail
      refine bodyPost_end (results_none rfl _ _ _) rfl ?_
      have es : listA bs (flatA bs [0, 0, 0, 0, 0, 0, 3, 3, 0, 0, 0]) s = timesA (flatA bs [0, 0, 0, 0, 0, 0, 3, 3, 0, 0, 0]) j (countA bs 1024 s).s := by unfold listA; rw [← EK.out]
      have hP : ∀ g, (Value.slice av j cv).ownBlock = some g → OutB B (Rown W R) M wr g := fun g hg => by
        have hg2 := HX.out.own.lt g hg
        exact ⟨Nat.le_trans LO.out hg2.1, hg2.2, fun e => by have := WR.out; rcases e with e | e <;> omega, by have := ltM.out; omega⟩
      have hls := ls_of_rows (P := OutB B (Rown W R) M wr) HX.out.own HX.out.r (timesA_length _ _ _) (by omega) hP
      rw [← es] at hls
      exact ⟨rfl, by rw [es]; exact HX.out.x, fun _ => ⟨av, j, cv, HX.out.c, hls⟩, HX.out.st⟩
end Go.Proofs.YthklpkmdmkgjiaaGreat

namespace Go.Proofs.YthklpkmdmkgjiaaGreat
open Go.ChangeShapes Go.WideShapes Go.ChangeAt Go.RowKit B8 Cm Wm
set_option linter.unusedVariables false

theorem xinfo_deals : (Tryz.prog.info? 72).map (fun i => (i.zero, i.size, i.bytes)) = some (some (.agg #[.int .i64 0, .int .i64 0, .string ⟨#[]⟩, .string ⟨#[]⟩, .int .i64 0, .int .i64 0, .int .i64 0, .int .i64 0]), 8, 80) := by kernel_rfl
/-- what reading a list at the cell p of M brings about -/
def XLDeal (B W R : Nat) (a : Option Addr) (n cp : Nat) (bs : List Int) (s : St) (w : World) (M p : Nat) (u : World) : Prop :=
  XS u B W R a n cp bs (listA bs (flatA bs [0, 0, 3, 3, 0, 0, 0, 0]) s).s ∧ ((listA bs (flatA bs [0, 0, 3, 3, 0, 0, 0, 0]) s).s.err = 0 → ∃ ad k c, u.cell? ⟨M, p, none⟩ = some (.slice ad k c) ∧ Ls u (OutB B (Rown W R) M u) ad k c 8 (listA bs (flatA bs [0, 0, 3, 3, 0, 0, 0, 0]) s).v) ∧ Stp (Rown W R) M p (p + 1) w u
/-- the walk stands behind j of them -/
structure XLoopDeal (B W R : Nat) (a : Option Addr) (n cp : Nat) (bs : List Int) (s : St) (w : World) (M p j : Nat) (av : Option Addr) (cv : Nat) (rows : List (List Value)) (u : World) : Prop where
  x : XS u B W R a n cp bs (timesA (flatA bs [0, 0, 3, 3, 0, 0, 0, 0]) j (countA bs 1024 s).s).s
  c : u.cell? ⟨M, p, none⟩ = some (.slice av j cv)
  f : u.frozen? ⟨M, p, none⟩ = false
  own : u.ownsRow w.heap.size 72 8 (.slice av j cv) j rows.flatten
  r : Xrows rows (timesA (flatA bs [0, 0, 3, 3, 0, 0, 0, 0]) j (countA bs 1024 s).s).v 8
  st : Stp (Rown W R) M p (p + 1) w u

set_option maxRecDepth 100000 in
set_option maxHeartbeats 4000000 in
theorem xlist_deals {B W R : Nat} {a : Option Addr} {n cp : Nat} {bs : List Int} {s : St} {w : World} {M p : Nat} (h : XS w B W R a n cp bs s) (hF : Far W R a M) (hc : ∃ av nv cv, w.cell? ⟨M, p, none⟩ = some (.slice av nv cv)) (hz : w.frozen? ⟨M, p, none⟩ = false) :
    Calls Tryz.prog 51 #[.pointer (some ⟨W, 0, none⟩), .pointer (some ⟨M, p, none⟩)] w fun e w' => e = .returned (.tuple #[]) ∧ XLDeal B W R a n cp bs s w M p w' := by
  obtain ⟨i0, hi, hz0, hz1, hz2⟩ := info_parts xinfo_deals
  obtain ⟨av0, nv0, cv0, hc⟩ := hc
  have CM := hide (xmany_any (nv0 : Int) h)
  have HF := hide hF
  have HZ := hide hz
  have HC := hide hc
  have ltM : Hid (M < w.heap.size) := World.block_lt_of_cell? w _ hc
  have WR : Hid (W < w.heap.size ∧ R < w.heap.size) := h.lt
  have AP : Hid (∀ b off, a = some ⟨b, off, none⟩ → b < w.heap.size) := fun b off e => (h.ap b off e).2
  have LO : Hid (B ≤ w.heap.size) := h.low
  have CL : Hid ((countA bs 1024 s).v ≤ 1024) := by show _ ≤ _; have := countA_le bs 1024 s; omega
  clear h hF hz
  go_enter Tryz.func51, Tryz.ntmps51
  go_wp2_with fail
  refine CM.out.mono ?_
  rintro e w1 ⟨rfl, hx1, hs1⟩
  have c1 := hx1.c1
  have eM := hs1.block M ltM.out (far_own HF.out w)
  have cM : w1.cell? ⟨M, p, none⟩ = some (.slice av0 nv0 cv0) := (World.cell?_of_block (w := w) (a := ⟨M, p, none⟩) eM).trans HC.out
  have fM : w1.frozen? ⟨M, p, none⟩ = false := (World.frozen?_of_block (w := w) (a := ⟨M, p, none⟩) eM).trans HZ.out
  have L0 : Hid (XLoopDeal B W R a n cp bs s w M p 0 none 0 [] (w1.setCell ⟨M, p, none⟩ (.slice none 0 0))) :=
    ⟨hx1.store HF.out _, World.cell?_setCell_same _ _ _ cM, by rw [World.frozen?_setCell]; exact fM, World.ownsRow_nil _ _ _ _, ⟨rfl, fun i row xs hr => by simp at hr⟩, stp_set hs1 ltM.out (far_own HF.out w) (fun v k hk => hk) _⟩
  obtain ⟨k, ek⟩ : ∃ k, k = (countA bs 1024 s).v := ⟨_, rfl⟩
  rw [← ek]
  have EK := hide ek
  have KL : k ≤ 1024 := by rw [ek]; exact CL.out
  clear hx1 hs1 eM CM hc ek
  go_wp2_with fail
  obtain ⟨w2, e2⟩ : ∃ w2, w2 = w1.setCell ⟨M, p, none⟩ (.slice none 0 0) := ⟨_, rfl⟩
  rw [← e2] at L0 ⊢
  clear e2 c1 cM fM
  go_loopw [6] (fun i wr => ∃ (j : Nat) (av : Option Addr) (cv : Nat) (rows : List (List Value)), j ≤ k ∧ i = .int .i64 j ∧ Hid (XLoopDeal B W R a n cp bs s w M p j av cv rows wr)) (fun i _ => k - (intOf i).toNat)
  case atStart => exact ⟨0, none, 0, [], Nat.zero_le _, rfl, L0⟩
  case round =>
    clear L0
    obtain ⟨j, av, cv, rows, hj, rfl, HX⟩ := hrel
    by_cases hlt : j < k
    · have i1 : (j : Int) < (k : Int) := by omega
      have CM := hide (xmore_any HX.out.x)
      by_cases he : (timesA (flatA bs [0, 0, 3, 3, 0, 0, 0, 0]) j (countA bs 1024 s).s).s.err = 0
      · rw [decide_eq_true he] at CM
        have d1 : (wr.alloc (.cells #[.int .i64 0, .int .i64 0, .string ⟨#[]⟩, .string ⟨#[]⟩, .int .i64 0, .int .i64 0, .int .i64 0, .int .i64 0] 72)).cell? ⟨W, 1, none⟩ = some (.pointer (some ⟨R, 0, none⟩)) := (World.cell?_alloc_lt wr _ _ HX.out.x.lt.1).trans HX.out.x.c1
        have hsz := HX.out.st.size
        have FN : Hid (Far W R a wr.heap.size) := ⟨by have := WR.out; omega, by have := WR.out; omega, fun b off e => by have := AP.out b off e; omega⟩
        have XP := hide (xdeal_any (M := wr.heap.size) (o := 0) (HX.out.x.below (below_alloc1 wr (.cells #[.int .i64 0, .int .i64 0, .string ⟨#[]⟩, .string ⟨#[]⟩, .int .i64 0, .int .i64 0, .int .i64 0, .int .i64 0] 72))) FN.out (by simp) (room_new wr #[.int .i64 0, .int .i64 0, .string ⟨#[]⟩, .string ⟨#[]⟩, .int .i64 0, .int .i64 0, .int .i64 0, .int .i64 0] 72 8 rfl))
        have ltw : Hid (w.heap.size ≤ wr.heap.size) := hsz
        have SL : Hid (wr.heap.size < (wr.alloc (.cells #[.int .i64 0, .int .i64 0, .string ⟨#[]⟩, .string ⟨#[]⟩, .int .i64 0, .int .i64 0, .int .i64 0, .int .i64 0] 72)).heap.size) := by show _ < _; simp
        clear hsz he
        go_wp2_with fail
        refine CM.out.mono ?_
        rintro e wx ⟨rfl, rfl⟩
        go_wp2_with fail
        refine XP.out.mono ?_
        rintro e w3 ⟨rfl, hx3, hf3, hs3⟩
        have c3 := hx3.c1
        obtain ⟨cs, hcl, hcells, hvals⟩ := xrow_of hf3 (flatA_length bs [0, 0, 3, 3, 0, 0, 0, 0] _) (kinds_small (flatA_kinds bs [0, 0, 3, 3, 0, 0, 0, 0] _ (by decide)) (by decide))
        obtain ⟨v0, v1, v2, v3, v4, v5, v6, v7, rfl⟩ : ∃ v0 v1 v2 v3 v4 v5 v6 v7, cs = [v0, v1, v2, v3, v4, v5, v6, v7] := by
          match cs, hcl with
          | [v0, v1, v2, v3, v4, v5, v6, v7], _ => exact ⟨_, _, _, _, _, _, _, _, rfl⟩
        have q0 := hcells 0 v0 rfl
        have q1 := hcells 1 v1 rfl
        have q2 := hcells 2 v2 rfl
        have q3 := hcells 3 v3 rfl
        have q4 := hcells 4 v4 rfl
        have q5 := hcells 5 v5 rfl
        have q6 := hcells 6 v6 rfl
        have q7 := hcells 7 v7 rfl
        have hq3 := hs3.inner (rq_below W R (below_alloc1 wx (.cells #[.int .i64 0, .int .i64 0, .string ⟨#[]⟩, .string ⟨#[]⟩, .int .i64 0, .int .i64 0, .int .i64 0, .int .i64 0] 72))) (Nat.le_refl _)
        have eM := hq3.block M (Nat.lt_of_lt_of_le ltM.out ltw.out) (far_own HF.out wx)
        have cM : w3.cell? ⟨M, p, none⟩ = some (.slice av j cv) := (World.cell?_of_block (w := wx) (a := ⟨M, p, none⟩) eM).trans HX.out.c
        have fM : w3.frozen? ⟨M, p, none⟩ = false := (World.frozen?_of_block (w := wx) (a := ⟨M, p, none⟩) eM).trans HX.out.f
        have nR : ∀ k, w.heap.size ≤ k → ¬ Rown W R wx k := fun k hk e => by have := WR.out; rcases e with e | e <;> omega
        have OW := hide (own_same (w' := w3) HX.out.own (fun k hk => hq3.block k (HX.out.own.lt k hk).2 (nR k (HX.out.own.lt k hk).1)))
        have Q3 := hide hq3
        have X3 := hide hx3
        have VL := hide hvals
        have ONE : Hid (∀ u ∈ [v0, v1, v2, v3, v4, v5, v6, v7], u.oneCell' = true) := fun u hu => by have := (hvals w (fun _ => True)).one; rw [Array.all_eq_true_iff_forall_mem] at this; exact this u (by simpa using hu)
        have ltM3 : Hid (M < w3.heap.size) := World.block_lt_of_cell? w3 _ cM
        have NE : Hid (∀ k, (Value.slice av j cv).ownBlock = some k → w.heap.size ≤ k ∧ k < w3.heap.size) := fun k hk => OW.out.lt k hk
        have RA : Hid (∀ u, Below w3.heap.size w3 u → u.ownsRow w.heap.size 72 8 (.slice av j cv) j rows.flatten) := fun u hb => own_same OW.out (fun k hk => hb.block k (NE.out k hk).2)
        have BA : Hid (w.heap.size ≤ w3.heap.size) := Nat.le_trans ltw.out Q3.out.size
        have cMa : (w3.alloc (.cells #[v0, v1, v2, v3, v4, v5, v6, v7] 72)).cell? ⟨M, p, none⟩ = some (.slice av j cv) := (World.cell?_alloc_lt w3 _ _ ltM3.out).trans cM
        clear hx3 hf3 hs3 hcells hvals hq3 eM nR XP CM d1
        go_wp2_with fail
        go_region_law (refine step_append_where _ (by rfl) (.tmp 50) (.tmp 52) 25 (by rfl) w.heap.size 72 i0 (.agg #[.int .i64 0, .int .i64 0, .string ⟨#[]⟩, .string ⟨#[]⟩, .int .i64 0, .int .i64 0, .int .i64 0, .int .i64 0]) 8 80 Tryz.underlying25 hi hz0 hz1 hz2 (by rfl) (by omega) av j cv (by rfl) rows.flatten (RA.out _ (below_alloc (Below.refl _ _).drew _)) ⟨w3.heap.size, 0, none⟩ 1 1 (by rfl) [v0, v1, v2, v3, v4, v5, v6, v7] (by rfl) (World.news_of_block (heap_alloc_new w3.drew _)) ONE.out (by omega) (by unfold maxLen; omega) (by omega) (by simp; exact Nat.le_succ_of_le BA.out) ?_; intro g2 cap2 w4 hown hgrow hat; have c4 : w4.cell? ⟨M, p, none⟩ = some (.slice av j cv) := hgrow.cell ((World.cell?_alloc_lt w3.drew _ _ ltM3.out).trans cM) (fun e => by have := (NE.out M e.symm).1; have := ltM.out; omega); have f4 : w4.frozen? ⟨M, p, none⟩ = false := (hgrow.frozen_far ⟨M, p, none⟩ (by simp; exact Nat.lt_succ_of_lt ltM3.out) (fun e => by have := (NE.out M e.symm).1; have := ltM.out; omega)).trans ((World.frozen?_alloc_past _ _ _ ltM3.out).trans fM); have HO := hide hown; have HG := hide hgrow; clear hown hgrow hat)
        all_goals (
          have LN : Hid (XLoopDeal B W R a n cp bs s w M p (j + 1) (some ⟨g2, 0, none⟩) cap2 (rows ++ [[v0, v1, v2, v3, v4, v5, v6, v7]]) (w4.setCell ⟨M, p, none⟩ (.slice (some ⟨g2, 0, none⟩) (j + 1) cap2))) := by
            have hgt := HO.out.lt g2 rfl
            have nrow : ∀ k, k < w.heap.size → some k ≠ (Value.slice av j cv).ownBlock := fun k hk e => by have := (NE.out k e.symm).1; omega
            have hx4 := ((X3.out.below (below_alloc1 w3 (.cells #[v0, v1, v2, v3, v4, v5, v6, v7] 72))).below (w1 := (w3.alloc (.cells #[v0, v1, v2, v3, v4, v5, v6, v7] 72)).drew) ⟨rfl, rfl, rfl, Nat.le_refl _, fun _ _ => rfl⟩).grown HG.out (nrow W WR.out.1) (nrow R WR.out.2) (fun b off e => nrow b (AP.out b off e))
            refine ⟨?_, World.cell?_setCell_same _ _ _ c4, by rw [World.frozen?_setCell]; exact f4, ?_, ?_, ?_⟩
            · rw [timesA_snoc]
              exact hx4.store HF.out _
            · rw [List.flatten_append]
              simpa using own_same HO.out (fun k hk => Below.heap_setCell _ ⟨M, p, none⟩ _ k (by have e5 : g2 = k := (by simpa [Value.ownBlock] using hk); show k ≠ M; have := ltM.out; omega))
            · rw [timesA_snoc]
              exact HX.out.r.snoc rfl VL.out
            · refine stp_app HX.out.st HF.out ltM.out (HG.out.os.trans Q3.out.os) (HG.out.tape.trans Q3.out.tape) (HG.out.output.trans Q3.out.output) (Nat.le_trans Q3.out.size (Nat.le_trans (by simp) HG.out.size)) (fun k hk hs => ?_) _
              have hk3 : k < w3.heap.size := Nat.lt_of_lt_of_le hk BA.out
              exact (HG.out.block k (by simp; omega) (nrow k hk)).trans ((heap_alloc_old w3 _ hk3).trans (Q3.out.block k (Nat.lt_of_lt_of_le hk ltw.out) hs))
          clear HO HG
          go_wp2_with fail
          go_roundw
          case rel => exact ⟨j + 1, _, _, _, by omega, by go_num, LN⟩
          case measure => simp [intOf]; omega)
      · rw [decide_eq_false he] at CM
        have HE := hide he
        clear he
        go_wp2_with fail
        refine CM.out.mono ?_
        rintro e wx ⟨rfl, rfl⟩
        go_wp2_with fail
        refine bodyPost_end (results_none rfl _ _ _) rfl ?_
        have es : (listA bs (flatA bs [0, 0, 3, 3, 0, 0, 0, 0]) s).s = (timesA (flatA bs [0, 0, 3, 3, 0, 0, 0, 0]) j (countA bs 1024 s).s).s := by
          unfold listA
          rw [← EK.out]
          have := timesA_later (flatA bs [0, 0, 3, 3, 0, 0, 0, 0]) (fun s hs => flatA_stuck bs [0, 0, 3, 3, 0, 0, 0, 0] s hs) j (countA bs 1024 s).s HE.out (k - j)
          rw [show j + (k - j) = k by omega] at this
          exact this
        refine ⟨rfl, by rw [es]; exact HX.out.x, fun h0 => absurd (by rw [← es]; exact h0) HE.out, HX.out.st⟩
    · obtain rfl : j = k := by omega
      go_wp2_with fail
      refine bodyPost_end (results_none rfl _ _ _) rfl ?_
      have es : listA bs (flatA bs [0, 0, 3, 3, 0, 0, 0, 0]) s = timesA (flatA bs [0, 0, 3, 3, 0, 0, 0, 0]) j (countA bs 1024 s).s := by unfold listA; rw [← EK.out]
      have hP : ∀ g, (Value.slice av j cv).ownBlock = some g → OutB B (Rown W R) M wr g := fun g hg => by
        have hg2 := HX.out.own.lt g hg
        exact ⟨Nat.le_trans LO.out hg2.1, hg2.2, fun e => by have := WR.out; rcases e with e | e <;> omega, by have := ltM.out; omega⟩
      have hls := ls_of_rows (P := OutB B (Rown W R) M wr) HX.out.own HX.out.r (timesA_length _ _ _) (by omega) hP
      rw [← es] at hls
      exact ⟨rfl, by rw [es]; exact HX.out.x, fun _ => ⟨av, j, cv, HX.out.c, hls⟩, HX.out.st⟩
end Go.Proofs.YthklpkmdmkgjiaaGreat

namespace Go.Proofs.YthklpkmdmkgjiaaGreat
open Go.ChangeShapes Go.WideShapes Go.ChangeAt Go.RowKit B8 Cm Wm
set_option linter.unusedVariables false

theorem xinfo_ends : (Tryz.prog.info? 75).map (fun i => (i.zero, i.size, i.bytes)) = some (some (.agg #[.int .i64 0, .int .i64 0]), 2, 16) := by kernel_rfl
/-- what reading a list at the cell p of M brings about -/
def XLEnd (B W R : Nat) (a : Option Addr) (n cp : Nat) (bs : List Int) (s : St) (w : World) (M p : Nat) (u : World) : Prop :=
  XS u B W R a n cp bs (listA bs (flatA bs [0, 0]) s).s ∧ ((listA bs (flatA bs [0, 0]) s).s.err = 0 → ∃ ad k c, u.cell? ⟨M, p, none⟩ = some (.slice ad k c) ∧ Ls u (OutB B (Rown W R) M u) ad k c 2 (listA bs (flatA bs [0, 0]) s).v) ∧ Stp (Rown W R) M p (p + 1) w u
/-- the walk stands behind j of them -/
structure XLoopEnd (B W R : Nat) (a : Option Addr) (n cp : Nat) (bs : List Int) (s : St) (w : World) (M p j : Nat) (av : Option Addr) (cv : Nat) (rows : List (List Value)) (u : World) : Prop where
  x : XS u B W R a n cp bs (timesA (flatA bs [0, 0]) j (countA bs 1024 s).s).s
  c : u.cell? ⟨M, p, none⟩ = some (.slice av j cv)
  f : u.frozen? ⟨M, p, none⟩ = false
  own : u.ownsRow w.heap.size 75 2 (.slice av j cv) j rows.flatten
  r : Xrows rows (timesA (flatA bs [0, 0]) j (countA bs 1024 s).s).v 2
  st : Stp (Rown W R) M p (p + 1) w u

set_option maxRecDepth 100000 in
set_option maxHeartbeats 4000000 in
theorem xlist_ends {B W R : Nat} {a : Option Addr} {n cp : Nat} {bs : List Int} {s : St} {w : World} {M p : Nat} (h : XS w B W R a n cp bs s) (hF : Far W R a M) (hc : ∃ av nv cv, w.cell? ⟨M, p, none⟩ = some (.slice av nv cv)) (hz : w.frozen? ⟨M, p, none⟩ = false) :
    Calls Tryz.prog 52 #[.pointer (some ⟨W, 0, none⟩), .pointer (some ⟨M, p, none⟩)] w fun e w' => e = .returned (.tuple #[]) ∧ XLEnd B W R a n cp bs s w M p w' := by
  obtain ⟨i0, hi, hz0, hz1, hz2⟩ := info_parts xinfo_ends
  obtain ⟨av0, nv0, cv0, hc⟩ := hc
  have CM := hide (xmany_any (nv0 : Int) h)
  have HF := hide hF
  have HZ := hide hz
  have HC := hide hc
  have ltM : Hid (M < w.heap.size) := World.block_lt_of_cell? w _ hc
  have WR : Hid (W < w.heap.size ∧ R < w.heap.size) := h.lt
  have AP : Hid (∀ b off, a = some ⟨b, off, none⟩ → b < w.heap.size) := fun b off e => (h.ap b off e).2
  have LO : Hid (B ≤ w.heap.size) := h.low
  have CL : Hid ((countA bs 1024 s).v ≤ 1024) := by show _ ≤ _; have := countA_le bs 1024 s; omega
  clear h hF hz
  go_enter Tryz.func52, Tryz.ntmps52
  go_wp2_with fail
  refine CM.out.mono ?_
  rintro e w1 ⟨rfl, hx1, hs1⟩
  have c1 := hx1.c1
  have eM := hs1.block M ltM.out (far_own HF.out w)
  have cM : w1.cell? ⟨M, p, none⟩ = some (.slice av0 nv0 cv0) := (World.cell?_of_block (w := w) (a := ⟨M, p, none⟩) eM).trans HC.out
  have fM : w1.frozen? ⟨M, p, none⟩ = false := (World.frozen?_of_block (w := w) (a := ⟨M, p, none⟩) eM).trans HZ.out
  have L0 : Hid (XLoopEnd B W R a n cp bs s w M p 0 none 0 [] (w1.setCell ⟨M, p, none⟩ (.slice none 0 0))) :=
    ⟨hx1.store HF.out _, World.cell?_setCell_same _ _ _ cM, by rw [World.frozen?_setCell]; exact fM, World.ownsRow_nil _ _ _ _, ⟨rfl, fun i row xs hr => by simp at hr⟩, stp_set hs1 ltM.out (far_own HF.out w) (fun v k hk => hk) _⟩
  obtain ⟨k, ek⟩ : ∃ k, k = (countA bs 1024 s).v := ⟨_, rfl⟩
  rw [← ek]
  have EK := hide ek
  have KL : k ≤ 1024 := by rw [ek]; exact CL.out
  clear hx1 hs1 eM CM hc ek
  go_wp2_with fail
  obtain ⟨w2, e2⟩ : ∃ w2, w2 = w1.setCell ⟨M, p, none⟩ (.slice none 0 0) := ⟨_, rfl⟩
  rw [← e2] at L0 ⊢
  clear e2 c1 cM fM
  go_loopw [6] (fun i wr => ∃ (j : Nat) (av : Option Addr) (cv : Nat) (rows : List (List Value)), j ≤ k ∧ i = .int .i64 j ∧ Hid (XLoopEnd B W R a n cp bs s w M p j av cv rows wr)) (fun i _ => k - (intOf i).toNat)
  case atStart => exact ⟨0, none, 0, [], Nat.zero_le _, rfl, L0⟩
  case round =>
    clear L0
    obtain ⟨j, av, cv, rows, hj, rfl, HX⟩ := hrel
    by_cases hlt : j < k
    · have i1 : (j : Int) < (k : Int) := by omega
      have CM := hide (xmore_any HX.out.x)
      by_cases he : (timesA (flatA bs [0, 0]) j (countA bs 1024 s).s).s.err = 0
      · rw [decide_eq_true he] at CM
        have d1 : (wr.alloc (.cells #[.int .i64 0, .int .i64 0] 75)).cell? ⟨W, 1, none⟩ = some (.pointer (some ⟨R, 0, none⟩)) := (World.cell?_alloc_lt wr _ _ HX.out.x.lt.1).trans HX.out.x.c1
        have hsz := HX.out.st.size
        have FN : Hid (Far W R a wr.heap.size) := ⟨by have := WR.out; omega, by have := WR.out; omega, fun b off e => by have := AP.out b off e; omega⟩
        have XP := hide (xEnd_any (M := wr.heap.size) (o := 0) (HX.out.x.below (below_alloc1 wr (.cells #[.int .i64 0, .int .i64 0] 75))) FN.out (by simp) (room_new wr #[.int .i64 0, .int .i64 0] 75 2 rfl))
        have ltw : Hid (w.heap.size ≤ wr.heap.size) := hsz
        have SL : Hid (wr.heap.size < (wr.alloc (.cells #[.int .i64 0, .int .i64 0] 75)).heap.size) := by show _ < _; simp
        clear hsz he
        go_wp2_with fail
        refine CM.out.mono ?_
        rintro e wx ⟨rfl, rfl⟩
        go_wp2_with fail
        refine XP.out.mono ?_
        rintro e w3 ⟨rfl, hx3, hf3, hs3⟩
        have c3 := hx3.c1
        obtain ⟨cs, hcl, hcells, hvals⟩ := xrow_of hf3 (flatA_length bs [0, 0] _) (kinds_small (flatA_kinds bs [0, 0] _ (by decide)) (by decide))
        obtain ⟨v0, v1, rfl⟩ : ∃ v0 v1, cs = [v0, v1] := by
          match cs, hcl with
          | [v0, v1], _ => exact ⟨_, _, rfl⟩
        have q0 := hcells 0 v0 rfl
        have q1 := hcells 1 v1 rfl
        have hq3 := hs3.inner (rq_below W R (below_alloc1 wx (.cells #[.int .i64 0, .int .i64 0] 75))) (Nat.le_refl _)
        have eM := hq3.block M (Nat.lt_of_lt_of_le ltM.out ltw.out) (far_own HF.out wx)
        have cM : w3.cell? ⟨M, p, none⟩ = some (.slice av j cv) := (World.cell?_of_block (w := wx) (a := ⟨M, p, none⟩) eM).trans HX.out.c
        have fM : w3.frozen? ⟨M, p, none⟩ = false := (World.frozen?_of_block (w := wx) (a := ⟨M, p, none⟩) eM).trans HX.out.f
        have nR : ∀ k, w.heap.size ≤ k → ¬ Rown W R wx k := fun k hk e => by have := WR.out; rcases e with e | e <;> omega
        have OW := hide (own_same (w' := w3) HX.out.own (fun k hk => hq3.block k (HX.out.own.lt k hk).2 (nR k (HX.out.own.lt k hk).1)))
        have Q3 := hide hq3
        have X3 := hide hx3
        have VL := hide hvals
        have ONE : Hid (∀ u ∈ [v0, v1], u.oneCell' = true) := fun u hu => by have := (hvals w (fun _ => True)).one; rw [Array.all_eq_true_iff_forall_mem] at this; exact this u (by simpa using hu)
        have ltM3 : Hid (M < w3.heap.size) := World.block_lt_of_cell? w3 _ cM
        have NE : Hid (∀ k, (Value.slice av j cv).ownBlock = some k → w.heap.size ≤ k ∧ k < w3.heap.size) := fun k hk => OW.out.lt k hk
        have RA : Hid (∀ u, Below w3.heap.size w3 u → u.ownsRow w.heap.size 75 2 (.slice av j cv) j rows.flatten) := fun u hb => own_same OW.out (fun k hk => hb.block k (NE.out k hk).2)
        have BA : Hid (w.heap.size ≤ w3.heap.size) := Nat.le_trans ltw.out Q3.out.size
        have cMa : (w3.alloc (.cells #[v0, v1] 75)).cell? ⟨M, p, none⟩ = some (.slice av j cv) := (World.cell?_alloc_lt w3 _ _ ltM3.out).trans cM
        clear hx3 hf3 hs3 hcells hvals hq3 eM nR XP CM d1
        go_wp2_with fail
        go_region_law (refine step_append_where _ (by rfl) (.tmp 50) (.tmp 52) 26 (by rfl) w.heap.size 75 i0 (.agg #[.int .i64 0, .int .i64 0]) 2 16 Tryz.underlying26 hi hz0 hz1 hz2 (by rfl) (by omega) av j cv (by rfl) rows.flatten (RA.out _ (below_alloc (Below.refl _ _).drew _)) ⟨w3.heap.size, 0, none⟩ 1 1 (by rfl) [v0, v1] (by rfl) (World.news_of_block (heap_alloc_new w3.drew _)) ONE.out (by omega) (by unfold maxLen; omega) (by omega) (by simp; exact Nat.le_succ_of_le BA.out) ?_; intro g2 cap2 w4 hown hgrow hat; have c4 : w4.cell? ⟨M, p, none⟩ = some (.slice av j cv) := hgrow.cell ((World.cell?_alloc_lt w3.drew _ _ ltM3.out).trans cM) (fun e => by have := (NE.out M e.symm).1; have := ltM.out; omega); have f4 : w4.frozen? ⟨M, p, none⟩ = false := (hgrow.frozen_far ⟨M, p, none⟩ (by simp; exact Nat.lt_succ_of_lt ltM3.out) (fun e => by have := (NE.out M e.symm).1; have := ltM.out; omega)).trans ((World.frozen?_alloc_past _ _ _ ltM3.out).trans fM); have HO := hide hown; have HG := hide hgrow; clear hown hgrow hat)
        all_goals (
          have LN : Hid (XLoopEnd B W R a n cp bs s w M p (j + 1) (some ⟨g2, 0, none⟩) cap2 (rows ++ [[v0, v1]]) (w4.setCell ⟨M, p, none⟩ (.slice (some ⟨g2, 0, none⟩) (j + 1) cap2))) := by
            have hgt := HO.out.lt g2 rfl
            have nrow : ∀ k, k < w.heap.size → some k ≠ (Value.slice av j cv).ownBlock := fun k hk e => by have := (NE.out k e.symm).1; omega
            have hx4 := ((X3.out.below (below_alloc1 w3 (.cells #[v0, v1] 75))).below (w1 := (w3.alloc (.cells #[v0, v1] 75)).drew) ⟨rfl, rfl, rfl, Nat.le_refl _, fun _ _ => rfl⟩).grown HG.out (nrow W WR.out.1) (nrow R WR.out.2) (fun b off e => nrow b (AP.out b off e))
            refine ⟨?_, World.cell?_setCell_same _ _ _ c4, by rw [World.frozen?_setCell]; exact f4, ?_, ?_, ?_⟩
            · rw [timesA_snoc]
              exact hx4.store HF.out _
            · rw [List.flatten_append]
              simpa using own_same HO.out (fun k hk => Below.heap_setCell _ ⟨M, p, none⟩ _ k (by have e5 : g2 = k := (by simpa [Value.ownBlock] using hk); show k ≠ M; have := ltM.out; omega))
            · rw [timesA_snoc]
              exact HX.out.r.snoc rfl VL.out
            · refine stp_app HX.out.st HF.out ltM.out (HG.out.os.trans Q3.out.os) (HG.out.tape.trans Q3.out.tape) (HG.out.output.trans Q3.out.output) (Nat.le_trans Q3.out.size (Nat.le_trans (by simp) HG.out.size)) (fun k hk hs => ?_) _
              have hk3 : k < w3.heap.size := Nat.lt_of_lt_of_le hk BA.out
              exact (HG.out.block k (by simp; omega) (nrow k hk)).trans ((heap_alloc_old w3 _ hk3).trans (Q3.out.block k (Nat.lt_of_lt_of_le hk ltw.out) hs))
          clear HO HG
          go_wp2_with fail
          go_roundw
          case rel => exact ⟨j + 1, _, _, _, by omega, by go_num, LN⟩
          case measure => simp [intOf]; omega)
      · rw [decide_eq_false he] at CM
        have HE := hide he
        clear he
        go_wp2_with fail
        refine CM.out.mono ?_
        rintro e wx ⟨rfl, rfl⟩
        go_wp2_with fail
        refine bodyPost_end (results_none rfl _ _ _) rfl ?_
        have es : (listA bs (flatA bs [0, 0]) s).s = (timesA (flatA bs [0, 0]) j (countA bs 1024 s).s).s := by
          unfold listA
          rw [← EK.out]
          have := timesA_later (flatA bs [0, 0]) (fun s hs => flatA_stuck bs [0, 0] s hs) j (countA bs 1024 s).s HE.out (k - j)
          rw [show j + (k - j) = k by omega] at this
          exact this
        refine ⟨rfl, by rw [es]; exact HX.out.x, fun h0 => absurd (by rw [← es]; exact h0) HE.out, HX.out.st⟩
    · obtain rfl : j = k := by omega
      go_wp2_with fail
      refine bodyPost_end (results_none rfl _ _ _) rfl ?_
      have es : listA bs (flatA bs [0, 0]) s = timesA (flatA bs [0, 0]) j (countA bs 1024 s).s := by unfold listA; rw [← EK.out]
      have hP : ∀ g, (Value.slice av j cv).ownBlock = some g → OutB B (Rown W R) M wr g := fun g hg => by
        have hg2 := HX.out.own.lt g hg
        exact ⟨Nat.le_trans LO.out hg2.1, hg2.2, fun e => by have := WR.out; rcases e with e | e <;> omega, by have := ltM.out; omega⟩
      have hls := ls_of_rows (P := OutB B (Rown W R) M wr) HX.out.own HX.out.r (timesA_length _ _ _) (by omega) hP
      rw [← es] at hls
      exact ⟨rfl, by rw [es]; exact HX.out.x, fun _ => ⟨av, j, cv, HX.out.c, hls⟩, HX.out.st⟩
end Go.Proofs.YthklpkmdmkgjiaaGreat
