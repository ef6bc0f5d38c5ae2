/- The law folder's step: a call on the landed disk and on the document's: they answer alike. No condition but that there is memory for what waits. -/
import Derived.Test.YtfkclebngldjmaaDiskRefRead
import Derived.Test.YtfkclebngldjmaaDiskAll
import Derived.Test.YtfkclebngldjmaaOwn8
import Derived.Test.YtfkclebngldjmaaOwnI
namespace Go.Proofs.Ytfkclebngldjmaa
open Go.ChangeShapes Go.WideShapes Go.ChangeAt Go.RowKit B8 Dm
set_option linter.unusedVariables false

/-- the landed disk at D and the document's at E, apart from each other, from N on -/
def Two (w : World) (N D E : Nat) (s t : Ds) : Prop := ∃ L M : Nat → Prop, Dsk w D s L ∧ Rsk w E t M ∧ (∀ k, L k → N ≤ k ∧ k < w.heap.size ∧ ¬ M k) ∧ (∀ k, M k → N ≤ k ∧ k < w.heap.size)
section
variable {w w' : World} {N D E : Nat} {s t s' t' : Ds} {L M : Nat → Prop}
theorem Two.same (h : Two w N D E s t) (hb : ∀ k, N ≤ k → k < w.heap.size → w'.heap[k]? = w.heap[k]?) (hs : w.heap.size ≤ w'.heap.size) : Two w' N D E s t := by
  obtain ⟨L, M, h1, h2, h3, h4⟩ := h
  exact ⟨L, M, h1.same (fun k hk hl => hb k (h3 k hl).1 hk), h2.same (fun k hk hl => hb k (h4 k hl).1 hk), fun k hk => ⟨(h3 k hk).1, Nat.lt_of_lt_of_le (h3 k hk).2.1 hs, (h3 k hk).2.2⟩, fun k hk => ⟨(h4 k hk).1, Nat.lt_of_lt_of_le (h4 k hk).2 hs⟩⟩
theorem Two.below (h : Two w N D E s t) (hb : Below w.heap.size w w') : Two w' N D E s t := h.same (fun k _ hk => hb.block k hk) hb.size
theorem two_land (hr : Rsk w E t M) (h3 : ∀ k, L k → N ≤ k ∧ k < w.heap.size ∧ ¬ M k) (h4 : ∀ k, M k → N ≤ k ∧ k < w.heap.size) (hN : N ≤ w.heap.size) (h : Mv w D L s' w') : Two w' N D E s' t ∧ Below N w w' := by
  refine ⟨⟨_, M, h.2.lt, hr.far h.1 (fun k hm hl => (h3 k hl).2.2 hm), fun k hk => ?_, fun k hk => ⟨(h4 k hk).1, Nat.lt_of_lt_of_le (h4 k hk).2 h.1.size⟩⟩, h.1.below hN (fun k hk => (h3 k hk).1)⟩
  refine ⟨?_, hk.2, fun hm => ?_⟩
  · rcases hk.1 with h5 | h5
    · exact (h3 k h5).1
    · omega
  · rcases hk.1 with h5 | h5
    · exact (h3 k h5).2.2 hm
    · have := (h4 k hm).2; omega
theorem two_ref (hd : Dsk w D s L) (h3 : ∀ k, L k → N ≤ k ∧ k < w.heap.size ∧ ¬ M k) (h4 : ∀ k, M k → N ≤ k ∧ k < w.heap.size) (hN : N ≤ w.heap.size) (h : Rv w E M t' w') : Two w' N D E s t' ∧ Below N w w' := by
  refine ⟨⟨L, _, hd.far h.1 (fun k hl hm => (h3 k hl).2.2 hm), h.2.lt, fun k hk => ⟨(h3 k hk).1, Nat.lt_of_lt_of_le (h3 k hk).2.1 h.1.size, fun hm => ?_⟩, fun k hk => ⟨?_, hk.2⟩⟩, h.1.below hN (fun k hk => (h4 k hk).1)⟩
  · rcases hm.1 with h5 | h5
    · exact (h3 k hk).2.2 h5
    · have := (h3 k hk).2.1; omega
  · rcases hk.1 with h5 | h5
    · exact (h4 k h5).1
    · omega
/-- a block of neither is written -/
theorem Two.other (h : Two w N D E s t) {g B : Nat} (hB : w.heap.size ≤ g) {w1 : World} (hb : Below w.heap.size w w1) (hc : Chg (· = g) w1 w') : Two w' N D E s t := by
  refine h.same (fun k _ hk => ?_) (Nat.le_trans hb.size hc.size)
  exact (hc.block k (Nat.lt_of_lt_of_le hk hb.size) (show k ≠ g by omega)).trans (hb.block k hk)
end
theorem sq8_nil (w : World) : Sq w none 0 0 [] := ⟨rfl, Nat.le_refl _, fun _ => rfl, fun h => absurd h (by omega), wfs_nil⟩
theorem sq8_same {w w' : World} {a : Option Addr} {n cp : Nat} {zs : List Int} (q : Sq w a n cp zs) (hb : 0 < n → ∀ b off, a = some ⟨b, off, none⟩ → b < w.heap.size → w'.heap[b]? = w.heap[b]?) : Sq w' a n cp zs :=
  ⟨q.length, q.lecap, q.nil, fun h0 => by
    obtain ⟨b, off, e, hc⟩ := q.cells h0
    exact ⟨b, off, e, fun j hj => (World.cell?_of_block (w := w) (a := ⟨b, off + j, none⟩) (hb h0 b off e (World.block_lt_of_cell? w _ (hc j hj)))).trans (hc j hj)⟩, q.wf⟩
theorem box_cells {w w2 : World} {kind at_ n fill : Int} {ka : Option Addr} {kl kc : Nat} (e2 : w2 = w.alloc (.cells #[.int .i64 kind, .int .i64 at_, .int .i64 n, .int .u8 fill, .slice ka kl kc] 34)) :
    w2.cell? ⟨w.heap.size, 0, none⟩ = some (.int .i64 kind) ∧ w2.cell? ⟨w.heap.size, 1, none⟩ = some (.int .i64 at_) ∧ w2.cell? ⟨w.heap.size, 2, none⟩ = some (.int .i64 n) ∧ w2.cell? ⟨w.heap.size, 3, none⟩ = some (.int .u8 fill) ∧ w2.cell? ⟨w.heap.size, 4, none⟩ = some (.slice ka kl kc) := by rw [e2]; simp

set_option maxRecDepth 100000 in
set_option maxHeartbeats 2000000 in
theorem step_read {w : World} {N D E : Nat} {s : Ds} (h : Two w N D E s s) (hN : N ≤ w.heap.size) (hr : s.ws.length < 3000000000000) (at_ n fill : Int) (ka : Option Addr) (kl kc : Nat) :
    Calls Try.prog 13 #[.pointer (some ⟨D, 0, none⟩), .pointer (some ⟨E, 0, none⟩), .agg #[.int .i64 1, .int .i64 at_, .int .i64 n, .int .u8 fill, .slice ka kl kc]] w fun e w' => e = .returned (.bool true) ∧ Below N w w' ∧ Two w' N D E s s := by
  obtain ⟨w2, e2⟩ : ∃ w2, w2 = w.alloc (.cells #[.int .i64 1, .int .i64 at_, .int .i64 n, .int .u8 fill, .slice ka kl kc] 34) := ⟨_, rfl⟩
  have Y := hide (box_cells e2)
  have B2 : Hid (Below w.heap.size w w2) := by rw [e2]; exact below_alloc (Below.refl _ _) _
  have N2 : Hid (w.heap.size < w2.heap.size) := by rw [e2]; simp [Hid]
  have T2 := hide (h.below B2.out)
  obtain ⟨y0, y1, y2, y3, y4⟩ := Y.out
  clear h
  go_enter Try.func13, Try.ntmps13
  go_wp2_with fail
  rw [← e2]
  clear e2
  go_wp2_with fail
  obtain ⟨L, M, hd, hrf, hL, hM⟩ := T2.out
  by_cases hre : reachE s at_ = 0
  · obtain ⟨hdn, p, rfl, hp⟩ := reach_at hre
    refine (read_yes hd p hre hp).mono ?_
    rintro e w3 ⟨rfl, hb3, hg3⟩
    have B3 := hide hb3
    have G3 := hide hg3
    have Q3 : Hid (Sq w3 (some ⟨w2.heap.size, 0, none⟩) 64 64 (over s.kept s.ws p)) := by
      have := sq_of_block hg3 (hd.ok.shown p hp).2
      rw [(hd.ok.shown p hp).1] at this
      exact this
    have BL : Hid (Blk (over s.kept s.ws p)) := hd.ok.shown p hp
    have R3 := hide (hrf.below hb3)
    have c1 : w3.cell? ⟨w.heap.size, 1, none⟩ = some (.int .i64 p) := (hb3.cell (p := ⟨w.heap.size, 1, none⟩) N2.out).trans y1
    clear hb3 hg3 hd hrf
    go_wp2_with fail
    refine (rread_yes R3.out (Nat.lt_trans hr (by omega)) p hdn hp).mono ?_
    rintro e w4 ⟨g4, rfl, hb4, hg4, hl4⟩
    have B4 := hide hb4
    have G4 : Hid (w4.heap[w2.heap.size]? = some (.cells (vals (over s.kept s.ws p)).toArray 5 (0, 0))) := (hb4.block _ (Array.getElem?_eq_some_iff.1 G3.out).1).trans G3.out
    have Q4 : Hid (Sq w4 (some ⟨g4, 0, none⟩) 64 64 (over s.kept s.ws p)) := by
      have := sq_of_block hg4 BL.out.2
      rw [BL.out.1] at this
      exact this
    have Q4' := hide (Q3.out.below hb4)
    clear hb4 hg4
    go_wp2_with fail
    refine (bytes_sq Q4'.out Q4.out (by omega)).mono ?_
    rintro e w5 ⟨rfl, m5, rfl⟩
    have BW : Hid (Below w2.heap.size w2 (w4.drewN m5)) := by
      have := B3.out.trans (B4.out.mono B3.out.size)
      exact ⟨this.os, this.tape, this.output, this.size, this.block⟩
    have G5 : Hid ((w4.drewN m5).heap[w2.heap.size]? = some (.cells (vals (over s.kept s.ws p)).toArray 5 (0, 0))) := G4.out
    have VL : Hid ((vals (over s.kept s.ws p)).toArray.size = 64) := by show _ = _; simp [vals, BL.out.1]
    generalize (vals (over s.kept s.ws p)).toArray = cur0 at *
    obtain ⟨w5, e5⟩ : ∃ w5, w5 = w4.drewN m5 := ⟨_, rfl⟩
    rw [← e5] at BW G5 ⊢
    clear e5 Q4 Q4' G3 G4 Q3
    go_wp2_with fail
    go_loopw [12] (fun i wr => ∃ (k : Nat) (cur : Array Value), k ≤ 64 ∧ i = .int .i64 k ∧ Hid (Chg (· = w2.heap.size) w5 wr) ∧ Hid (wr.heap[w2.heap.size]? = some (.cells cur 5 (0, 0)) ∧ cur.size = 64)) (fun i _ => 64 - (intOf i).toNat)
    case atStart => exact ⟨0, cur0, by omega, rfl, Chg.refl _ _, ⟨G5.out, VL.out⟩⟩
    case round =>
      obtain ⟨k, cur, hk, rfl, HC, HG⟩ := hrel
      by_cases hlt : k < 64
      · have cc : wr.cell? ⟨w2.heap.size, k, none⟩ = some (cur[k]'(by have := HG.out.2; omega)) := by rw [cell_of_row wr _ k _ _ _ HG.out.1]; exact Array.getElem?_eq_getElem _
        have ff : wr.frozen? ⟨w2.heap.size, k, none⟩ = false := frozen_of_row wr _ k _ _ HG.out.1
        have i1 : (k : Int) < 64 := by omega
        have i2 : (0 : Int) ≤ (k : Int) := by omega
        go_wp2_with fail
        go_roundw
        case rel => exact ⟨k + 1, _, by omega, by go_num, HC.out.setCell (p := ⟨w2.heap.size, k, none⟩) (.inl rfl) _, ⟨heap_setCell_same _ _ _ _ _ _ HG.out.1, by simpa using HG.out.2⟩⟩
        case measure => simp [intOf]; omega
      · obtain rfl : k = 64 := by omega
        go_wp2_with fail
        go_ret
        exact ⟨rfl, (B2.out.mono hN).trans ((BW.out.mono (Nat.le_trans hN B2.out.size)).trans (HC.out.below (Nat.le_trans hN (Nat.le_trans B2.out.size BW.out.size)) (fun j hj => by rw [hj]; exact Nat.le_trans hN B2.out.size))), T2.out.other (B := 0) (Nat.le_refl _) BW.out HC.out⟩
  · refine (read_no hd at_ hre).mono ?_
    rintro e w3 ⟨rfl, rfl⟩
    go_wp2_with fail
    refine (rread_no hrf at_ hre).mono ?_
    rintro e w4 ⟨rfl, rfl⟩
    go_wp2_with fail
    refine (bytes_sq (sq8_nil _) (sq8_nil _) (by omega)).mono ?_
    rintro e w5 ⟨rfl, m5, rfl⟩
    go_wp2_with fail
    refine wp_loop_rounds 1 ?_
    rw [rounds_succ]
    go_wp2_with fail
    go_ret
    exact ⟨rfl, (B2.out.mono hN).trans ((Chg.drewN (fun _ => False) _ m5).below (Nat.le_trans hN B2.out.size) (fun k hk => hk.elim)), T2.out.same (fun k _ _ => rfl) (Nat.le_refl _)⟩

set_option maxRecDepth 100000 in
set_option maxHeartbeats 2000000 in
theorem step_sync {w : World} {N D E : Nat} {s : Ds} (h : Two w N D E s s) (hN : N ≤ w.heap.size) (hr : s.ws.length < 3000000000000) (at_ n fill : Int) (ka : Option Addr) (kl kc : Nat) :
    Calls Try.prog 13 #[.pointer (some ⟨D, 0, none⟩), .pointer (some ⟨E, 0, none⟩), .agg #[.int .i64 2, .int .i64 at_, .int .i64 n, .int .u8 fill, .slice ka kl kc]] w fun e w' => e = .returned (.bool true) ∧ Below N w w' ∧ Two w' N D E (syncS s) (syncS s) := by
  obtain ⟨w2, e2⟩ : ∃ w2, w2 = w.alloc (.cells #[.int .i64 2, .int .i64 at_, .int .i64 n, .int .u8 fill, .slice ka kl kc] 34) := ⟨_, rfl⟩
  have Y := hide (box_cells e2)
  have B2 : Hid (Below w.heap.size w w2) := by rw [e2]; exact below_alloc (Below.refl _ _) _
  have N2 : Hid (w.heap.size < w2.heap.size) := by rw [e2]; simp [Hid]
  have T2 := hide (h.below B2.out)
  have M2 : Hid (N ≤ w2.heap.size) := Nat.le_trans hN B2.out.size
  obtain ⟨y0, y1, y2, y3, y4⟩ := Y.out
  clear h
  go_enter Try.func13, Try.ntmps13
  go_wp2_with fail
  rw [← e2]
  clear e2
  obtain ⟨L, M, hd, hrf, hL, hM⟩ := T2.out
  go_wp2_with fail
  refine (sync_any hd (Nat.lt_trans hr (by omega))).mono ?_
  rintro e w3 ⟨rfl, hmv⟩
  have X3 := hide (two_land hrf hL hM M2.out hmv)
  clear hmv hd hrf hL hM
  obtain ⟨L, M, hd, hrf, hL, hM⟩ := X3.out.1
  have M3 : Hid (N ≤ w3.heap.size) := Nat.le_trans M2.out X3.out.2.size
  go_wp2_with fail
  refine (rsync_any hrf (Nat.lt_trans hr (by omega))).mono ?_
  rintro e w4 ⟨rfl, hmv⟩
  have X4 := hide (two_ref hd hL hM M3.out hmv)
  clear hmv hd hrf hL hM
  go_wp2_with fail
  go_ret
  exact ⟨rfl, (B2.out.mono hN).trans (X3.out.2.trans X4.out.2), X4.out.1⟩

set_option maxRecDepth 100000 in
set_option maxHeartbeats 2000000 in
theorem step_start {w : World} {N D E : Nat} {s : Ds} (h : Two w N D E s s) (hN : N ≤ w.heap.size) (hr : s.ws.length < 3000000000000) (at_ n fill : Int) (ka : Option Addr) (kl kc : Nat) :
    Calls Try.prog 13 #[.pointer (some ⟨D, 0, none⟩), .pointer (some ⟨E, 0, none⟩), .agg #[.int .i64 5, .int .i64 at_, .int .i64 n, .int .u8 fill, .slice ka kl kc]] w fun e w' => e = .returned (.bool true) ∧ Below N w w' ∧ Two w' N D E (startS s) (startS s) := by
  obtain ⟨w2, e2⟩ : ∃ w2, w2 = w.alloc (.cells #[.int .i64 5, .int .i64 at_, .int .i64 n, .int .u8 fill, .slice ka kl kc] 34) := ⟨_, rfl⟩
  have Y := hide (box_cells e2)
  have B2 : Hid (Below w.heap.size w w2) := by rw [e2]; exact below_alloc (Below.refl _ _) _
  have N2 : Hid (w.heap.size < w2.heap.size) := by rw [e2]; simp [Hid]
  have T2 := hide (h.below B2.out)
  have M2 : Hid (N ≤ w2.heap.size) := Nat.le_trans hN B2.out.size
  obtain ⟨y0, y1, y2, y3, y4⟩ := Y.out
  clear h
  go_enter Try.func13, Try.ntmps13
  go_wp2_with fail
  rw [← e2]
  clear e2
  obtain ⟨L, M, hd, hrf, hL, hM⟩ := T2.out
  go_wp2_with fail
  refine (rstart_any hrf).mono ?_
  rintro e w3 ⟨rfl, hmv⟩
  have X3 := hide (two_ref hd hL hM M2.out hmv)
  clear hmv hd hrf hL hM
  obtain ⟨L, M, hd, hrf, hL, hM⟩ := X3.out.1
  have M3 : Hid (N ≤ w3.heap.size) := Nat.le_trans M2.out X3.out.2.size
  go_wp2_with fail
  refine (start_any hd (Nat.lt_trans hr (by omega))).mono ?_
  rintro e w4 ⟨rfl, hmv⟩
  have X4 := hide (two_land hrf hL hM M3.out hmv)
  clear hmv hd hrf hL hM
  go_wp2_with fail
  go_ret
  exact ⟨rfl, (B2.out.mono hN).trans (X3.out.2.trans X4.out.2), X4.out.1⟩
end Go.Proofs.Ytfkclebngldjmaa
