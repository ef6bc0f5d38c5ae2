/- The law folder's step, its other kinds: Arm, Crash, and what writes. No condition but that there is memory for what waits. -/
import Derived.Test.YtfkclebngldjmaaDiskStep
namespace Go.Proofs.Ytfkclebngldjmaa
open Go.ChangeShapes Go.WideShapes Go.ChangeAt Go.RowKit B8 Dm
set_option linter.unusedVariables false

theorem below_undrew {N : Nat} {w u : World} {P : Prop} (h : P ∧ Below N w.drew u) : P ∧ Below N w u := ⟨h.1, h.2.os, h.2.tape, h.2.output, h.2.size, h.2.block⟩
theorem cell2_far {u u' : World} {N : Nat} {v : Value} (h : u.cell? ⟨N, 2, none⟩ = some v) (e : u'.heap[N]? = u.heap[N]?) : u'.cell? ⟨N, 2, none⟩ = some v := (World.cell?_of_block (a := ⟨N, 2, none⟩) e).trans h
section
variable {w w1 w2 : World} {N D E : Nat} {s t s' t' : Ds} {L M : Nat → Prop}
/-- first the landed one, then the document's -/
theorem two_both (hr : Rsk w E t M) (h3 : ∀ k, L k → N ≤ k ∧ k < w.heap.size ∧ ¬ M k) (h4 : ∀ k, M k → N ≤ k ∧ k < w.heap.size) (hN : N ≤ w.heap.size) (h : Mv w D L s' w1) (g : Rv w1 E M t' w2) : Two w2 N D E s' t' ∧ Below N w w2 := by
  have b1 := h.1.below hN (fun k hk => (h3 k hk).1)
  have h3' : ∀ k, ((L k ∨ w.heap.size ≤ k) ∧ k < w1.heap.size) → N ≤ k ∧ k < w1.heap.size ∧ ¬ M k := fun k hk => ⟨by rcases hk.1 with h5 | h5; exact (h3 k h5).1; omega, hk.2, fun hm => by rcases hk.1 with h5 | h5; exact (h3 k h5).2.2 hm; have := (h4 k hm).2; omega⟩
  have x := two_ref h.2.lt h3' (fun k hk => ⟨(h4 k hk).1, Nat.lt_of_lt_of_le (h4 k hk).2 h.1.size⟩) (Nat.le_trans hN h.1.size) g
  exact ⟨x.1, b1.trans x.2⟩
/-- first the document's, then the landed one -/
theorem two_both' (hd : Dsk w D s L) (h3 : ∀ k, L k → N ≤ k ∧ k < w.heap.size ∧ ¬ M k) (h4 : ∀ k, M k → N ≤ k ∧ k < w.heap.size) (hN : N ≤ w.heap.size) (g : Rv w E M t' w1) (h : Mv w1 D L s' w2) : Two w2 N D E s' t' ∧ Below N w w2 := by
  have b1 := g.1.below hN (fun k hk => (h4 k hk).1)
  have h4' : ∀ k, ((M k ∨ w.heap.size ≤ k) ∧ k < w1.heap.size) → N ≤ k ∧ k < w1.heap.size := fun k hk => ⟨by rcases hk.1 with h5 | h5; exact (h4 k h5).1; omega, hk.2⟩
  have x := two_land (L := L) g.2.lt (fun k hk => ⟨(h3 k hk).1, Nat.lt_of_lt_of_le (h3 k hk).2.1 g.1.size, fun hm => by rcases hm.1 with h5 | h5; exact (h3 k hk).2.2 h5; have := (h3 k hk).2.1; omega⟩) h4' (Nat.le_trans hN g.1.size) h
  exact ⟨x.1, b1.trans x.2⟩
end
set_option maxRecDepth 100000 in
set_option maxHeartbeats 2000000 in
theorem step_arm {w : World} {N D E : Nat} {s : Ds} (h : Two w N D E s s) (hN : N ≤ w.heap.size) (hr : s.ws.length < 3000000000000) (at_ n fill : Int) (n0 : -9223372036854775808 ≤ n) (n1 : n ≤ 9223372036854775807) (ka : Option Addr) (kl kc : Nat) :
    Calls Try.prog 13 #[.pointer (some ⟨D, 0, none⟩), .pointer (some ⟨E, 0, none⟩), .agg #[.int .i64 3, .int .i64 at_, .int .i64 n, .int .u8 fill, .slice ka kl kc]] w fun e w' => e = .returned (.bool true) ∧ Below N w w' ∧ Two w' N D E (armS s n) (armS s n) := by
  obtain ⟨w2, e2⟩ : ∃ w2, w2 = w.alloc (.cells #[.int .i64 3, .int .i64 at_, .int .i64 n, .int .u8 fill, .slice ka kl kc] 34) := ⟨_, rfl⟩
  have Y := hide (box_cells e2)
  have B2 : Hid (Below w.heap.size w w2) := by rw [e2]; exact below_alloc (Below.refl _ _) _
  have N2 : Hid (w.heap.size < w2.heap.size) := by rw [e2]; simp [Hid]
  obtain ⟨L, M, hd, hrf, hL, hM⟩ := h
  have HD := hide (hd.below B2.out)
  have HR := hide (hrf.below B2.out)
  have LL := hide hL
  have MM := hide hM
  have M2 : Hid (N ≤ w2.heap.size) := Nat.le_trans hN B2.out.size
  obtain ⟨y0, y1, y2, y3, y4⟩ := Y.out
  clear hd hrf hL hM
  go_enter Try.func13, Try.ntmps13
  go_wp2_with fail
  rw [← e2]
  clear e2
  have L2 : Hid (∀ k, L k → N ≤ k ∧ k < w2.heap.size ∧ ¬ M k) := fun k hk => ⟨(LL.out k hk).1, Nat.lt_trans (LL.out k hk).2.1 N2.out, (LL.out k hk).2.2⟩
  have K2 : Hid (∀ k, M k → N ≤ k ∧ k < w2.heap.size) := fun k hk => ⟨(MM.out k hk).1, Nat.lt_trans (MM.out k hk).2 N2.out⟩
  have NL : Hid (¬ L w.heap.size) := fun h5 => by have := (LL.out _ h5).2.1; omega
  have NM : Hid (¬ M w.heap.size) := fun h5 => by have := (MM.out _ h5).2; omega
  have DD : Hid (∀ u, Chg M w2 u → Dsk u D s L) := fun u hc => HD.out.far hc (fun k hl hm => (LL.out k hl).2.2 hm)
  have RR : Hid (∀ u, Chg L w2 u → Rsk u E s M) := fun u hc => HR.out.far hc (fun k hm hl => (LL.out k hl).2.2 hm)
  have C0L : Hid (Chg L w2 w2.drew) := (Chg.refl _ _).drew
  have C0M : Hid (Chg M w2 w2.drew) := (Chg.refl _ _).drew
  go_wp2_with fail
  go_cut [6] (fun t w' => t = .bool true ∧ Hid (Two w' N D E (armS s n) (armS s n) ∧ Below N w2 w'))
  case first =>
    go_region_held3 (fun u => u.cell? ⟨w.heap.size, 2, none⟩ = some (.int .i64 n))
      (first | exact y2 | exact cell2_far y2 EA2.out | exact cell2_far y2 EA.out | exact cell2_far y2 EB2.out | exact cell2_far y2 EB.out)
      (first
        | (go_at_call 18; refine (arm_any (DD.out _ CB.out) n n0 n1).mono ?_; rintro e ua ⟨rfl, mva⟩; have MA := hide mva; have EA2 : Hid (ua.heap[w.heap.size]? = w2.heap[w.heap.size]?) := (mva.1.block _ (Nat.lt_of_lt_of_le N2.out CB.out.size) NL.out).trans EB.out; clear mva)
        | (go_at_call 18; refine (arm_any (DD.out _ C0M.out) n n0 n1).mono ?_; rintro e ua ⟨rfl, mva⟩; have MA := hide mva; have CA : Hid (Chg L w2 ua) := C0L.out.trans mva.1 (fun k _ hk => hk); have EA : Hid (ua.heap[w.heap.size]? = w2.heap[w.heap.size]?) := CA.out.block _ N2.out NL.out; clear mva)
        | (go_at_call 31; refine (rarm_any (RR.out _ CA.out) n n0 n1).mono ?_; rintro e ub ⟨rfl, mvb⟩; have MB := hide mvb; have EB2 : Hid (ub.heap[w.heap.size]? = w2.heap[w.heap.size]?) := (mvb.1.block _ (Nat.lt_of_lt_of_le N2.out CA.out.size) NM.out).trans EA.out; clear mvb)
        | (go_at_call 31; refine (rarm_any (RR.out _ C0L.out) n n0 n1).mono ?_; rintro e ub ⟨rfl, mvb⟩; have MB := hide mvb; have CB : Hid (Chg M w2 ub) := C0M.out.trans mvb.1 (fun k _ hk => hk); have EB : Hid (ub.heap[w.heap.size]? = w2.heap[w.heap.size]?) := CB.out.block _ N2.out NM.out; clear mvb))
    all_goals go_wp2_with fail
    all_goals (go_meet; case rel => (refine ⟨by simp, ?_⟩; first | exact below_undrew (two_both (w := w2.drew) (RR.out _ C0L.out) L2.out K2.out M2.out MA.out MB.out) | exact below_undrew (two_both' (w := w2.drew) (DD.out _ C0M.out) L2.out K2.out M2.out MB.out MA.out)))
  case rest =>
    obtain ⟨rfl, HT⟩ := hcut
    go_wp2_with fail
    go_ret
    exact ⟨rfl, (B2.out.mono hN).trans HT.out.2, HT.out.1⟩
set_option maxRecDepth 100000 in
set_option maxHeartbeats 2000000 in
theorem step_crash {w : World} {N D E : Nat} {s : Ds} (h : Two w N D E s s) (hN : N ≤ w.heap.size) (hr : s.ws.length < 3000000000000) (at_ n fill : Int) (ka : Option Addr) (kl kc : Nat) (ks : List Int) (q : I8.Sq w ka kl kc ks) (hrm : kc * 8 ≤ 140737488351232) (hlt : 0 < kl → ∀ b off, ka = some ⟨b, off, none⟩ → b < N) :
    Calls Try.prog 13 #[.pointer (some ⟨D, 0, none⟩), .pointer (some ⟨E, 0, none⟩), .agg #[.int .i64 4, .int .i64 at_, .int .i64 n, .int .u8 fill, .slice ka kl kc]] w fun e w' => e = .returned (.bool true) ∧ Below N w w' ∧ Two w' N D E (crashS s ks) (crashS s ks) := by
  obtain ⟨w2, e2⟩ : ∃ w2, w2 = w.alloc (.cells #[.int .i64 4, .int .i64 at_, .int .i64 n, .int .u8 fill, .slice ka kl kc] 34) := ⟨_, rfl⟩
  have Y := hide (box_cells e2)
  have B2 : Hid (Below w.heap.size w w2) := by rw [e2]; exact below_alloc (Below.refl _ _) _
  have N2 : Hid (w.heap.size < w2.heap.size) := by rw [e2]; simp [Hid]
  obtain ⟨L, M, hd, hrf, hL, hM⟩ := h
  have HD := hide (hd.below B2.out)
  have HR := hide (hrf.below B2.out)
  have LL := hide hL
  have MM := hide hM
  have M2 : Hid (N ≤ w2.heap.size) := Nat.le_trans hN B2.out.size
  obtain ⟨y0, y1, y2, y3, y4⟩ := Y.out
  clear hd hrf hL hM
  go_enter Try.func13, Try.ntmps13
  go_wp2_with fail
  rw [← e2]
  clear e2
  have L2 : Hid (∀ k, L k → N ≤ k ∧ k < w2.heap.size ∧ ¬ M k) := fun k hk => ⟨(LL.out k hk).1, Nat.lt_trans (LL.out k hk).2.1 N2.out, (LL.out k hk).2.2⟩
  have K2 : Hid (∀ k, M k → N ≤ k ∧ k < w2.heap.size) := fun k hk => ⟨(MM.out k hk).1, Nat.lt_trans (MM.out k hk).2 N2.out⟩
  have NL : Hid (¬ L w.heap.size) := fun h5 => by have := (LL.out _ h5).2.1; omega
  have NM : Hid (¬ M w.heap.size) := fun h5 => by have := (MM.out _ h5).2; omega
  have hkl : kl * 8 ≤ 140737488351232 := by have := q.lecap; omega
  have Q2 := hide (q.below B2.out)
  have HLT := hide hlt
  clear q hlt
  go_wp2_with fail
  refine (rcrash_any HR.out (Nat.lt_trans hr (by omega)) Q2.out (fun h0 b off e hm => by have := HLT.out h0 b off e; have := (MM.out b hm).1; omega) (by omega)).mono ?_
  rintro e w3 ⟨rfl, mv3⟩
  have R3 := hide mv3
  have c4 : w3.cell? ⟨w.heap.size, 4, none⟩ = some (.slice ka kl kc) := (World.cell?_of_block (a := ⟨w.heap.size, 4, none⟩) (mv3.1.block _ N2.out NM.out)).trans y4
  have Q3 := hide (sqI_chg Q2.out mv3.1 (fun h0 b off e hm => by have := HLT.out h0 b off e; have := (MM.out b hm).1; omega))
  have D3 : Hid (Dsk w3 D s L) := HD.out.far mv3.1 (fun k hl hm => (LL.out k hl).2.2 hm)
  have S3 : Hid (w2.heap.size ≤ w3.heap.size) := mv3.1.size
  clear mv3
  go_wp2_with fail
  refine (I8.own_sq 71 Q3.out hkl).mono ?_
  rintro e w4 ⟨rfl, hb4, ho4⟩
  have SO := hide (I8.sq_own Q3.out.length Q3.out.wf ho4)
  have B4 := hide hb4
  have D4 := hide (D3.out.below hb4)
  have LTo : Hid (w3.heap.size < w4.heap.size) := (ho4.lt w3.heap.size rfl).2
  have c4' : w4.cell? ⟨w.heap.size, 4, none⟩ = some (.slice ka kl kc) := (hb4.cell (p := ⟨w.heap.size, 4, none⟩) (Nat.lt_of_lt_of_le N2.out S3.out)).trans c4
  have Q4 := hide (Q3.out.below hb4)
  clear hb4 ho4
  go_wp2_with fail
  refine (crash_any D4.out (Nat.lt_trans hr (by omega)) SO.out.1 (fun h0 b off e hl => by cases e; have := (LL.out _ hl).2.1; have := N2.out; have := S3.out; omega) (by omega)).mono ?_
  rintro e w5 ⟨rfl, mv5⟩
  have M5 := hide mv5
  have NO : Hid (¬ L w3.heap.size) := fun h5 => by have := (LL.out _ h5).2.1; have := N2.out; have := S3.out; omega
  have SO5 : Hid (I8.Sq w5 (some ⟨w3.heap.size, 0, none⟩) kl (kl + 2) ks ∧ w5.cell? ⟨w3.heap.size, kl, none⟩ = some (.int .i64 71) ∧ w5.cell? ⟨w3.heap.size, kl + 1, none⟩ = some (.int .i64 71)) := by
    have e5 := mv5.1.block _ LTo.out NO.out
    exact ⟨sqI_same SO.out.1 (fun _ b off e _ => by cases e; exact e5), (World.cell?_of_block (a := ⟨w3.heap.size, kl, none⟩) e5).trans SO.out.2.1, (World.cell?_of_block (a := ⟨w3.heap.size, kl + 1, none⟩) e5).trans SO.out.2.2⟩
  have Q5 := hide (sqI_chg Q4.out mv5.1 (fun h0 b off e hm => by have := HLT.out h0 b off e; have := (LL.out b hm).1; omega))
  have c5 : w5.cell? ⟨w.heap.size, 4, none⟩ = some (.slice ka kl kc) := (World.cell?_of_block (a := ⟨w.heap.size, 4, none⟩) (mv5.1.block _ (Nat.lt_of_lt_of_le N2.out (Nat.le_trans S3.out B4.out.size)) NL.out)).trans c4'
  clear mv5
  go_wp2_with fail
  refine (I8.kept_sq 71 SO5.out.1 Q5.out hkl SO5.out.2.1 SO5.out.2.2).mono ?_
  rintro e w6 ⟨rfl, m6, rfl⟩
  go_wp2_with fail
  go_ret
  have RB : Rv w2 E M (crashS s ks) w4 := ⟨R3.out.1.trans (Chg.of_below B4.out M) (fun k _ hk => hk), R3.out.2.below B4.out⟩
  have X := two_both' (w := w2) HD.out L2.out K2.out M2.out RB M5.out
  have BB := (B2.out.mono hN).trans X.2
  exact ⟨rfl, ⟨BB.os, BB.tape, BB.output, BB.size, BB.block⟩, X.1.same (fun k _ _ => rfl) (Nat.le_refl _)⟩
end Go.Proofs.Ytfkclebngldjmaa
