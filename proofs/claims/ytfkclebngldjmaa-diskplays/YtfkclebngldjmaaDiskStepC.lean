/- The law folder's step, where it writes. No condition but that there is memory for what waits. -/
import Derived.Test.YtfkclebngldjmaaDiskStepB
namespace Go.Proofs.Ytfkclebngldjmaa
open Go.ChangeShapes Go.WideShapes Go.ChangeAt Go.RowKit B8 Dm
set_option linter.unusedVariables false

/-- first the landed one, then the document's; then a block of neither is written -/
theorem two_then {w w1 w2 u : World} {N D E g : Nat} {t s' t' : Ds} {L M : Nat → Prop} (hr : Rsk w E t M) (h3 : ∀ k, L k → N ≤ k ∧ k < w.heap.size ∧ ¬ M k) (h4 : ∀ k, M k → N ≤ k ∧ k < w.heap.size) (hN : N ≤ w.heap.size) (h : Mv w D L s' w1) (q : Rv w1 E M t' w2) (hg : g < w.heap.size) (gl : ¬ L g) (gm : ¬ M g) (hc : Chg (· = g) w2 u) : Two u N D E s' t' := by
  have h1 : ∀ k, (((L k ∨ w.heap.size ≤ k) ∧ k < w1.heap.size) ) → N ≤ k ∧ k < w1.heap.size ∧ ¬ M k := fun k hk => ⟨by rcases hk.1 with h5 | h5; exact (h3 k h5).1; omega, hk.2, fun hm => by rcases hk.1 with h5 | h5; exact (h3 k h5).2.2 hm; have := (h4 k hm).2; omega⟩
  have d2 : Dsk w2 D s' (fun k => (L k ∨ w.heap.size ≤ k) ∧ k < w1.heap.size) := h.2.lt.far q.1 (fun k hl hm => (h1 k hl).2.2 hm)
  refine ⟨_, _, d2.far hc (fun k hl (hk : k = g) => ?_), q.2.lt.far hc (fun k hm (hk : k = g) => ?_), fun k hk => ⟨(h1 k hk).1, Nat.lt_of_lt_of_le hk.2 (Nat.le_trans q.1.size hc.size), fun hm => ?_⟩, fun k hk => ⟨?_, Nat.lt_of_lt_of_le hk.2 hc.size⟩⟩
  · subst hk
    rcases hl.1 with h5 | h5
    · exact gl h5
    · omega
  · subst hk
    rcases hm.1 with h5 | h5
    · exact gm h5
    · have := h.1.size; omega
  · rcases hm.1 with h5 | h5
    · exact (h1 k hk).2.2 h5
    · have := hk.2; omega
  · rcases hk.1 with h5 | h5
    · exact (h4 k h5).1
    · have := h.1.size; omega
set_option maxRecDepth 100000 in
set_option maxHeartbeats 2000000 in
theorem step_write {w : World} {N D E : Nat} {s : Ds} (h : Two w N D E s s) (hN : N ≤ w.heap.size) (hr : s.ws.length < 3000000000000) (kind at_ n fill : Int) (ka : Option Addr) (kl kc : Nat) (ks : List Int) (n0 : -9223372036854775808 ≤ n) (n1 : n ≤ 9223372036854775807) (z1 : (kind == 1) = false) (z2 : (kind == 2) = false) (z3 : (kind == 3) = false) (z4 : (kind == 4) = false) (z5 : (kind == 5) = false) :
    Calls Try.prog 13 #[.pointer (some ⟨D, 0, none⟩), .pointer (some ⟨E, 0, none⟩), .agg #[.int .i64 kind, .int .i64 at_, .int .i64 n, .int .u8 fill, .slice ka kl kc]] w fun e w' => e = .returned (.bool true) ∧ Below N w w' ∧ Two w' N D E (writeS s at_ (dataL ⟨kind, at_, n, fill, ka, kl, kc, ks⟩)) (writeS s at_ (dataL ⟨kind, at_, n, fill, ka, kl, kc, ks⟩)) := by
  obtain ⟨w2, e2⟩ : ∃ w2, w2 = w.alloc (.cells #[.int .i64 kind, .int .i64 at_, .int .i64 n, .int .u8 fill, .slice ka kl kc] 34) := ⟨_, rfl⟩
  have Y := hide (box_cells e2)
  have B2 : Hid (Below w.heap.size w w2) := by rw [e2]; exact below_alloc (Below.refl _ _) _
  have N2 : Hid (w.heap.size < w2.heap.size) := by rw [e2]; simp [Hid]
  obtain ⟨L, M, hd, hrf, hL, hM⟩ := h
  have HD := hide (hd.below B2.out)
  have HR := hide (hrf.below B2.out)
  have LL := hide hL
  have MM := hide hM
  have M2 : Hid (N ≤ w2.heap.size) := Nat.le_trans hN B2.out.size
  obtain ⟨y0, y1, y2, y3, y4⟩ := Y.out
  clear hd hrf hL hM
  go_enter Try.func13, Try.ntmps13
  go_wp2_with fail
  rw [← e2]
  clear e2
  have DA := hide (data_any ⟨kind, at_, n, fill, ka, kl, kc, ks⟩ n0 n1 w2)
  have DL : Hid ((dataL ⟨kind, at_, n, fill, ka, kl, kc, ks⟩).length ≤ 130) := dataL_le _
  generalize hbs : dataL ⟨kind, at_, n, fill, ka, kl, kc, ks⟩ = bs at *
  have HBS := hide hbs
  clear hbs
  go_wp2_with fail
  refine DA.out.mono ?_
  rintro e w3 ⟨gb, ln, cpb, rfl, hb3, q3, lo3, hi3⟩
  have B3 := hide hb3
  have Q3 := hide q3
  have hln : ln ≤ 130 := by rw [← q3.length]; exact DL.out
  have G3 : Hid (w2.heap.size ≤ gb ∧ gb < w3.heap.size) := ⟨lo3, hi3⟩
  have c1 : w3.cell? ⟨w.heap.size, 1, none⟩ = some (.int .i64 at_) := (hb3.cell (p := ⟨w.heap.size, 1, none⟩) N2.out).trans y1
  clear hb3 q3 lo3 hi3 DA
  go_wp2_with fail
  refine (own_sq 71 Q3.out (by omega)).mono ?_
  rintro e w4 ⟨rfl, hb4, ho4⟩
  have SO := hide (sq_own Q3.out.length Q3.out.wf ho4)
  have OB : Hid (∃ cur, w4.heap[w3.heap.size]? = some (.cells cur 5 (0, 0)) ∧ cur.size = ln + 2) := by
    rcases ho4.2 with ⟨e1, _⟩ | ⟨g, cap, cur, e1, _, e3, _, _, e6, _⟩
    · cases e1
    · simp at e1
      obtain ⟨rfl, rfl⟩ := e1
      exact ⟨cur, e3, by omega⟩
  have B4 := hide hb4
  have LTo : Hid (w3.heap.size < w4.heap.size) := (ho4.lt w3.heap.size rfl).2
  have Q4 := hide (Q3.out.below hb4)
  have c1' : w4.cell? ⟨w.heap.size, 1, none⟩ = some (.int .i64 at_) := (hb4.cell (p := ⟨w.heap.size, 1, none⟩) (Nat.lt_of_lt_of_le N2.out B3.out.size)).trans c1
  have S4 : Hid (w2.heap.size ≤ w3.heap.size ∧ w3.heap.size ≤ w4.heap.size) := ⟨B3.out.size, B4.out.size⟩
  have D4 := hide ((HD.out.below B3.out).below B4.out)
  have R4 := hide ((HR.out.below B3.out).below B4.out)
  have L4 : Hid (∀ k, L k → N ≤ k ∧ k < w4.heap.size ∧ ¬ M k) := fun k hk => ⟨(LL.out k hk).1, by have := (LL.out k hk).2.1; have := S4.out; have := N2.out; omega, (LL.out k hk).2.2⟩
  have K4 : Hid (∀ k, M k → N ≤ k ∧ k < w4.heap.size) := fun k hk => ⟨(MM.out k hk).1, by have := (MM.out k hk).2; have := S4.out; have := N2.out; omega⟩
  have LB : Hid (∀ k, L k → k < w.heap.size) := fun k hk => (LL.out k hk).2.1
  have MB : Hid (∀ k, M k → k < w.heap.size) := fun k hk => (MM.out k hk).2
  clear hb4 ho4
  go_wp2_with fail
  refine (write_any D4.out at_ SO.out.1 hr).mono ?_
  rintro e w5 ⟨rfl, mv5⟩
  have M5 := hide mv5
  have R5 : Hid (Rsk w5 E s M) := R4.out.far mv5.1 (fun k hm hl => (LL.out k hl).2.2 hm)
  have e5 : Hid (∀ k, w.heap.size ≤ k → k < w4.heap.size → w5.heap[k]? = w4.heap[k]?) := fun k h1 h2 => mv5.1.block k h2 (fun hl => by have := LB.out k hl; omega)
  have Q5 : Hid (Sq w5 (some ⟨gb, 0, none⟩) ln cpb bs) := sq8_same Q4.out (fun _ b off e _ => by cases e; exact e5.out gb (by have := G3.out; have := N2.out; omega) (by have := G3.out; have := S4.out; omega))
  have c5 : w5.cell? ⟨w.heap.size, 1, none⟩ = some (.int .i64 at_) := (World.cell?_of_block (a := ⟨w.heap.size, 1, none⟩) (e5.out w.heap.size (Nat.le_refl _) (by have := N2.out; have := S4.out; omega))).trans c1'
  have S5 : Hid (w4.heap.size ≤ w5.heap.size) := mv5.1.size
  clear mv5
  go_wp2_with fail
  refine (rwrite_any R5.out at_ Q5.out hr).mono ?_
  rintro e w6 ⟨rfl, rv6⟩
  have R6 := hide rv6
  have e6 : Hid (∀ k, w.heap.size ≤ k → k < w4.heap.size → w6.heap[k]? = w4.heap[k]?) := fun k h1 h2 => (rv6.1.block k (Nat.lt_of_lt_of_le h2 S5.out) (fun hl => by have := MB.out k hl; omega)).trans (e5.out k h1 h2)
  have g6 : Hid (w6.heap[w3.heap.size]? = w4.heap[w3.heap.size]?) := e6.out _ (by have := N2.out; have := S4.out; omega) LTo.out
  have SO6 : Hid (Sq w6 (some ⟨w3.heap.size, 0, none⟩) ln (ln + 2) bs ∧ w6.cell? ⟨w3.heap.size, ln, none⟩ = some (.int .u8 71) ∧ w6.cell? ⟨w3.heap.size, ln + 1, none⟩ = some (.int .u8 71)) :=
    ⟨sq8_same SO.out.1 (fun _ b off e _ => by cases e; exact g6.out), (World.cell?_of_block (a := ⟨w3.heap.size, ln, none⟩) g6.out).trans SO.out.2.1, (World.cell?_of_block (a := ⟨w3.heap.size, ln + 1, none⟩) g6.out).trans SO.out.2.2⟩
  have Q6 : Hid (Sq w6 (some ⟨gb, 0, none⟩) ln cpb bs) := sq8_same Q4.out (fun _ b off e _ => by cases e; exact e6.out gb (by have := G3.out; have := N2.out; omega) (by have := G3.out; have := S4.out; omega))
  clear rv6
  go_wp2_with fail
  refine (kept_sq 71 SO6.out.1 Q6.out (by omega) SO6.out.2.1 SO6.out.2.2).mono ?_
  rintro e w7 ⟨rfl, m7, rfl⟩
  obtain ⟨cur0, hc0, hs0⟩ := OB.out
  have G7 : Hid ((w6.drewN m7).heap[w3.heap.size]? = some (.cells cur0 5 (0, 0))) := g6.out.trans hc0
  have HS0 := hide hs0
  obtain ⟨w7, e7⟩ : ∃ w7, w7 = w6.drewN m7 := ⟨_, rfl⟩
  have C67 : Hid (Chg (· = w3.heap.size) w6 w7) := by rw [e7]; exact Chg.drewN _ _ _
  rw [← e7] at G7 ⊢
  clear e7 hc0 hs0 SO SO6 Q6 Q5 Q4 Q3 c5 c1 c1' OB
  have i0 : (ln : Int) ≤ 130 := by omega
  go_wp2_with fail
  go_loopw [18] (fun i wr => ∃ (k : Nat) (cur : Array Value), k ≤ ln ∧ i = .int .i64 k ∧ Hid (Chg (· = w3.heap.size) w6 wr) ∧ Hid (wr.heap[w3.heap.size]? = some (.cells cur 5 (0, 0)) ∧ cur.size = ln + 2)) (fun i _ => ln - (intOf i).toNat)
  case atStart => exact ⟨0, cur0, by omega, rfl, C67, ⟨G7.out, HS0.out⟩⟩
  case round =>
    obtain ⟨k, cur, hk, rfl, HC, HG⟩ := hrel
    by_cases hlt : k < ln
    · have cc : wr.cell? ⟨w3.heap.size, k, none⟩ = some (cur[k]'(by have := HG.out.2; omega)) := by rw [cell_of_row wr _ k _ _ _ HG.out.1]; exact Array.getElem?_eq_getElem _
      have ff : wr.frozen? ⟨w3.heap.size, k, none⟩ = false := frozen_of_row wr _ k _ _ HG.out.1
      have i1 : (k : Int) < (ln : Int) := by omega
      have i2 : (0 : Int) ≤ (k : Int) := by omega
      go_wp2_with fail
      go_roundw
      case rel => exact ⟨k + 1, _, by omega, by go_num, HC.out.setCell (p := ⟨w3.heap.size, k, none⟩) (.inl rfl) _, ⟨heap_setCell_same _ _ _ _ _ _ HG.out.1, by simpa using HG.out.2⟩⟩
      case measure => simp [intOf]; omega
    · obtain rfl : k = ln := by omega
      go_wp2_with fail
      go_ret
      have lw : N ≤ w4.heap.size := by have := N2.out; have := S4.out; omega
      have X := two_both R4.out L4.out K4.out lw M5.out R6.out
      have T := two_then R4.out L4.out K4.out lw M5.out R6.out LTo.out (fun hl => by have := LB.out _ hl; have := N2.out; have := S4.out; omega) (fun hl => by have := MB.out _ hl; have := N2.out; have := S4.out; omega) HC.out
      rw [HBS.out]
      refine ⟨rfl, ?_, T⟩
      have b1 : Below N w w4 := (B2.out.mono hN).trans ((B3.out.mono M2.out).trans (B4.out.mono (by have := N2.out; have := S4.out; omega)))
      exact b1.trans (X.2.trans (HC.out.below (Nat.le_trans lw X.2.size) (fun j hj => by rw [hj]; have := N2.out; have := S4.out; omega)))
end Go.Proofs.Ytfkclebngldjmaa
