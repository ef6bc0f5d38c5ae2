/- AcceptPlays: whatever is asked and told, each answer, and what an acceptor has, is the document's: for every list of calls. No condition. -/
import Derived.Test.YtdnniokpkamjjaaAccStepB
import Derived.Test.YtdnniokpkamjjaaAccAwake
import Derived.Test.YtdnniokpkamjjaaRegionOrd
namespace Go.Proofs.Ytdnniokpkamjjaa
open Go.ChangeShapes Go.WideShapes Go.ChangeAt Go.RowKit B8 Am
set_option linter.unusedVariables false

namespace AcceptPlays
set_option maxRecDepth 100000 in
set_option maxHeartbeats 4000000 in
theorem walk {w : World} {a : Option Addr} {len cap : Nat} {os : Nat → Opd} (h : Ops w a len os) :
    Calls Try.prog 3 #[.slice a len cap] w fun e w' => e = .returned (.bool true) ∧ Below w.heap.size w w' := by
  have H := hide h
  have RM := h.room
  have NY := hide (new_any w)
  clear h
  go_enter Try.func3, Try.ntmps3
  go_wp2_with fail
  refine NY.out.mono ?_
  rintro e w1 ⟨rfl, hb, ha⟩
  have B1 := hide hb
  obtain ⟨A, eA⟩ : ∃ A, A = w.heap.size + 1 := ⟨_, rfl⟩
  obtain ⟨mb, em⟩ : ∃ mb, mb = w.heap.size := ⟨_, rfl⟩
  have A1 : Hid (Ac w1 (fun k => w.heap.size ≤ k) A mb newS) := by rw [eA, em]; exact ha _
  rw [← eA]
  have LA : Hid (w.heap.size ≤ A ∧ w.heap.size ≤ mb) := ⟨by omega, by omega⟩
  clear hb ha eA em
  go_wp2_with fail
  refine (rnew_any w1).mono ?_
  rintro e w2 ⟨rfl, hb2, hr2⟩
  obtain ⟨R, eR⟩ : ∃ R, R = w1.heap.size := ⟨_, rfl⟩
  rw [← eR] at hr2 ⊢
  have D2 : Hid (Half w2 w.heap.size (fun k => w.heap.size ≤ k) (fun k => k < w.heap.size) A mb R newS newS) := ⟨⟨A1.out.below hb2, LA.out.1, LA.out.2⟩, hr2 _, by rw [eR]; exact B1.out.size⟩
  have B2 := hide (below_step B1.out hb2)
  clear hb2 hr2 eR
  go_wp2_with fail
  refine (awake_any _).mono ?_
  rintro e w3 ⟨rfl, hb3⟩
  have B3 := hide (below_step B2.out hb3)
  have D3 := hide (D2.out.below hb3)
  clear hb3 D2 A1
  go_wp2_with fail
  go_loopw [5] (fun i wr => ∃ (k : Nat) (s : As), k ≤ len ∧ i = .int .i64 k ∧ Hid (Below w.heap.size w wr) ∧ Hid (Half wr w.heap.size (fun k => w.heap.size ≤ k) (fun k => k < w.heap.size) A mb R s s)) (fun i _ => len - (intOf i).toNat)
  case atStart => exact ⟨0, _, Nat.zero_le _, rfl, B3, D3⟩
  case round =>
    clear B3 D3 B2
    obtain ⟨k, s, hk, rfl, HB, HD⟩ := hrel
    by_cases hlt : k < len
    · obtain ⟨ob, off, rfl, oblt, hoc⟩ := H.out.cells (by omega)
      have VO := hide (H.out.each k hlt)
      have hr := rangeAt_same (hoc k hlt) (HB.out.block ob oblt)
      generalize os k = o at *
      obtain ⟨kind, v⟩ := o
      obtain ⟨o0, o1, o2, o3, o4⟩ := opc_cells hr
      have OB : Hid (ob < w.heap.size) := oblt
      clear hr hoc oblt
      have i1 : (k : Int) < (len : Int) := by omega
      have i2 : (0 : Int) ≤ (k : Int) := by omega
      have NW : Hid (w.heap.size ≤ wr.heap.size) := HB.out.size
      have DD : Hid (Half wr.drew w.heap.size (fun k => w.heap.size ≤ k) (fun k => k < w.heap.size) A mb R s s) := HD.out.below (Below.refl _ _).drew
      have BD : Hid (Below w.heap.size w wr.drew) := HB.out.drew
      have VW : Hid (VOk wr.drew v) := VO.out.below BD.out
      have VI : Hid (v.In wr.drew (fun k => k < w.heap.size)) := (VO.out.inn (w' := w) (Nat.le_refl _)).below BD.out
      have CS := hide (step_any DD.out NW.out (fun k hk => Nat.le_trans NW.out hk) (fun k hk => by have h1 : wr.heap.size ≤ k := hk; have := NW.out; omega) kind v VW.out VI.out)
      generalize opS s ⟨kind, v⟩ = s' at CS
      go_wp2_with fail
      refine region_ord [(0, true), (1, true), (2, true), (3, true), (4, true), (5, false), (6, false), (7, true), (8, true)] [(9, true), (11, true), (12, true), (13, true), (14, true), (10, false), (15, true), (16, true), (17, true), (18, true), (20, true), (21, true), (22, true), (23, true), (19, false), (24, true), (25, true), (26, true), (27, true), (29, true), (30, true), (31, true), (32, true), (28, false), (33, false), (34, true), (35, true)] (by kernel_rfl) (by kernel_rfl) (by kernel_rfl) (by kernel_rfl) (by kernel_rfl) (by kernel_rfl) ?_
      refine ord_take (v := ?_) rfl (fun _ _ _ h => h) (by rfl) trivial ?_ ?_
      rotate_left
      · (intro y hy; simp only [List.getElem_toArray, List.getElem_cons_zero]; go_simp; try with_reducible rfl)
      simp only [List.getElem_toArray, List.getElem_cons_zero, Act.put, List.setIfInBounds_toArray, List.set_cons_zero, List.set_cons_succ]
      refine ord_take (v := ?_) rfl (fun _ _ _ h => h) (by rfl) trivial ?_ ?_
      rotate_left
      · (intro y hy; simp only [List.getElem_toArray, List.getElem_cons_zero, List.getElem_cons_succ]; go_simp; try with_reducible rfl)
      simp only [List.getElem_toArray, List.getElem_cons_zero, List.getElem_cons_succ, Act.put, List.setIfInBounds_toArray, List.set_cons_zero, List.set_cons_succ]
      refine ord_take (v := ?_) rfl (fun _ _ _ h => h) (by rfl) trivial ?_ ?_
      rotate_left
      · (intro y hy; simp only [List.getElem_toArray, List.getElem_cons_zero, List.getElem_cons_succ]; go_simp; try with_reducible rfl)
      simp only [List.getElem_toArray, List.getElem_cons_zero, List.getElem_cons_succ, Act.put, List.setIfInBounds_toArray, List.set_cons_zero, List.set_cons_succ]
      refine ord_take (v := ?_) rfl (fun _ _ _ h => h) (by rfl) trivial ?_ ?_
      rotate_left
      · (intro y hy; simp only [List.getElem_toArray, List.getElem_cons_zero, List.getElem_cons_succ]; go_simp; try with_reducible rfl)
      simp only [List.getElem_toArray, List.getElem_cons_zero, List.getElem_cons_succ, Act.put, List.setIfInBounds_toArray, List.set_cons_zero, List.set_cons_succ]
      refine ord_take (v := ?_) rfl (fun _ _ _ h => h) (by rfl) trivial ?_ ?_
      rotate_left
      · (intro y hy; simp only [List.getElem_toArray, List.getElem_cons_zero, List.getElem_cons_succ]; go_simp; try with_reducible rfl)
      simp only [List.getElem_toArray, List.getElem_cons_zero, List.getElem_cons_succ, Act.put, List.setIfInBounds_toArray, List.set_cons_zero, List.set_cons_succ]
      refine ord_only rfl (fun K' hK => ?_)
      simp only [List.getElem_toArray, List.getElem_cons_zero, List.getElem_cons_succ]
      go_simp
      refine hK _ _ ⟨trivial, ?_⟩
      clear hK K'
      refine ord_only rfl (fun K' hK => ?_)
      simp only [List.getElem_toArray, List.getElem_cons_zero, List.getElem_cons_succ]
      go_simp
      refine CS.out.mono ?_
      rintro e w4 ⟨rfl, hb4, hd4⟩
      refine hK _ _ ⟨trivial, ?_⟩
      clear hK K'
      have B4 := hide hb4
      have D4 := hide hd4
      obtain ⟨a4, m4, c4, l4, hr4⟩ := hd4.rf
      have R4 := hide hr4
      have CP := hide (promised_any hd4.an.ac)
      clear hb4 hd4 hr4 o0 o1 o2 o3 o4
      refine ord_take (v := ?_) rfl (fun _ _ _ h => h) (by rfl) trivial ?_ ?_
      rotate_left
      · (intro y hy; simp only [List.getElem_toArray, List.getElem_cons_zero, List.getElem_cons_succ]; go_simp; try with_reducible rfl)
      simp only [List.getElem_toArray, List.getElem_cons_zero, List.getElem_cons_succ, Act.put, List.setIfInBounds_toArray, List.set_cons_zero, List.set_cons_succ]
      refine ord_take (v := ?_) rfl (fun _ _ _ h => h) (by rfl) trivial ?_ ?_
      rotate_left
      · (intro y hy; simp only [List.getElem_toArray, List.getElem_cons_zero, List.getElem_cons_succ]; go_simp; try with_reducible rfl)
      simp only [List.getElem_toArray, List.getElem_cons_zero, List.getElem_cons_succ, Act.put, List.setIfInBounds_toArray, List.set_cons_zero, List.set_cons_succ]
      refine ord_next (fun u => u.cell? ⟨R, 0, none⟩ = some (.int .i64 s'.pr) ∧ u.cell? ⟨R, 1, none⟩ = some (.int .i64 s'.pn) ∧ u.cell? ⟨R, 2, none⟩ = some (.int .i64 s'.first) ∧ u.cell? ⟨R, 3, none⟩ = some (.slice a4 m4 c4)) ?_
      refine ord_take (v := ?_) rfl (fun _ _ _ h => h) (by rfl) (And.intro R4.out.c0 (And.intro R4.out.c1 (And.intro R4.out.c2 R4.out.c3))) ?_ ?_
      rotate_left
      · (intro y hy; simp only [List.getElem_toArray, List.getElem_cons_zero, List.getElem_cons_succ]; go_simp; try with_reducible rfl)
      simp only [List.getElem_toArray, List.getElem_cons_zero, List.getElem_cons_succ, Act.put, List.setIfInBounds_toArray, List.set_cons_zero, List.set_cons_succ]
      refine ord_take (v := ?_) rfl (fun _ _ _ h => h) (by rfl) (And.intro R4.out.c0 (And.intro R4.out.c1 (And.intro R4.out.c2 R4.out.c3))) ?_ ?_
      rotate_left
      · (intro y hy; simp only [List.getElem_toArray, List.getElem_cons_zero, List.getElem_cons_succ]; go_simp; try with_reducible rfl)
      simp only [List.getElem_toArray, List.getElem_cons_zero, List.getElem_cons_succ, Act.put, List.setIfInBounds_toArray, List.set_cons_zero, List.set_cons_succ]
      refine ord_take (v := ?_) rfl (fun _ _ _ h => h) (by rfl) (And.intro R4.out.c0 (And.intro R4.out.c1 (And.intro R4.out.c2 R4.out.c3))) ?_ ?_
      rotate_left
      · (intro y hy; simp only [List.getElem_toArray, List.getElem_cons_zero, List.getElem_cons_succ]; go_simp; try with_reducible rfl)
      simp only [List.getElem_toArray, List.getElem_cons_zero, List.getElem_cons_succ, Act.put, List.setIfInBounds_toArray, List.set_cons_zero, List.set_cons_succ]
      refine ord_take (v := ?_) rfl (fun _ _ _ h => h) (by rfl) (And.intro R4.out.c0 (And.intro R4.out.c1 (And.intro R4.out.c2 R4.out.c3))) ?_ ?_
      rotate_left
      · (intro y hy; simp only [List.getElem_toArray, List.getElem_cons_zero, List.getElem_cons_succ]; go_simp; try with_reducible rfl)
      simp only [List.getElem_toArray, List.getElem_cons_zero, List.getElem_cons_succ, Act.put, List.setIfInBounds_toArray, List.set_cons_zero, List.set_cons_succ]
      refine ord_take (v := ?_) rfl (fun _ _ _ h => h) (by rfl) (And.intro R4.out.c0 (And.intro R4.out.c1 (And.intro R4.out.c2 R4.out.c3))) ?_ ?_
      rotate_left
      · (intro y hy; obtain ⟨y0, y1, y2, y3⟩ := hy; simp only [List.getElem_toArray, List.getElem_cons_zero, List.getElem_cons_succ]; go_simp; try with_reducible rfl)
      simp only [List.getElem_toArray, List.getElem_cons_zero, List.getElem_cons_succ, Act.put, List.setIfInBounds_toArray, List.set_cons_zero, List.set_cons_succ]
      refine ord_only rfl (fun K' hK => ?_)
      simp only [List.getElem_toArray, List.getElem_cons_zero, List.getElem_cons_succ]
      go_simp
      refine CP.out.mono ?_
      rintro e w5 ⟨rfl, hb5⟩
      have R5 := hide (R4.out.below hb5)
      refine hK _ _ ⟨(And.intro R5.out.c0 (And.intro R5.out.c1 (And.intro R5.out.c2 R5.out.c3))), ?_⟩
      clear hK K'
      have B5 := hide (B4.out.trans (hb5.mono (Nat.le_trans NW.out B4.out.size)))
      have D5 := hide (D4.out.below hb5)
      have CF := hide (first_any D5.out.an.ac)
      have CV := hide (votes_any D5.out.an.ac)
      clear hb5
      refine ord_take (v := ?_) rfl (fun _ _ _ h => h) (by rfl) (And.intro R5.out.c0 (And.intro R5.out.c1 (And.intro R5.out.c2 R5.out.c3))) ?_ ?_
      rotate_left
      · (intro y hy; simp only [List.getElem_toArray, List.getElem_cons_zero, List.getElem_cons_succ]; go_simp; try with_reducible rfl)
      simp only [List.getElem_toArray, List.getElem_cons_zero, List.getElem_cons_succ, Act.put, List.setIfInBounds_toArray, List.set_cons_zero, List.set_cons_succ]
      refine ord_take (v := ?_) rfl (fun _ _ _ h => h) (by rfl) (And.intro R5.out.c0 (And.intro R5.out.c1 (And.intro R5.out.c2 R5.out.c3))) ?_ ?_
      rotate_left
      · (intro y hy; simp only [List.getElem_toArray, List.getElem_cons_zero, List.getElem_cons_succ]; go_simp; try with_reducible rfl)
      simp only [List.getElem_toArray, List.getElem_cons_zero, List.getElem_cons_succ, Act.put, List.setIfInBounds_toArray, List.set_cons_zero, List.set_cons_succ]
      refine ord_take (v := ?_) rfl (fun _ _ _ h => h) (by rfl) (And.intro R5.out.c0 (And.intro R5.out.c1 (And.intro R5.out.c2 R5.out.c3))) ?_ ?_
      rotate_left
      · (intro y hy; simp only [List.getElem_toArray, List.getElem_cons_zero, List.getElem_cons_succ]; go_simp; try with_reducible rfl)
      simp only [List.getElem_toArray, List.getElem_cons_zero, List.getElem_cons_succ, Act.put, List.setIfInBounds_toArray, List.set_cons_zero, List.set_cons_succ]
      refine ord_take (v := ?_) rfl (fun _ _ _ h => h) (by rfl) (And.intro R5.out.c0 (And.intro R5.out.c1 (And.intro R5.out.c2 R5.out.c3))) ?_ ?_
      rotate_left
      · (intro y hy; simp only [List.getElem_toArray, List.getElem_cons_zero, List.getElem_cons_succ]; go_simp; try with_reducible rfl)
      simp only [List.getElem_toArray, List.getElem_cons_zero, List.getElem_cons_succ, Act.put, List.setIfInBounds_toArray, List.set_cons_zero, List.set_cons_succ]
      refine ord_take (v := ?_) rfl (fun _ _ _ h => h) (by rfl) (And.intro R5.out.c0 (And.intro R5.out.c1 (And.intro R5.out.c2 R5.out.c3))) ?_ ?_
      rotate_left
      · (intro y hy; simp only [List.getElem_toArray, List.getElem_cons_zero, List.getElem_cons_succ]; go_simp; try with_reducible rfl)
      simp only [List.getElem_toArray, List.getElem_cons_zero, List.getElem_cons_succ, Act.put, List.setIfInBounds_toArray, List.set_cons_zero, List.set_cons_succ]
      refine ord_take (v := ?_) rfl (fun _ _ _ h => h) (by rfl) (And.intro R5.out.c0 (And.intro R5.out.c1 (And.intro R5.out.c2 R5.out.c3))) ?_ ?_
      rotate_left
      · (intro y hy; simp only [List.getElem_toArray, List.getElem_cons_zero, List.getElem_cons_succ]; go_simp; try with_reducible rfl)
      simp only [List.getElem_toArray, List.getElem_cons_zero, List.getElem_cons_succ, Act.put, List.setIfInBounds_toArray, List.set_cons_zero, List.set_cons_succ]
      refine ord_take (v := ?_) rfl (fun _ _ _ h => h) (by rfl) (And.intro R5.out.c0 (And.intro R5.out.c1 (And.intro R5.out.c2 R5.out.c3))) ?_ ?_
      rotate_left
      · (intro y hy; simp only [List.getElem_toArray, List.getElem_cons_zero, List.getElem_cons_succ]; go_simp; try with_reducible rfl)
      simp only [List.getElem_toArray, List.getElem_cons_zero, List.getElem_cons_succ, Act.put, List.setIfInBounds_toArray, List.set_cons_zero, List.set_cons_succ]
      refine ord_take (v := ?_) rfl (fun _ _ _ h => h) (by rfl) (And.intro R5.out.c0 (And.intro R5.out.c1 (And.intro R5.out.c2 R5.out.c3))) ?_ ?_
      rotate_left
      · (intro y hy; obtain ⟨y0, y1, y2, y3⟩ := hy; simp only [List.getElem_toArray, List.getElem_cons_zero, List.getElem_cons_succ]; go_simp; try with_reducible rfl)
      simp only [List.getElem_toArray, List.getElem_cons_zero, List.getElem_cons_succ, Act.put, List.setIfInBounds_toArray, List.set_cons_zero, List.set_cons_succ]
      refine ord_only rfl (fun K' hK => ?_)
      simp only [List.getElem_toArray, List.getElem_cons_zero, List.getElem_cons_succ]
      go_simp
      refine CF.out.mono ?_
      rintro e w6 ⟨rfl, e6⟩
      rw [e6]
      refine hK _ _ ⟨(And.intro R5.out.c0 (And.intro R5.out.c1 (And.intro R5.out.c2 R5.out.c3))), ?_⟩
      clear hK K' e6
      refine ord_take (v := ?_) rfl (fun _ _ _ h => h) (by rfl) (And.intro R5.out.c0 (And.intro R5.out.c1 (And.intro R5.out.c2 R5.out.c3))) ?_ ?_
      rotate_left
      · (intro y hy; simp only [List.getElem_toArray, List.getElem_cons_zero, List.getElem_cons_succ]; go_simp; try with_reducible rfl)
      simp only [List.getElem_toArray, List.getElem_cons_zero, List.getElem_cons_succ, Act.put, List.setIfInBounds_toArray, List.set_cons_zero, List.set_cons_succ]
      refine ord_take (v := ?_) rfl (fun _ _ _ h => h) (by rfl) (And.intro R5.out.c0 (And.intro R5.out.c1 (And.intro R5.out.c2 R5.out.c3))) ?_ ?_
      rotate_left
      · (intro y hy; simp only [List.getElem_toArray, List.getElem_cons_zero, List.getElem_cons_succ]; go_simp; try with_reducible rfl)
      simp only [List.getElem_toArray, List.getElem_cons_zero, List.getElem_cons_succ, Act.put, List.setIfInBounds_toArray, List.set_cons_zero, List.set_cons_succ]
      refine ord_take (v := ?_) rfl (fun _ _ _ h => h) (by rfl) (And.intro R5.out.c0 (And.intro R5.out.c1 (And.intro R5.out.c2 R5.out.c3))) ?_ ?_
      rotate_left
      · (intro y hy; simp only [List.getElem_toArray, List.getElem_cons_zero, List.getElem_cons_succ]; go_simp; try with_reducible rfl)
      simp only [List.getElem_toArray, List.getElem_cons_zero, List.getElem_cons_succ, Act.put, List.setIfInBounds_toArray, List.set_cons_zero, List.set_cons_succ]
      refine ord_take (v := ?_) rfl (fun _ _ _ h => h) (by rfl) (And.intro R5.out.c0 (And.intro R5.out.c1 (And.intro R5.out.c2 R5.out.c3))) ?_ ?_
      rotate_left
      · (intro y hy; simp only [List.getElem_toArray, List.getElem_cons_zero, List.getElem_cons_succ]; go_simp; try with_reducible rfl)
      simp only [List.getElem_toArray, List.getElem_cons_zero, List.getElem_cons_succ, Act.put, List.setIfInBounds_toArray, List.set_cons_zero, List.set_cons_succ]
      refine ord_take (v := ?_) rfl (fun _ _ _ h => h) (by rfl) (And.intro R5.out.c0 (And.intro R5.out.c1 (And.intro R5.out.c2 R5.out.c3))) ?_ ?_
      rotate_left
      · (intro y hy; simp only [List.getElem_toArray, List.getElem_cons_zero, List.getElem_cons_succ]; go_simp; try with_reducible rfl)
      simp only [List.getElem_toArray, List.getElem_cons_zero, List.getElem_cons_succ, Act.put, List.setIfInBounds_toArray, List.set_cons_zero, List.set_cons_succ]
      refine ord_take (v := ?_) rfl (fun _ _ _ h => h) (by rfl) (And.intro R5.out.c0 (And.intro R5.out.c1 (And.intro R5.out.c2 R5.out.c3))) ?_ ?_
      rotate_left
      · (intro y hy; simp only [List.getElem_toArray, List.getElem_cons_zero, List.getElem_cons_succ]; go_simp; try with_reducible rfl)
      simp only [List.getElem_toArray, List.getElem_cons_zero, List.getElem_cons_succ, Act.put, List.setIfInBounds_toArray, List.set_cons_zero, List.set_cons_succ]
      refine ord_take (v := ?_) rfl (fun _ _ _ h => h) (by rfl) (And.intro R5.out.c0 (And.intro R5.out.c1 (And.intro R5.out.c2 R5.out.c3))) ?_ ?_
      rotate_left
      · (intro y hy; simp only [List.getElem_toArray, List.getElem_cons_zero, List.getElem_cons_succ]; go_simp; try with_reducible rfl)
      simp only [List.getElem_toArray, List.getElem_cons_zero, List.getElem_cons_succ, Act.put, List.setIfInBounds_toArray, List.set_cons_zero, List.set_cons_succ]
      refine ord_take (v := ?_) rfl (fun _ _ _ h => h) (by rfl) (And.intro R5.out.c0 (And.intro R5.out.c1 (And.intro R5.out.c2 R5.out.c3))) ?_ ?_
      rotate_left
      · (intro y hy; obtain ⟨y0, y1, y2, y3⟩ := hy; simp only [List.getElem_toArray, List.getElem_cons_zero, List.getElem_cons_succ]; go_simp; try with_reducible rfl)
      simp only [List.getElem_toArray, List.getElem_cons_zero, List.getElem_cons_succ, Act.put, List.setIfInBounds_toArray, List.set_cons_zero, List.set_cons_succ]
      refine ord_only rfl (fun K' hK => ?_)
      simp only [List.getElem_toArray, List.getElem_cons_zero, List.getElem_cons_succ]
      go_simp
      refine CV.out.mono ?_
      rintro e w7 ⟨a7, m7, c7, l7, rfl, hb7, ht7, hl7⟩
      have R7 := hide (R5.out.below hb7)
      refine hK _ _ ⟨(And.intro R7.out.c0 (And.intro R7.out.c1 (And.intro R7.out.c2 R7.out.c3))), ?_⟩
      clear hK K'
      have B7 := hide (B5.out.trans (hb7.mono (Nat.le_trans NW.out B5.out.size)))
      have D7 := hide (D5.out.below hb7)
      have SH := hide (told_short ht7 hl7 D5.out.an.ac.ok)
      have CE := hide (votes_vl ht7.vl R7.out.vl (hl7.trans R7.out.vs) SH.out.1 SH.out.2)
      clear hb7 ht7 hl7
      refine ord_only rfl (fun K' hK => ?_)
      simp only [List.getElem_toArray, List.getElem_cons_zero, List.getElem_cons_succ]
      go_simp
      refine CE.out.mono ?_
      rintro e w8 ⟨rfl, hb8⟩
      have R8 := hide (R7.out.below hb8)
      refine hK _ _ ⟨(And.intro R8.out.c0 (And.intro R8.out.c1 (And.intro R8.out.c2 R8.out.c3))), ?_⟩
      clear hK K'
      have B8 := hide (B7.out.trans (hb8.mono (Nat.le_trans NW.out B7.out.size)))
      have D8 := hide (D7.out.below hb8)
      clear hb8
      refine ord_take (v := ?_) rfl (fun _ _ _ h => h) (by rfl) (And.intro R8.out.c0 (And.intro R8.out.c1 (And.intro R8.out.c2 R8.out.c3))) ?_ ?_
      rotate_left
      · (intro y hy; simp only [List.getElem_toArray, List.getElem_cons_zero, List.getElem_cons_succ]; go_simp; try with_reducible rfl)
      simp only [List.getElem_toArray, List.getElem_cons_zero, List.getElem_cons_succ, Act.put, List.setIfInBounds_toArray, List.set_cons_zero, List.set_cons_succ]
      refine ord_take (v := ?_) rfl (fun _ _ _ h => h) (by rfl) (And.intro R8.out.c0 (And.intro R8.out.c1 (And.intro R8.out.c2 R8.out.c3))) ?_ ?_
      rotate_left
      · (intro y hy; simp only [List.getElem_toArray, List.getElem_cons_zero, List.getElem_cons_succ]; go_simp; try with_reducible rfl)
      simp only [List.getElem_toArray, List.getElem_cons_zero, List.getElem_cons_succ, Act.put, List.setIfInBounds_toArray, List.set_cons_zero, List.set_cons_succ]
      refine ord_done ?_
      go_wp2_with fail
      go_roundw
      case rel => exact ⟨k + 1, s', by omega, by go_num, HB.out.trans ((Below.refl _ _).drew.trans B8.out), D8⟩
      case measure => simp [intOf]; omega
    · obtain rfl : k = len := by omega
      clear hlt hk
      go_wp2_with fail
      go_ret
      exact ⟨rfl, HB.out⟩

set_option maxRecDepth 100000 in
theorem lifted (os : Os) (started : os.Started) (H : Type) (enc : TypeId × Value → H) :
    ReturnsInHanded {} Try.checked os 3 .any (Rows.acceptPlaysSpec.pre6 enc Try.prog Try.f3 Rows.acceptPlaysRow.domain false) (Rows.acceptPlaysSpec.post enc Try.prog Try.f3 false true false false) := by
  refine returnsInHanded_of_change_sized (C := Try.checked) own started (by kernel_rfl) Try.func3
    (ChangeSpec.witness6 (enc := enc) (C := Try.checked) false ⟨#[], #[.slice none 0 0], []⟩ 8 (by kernel_rfl) (by kernel_rfl) (by kernel_rfl) (by kernel_rfl)) ?_
  intro W base args ds gs before hval0 hW hcnd hsz0 _
  have hsz : (DataW.weightsEach Try.prog (Try.f3.params.toList ++ Rows.acceptPlaysSpec.plain.varTypes Try.prog) (ds ++ gs)).all (· ≤ reachBytes) = true := hsz0
  have hval : ∀ (j : Nat) t v, Try.f3.params[j]? = some t → args[j]? = some v → Value.okWide Try.prog W .any base t v := hval0
  have hW' := hW
  obtain ⟨p, q, hA0, hV, rfl, hfz, hnd⟩ := hW
  have hA : DataW.TrodAll enc Try.prog W 0 (fun _ => true) true Try.f3.params.toList args.toList ds p := hA0
  rw [Try.params3] at hA hval hsz
  obtain ⟨v0, vs0, d0, ds0, p0, q0, hargs, rfl, rfl, h0, r0⟩ := trodAll_cons hA
  obtain ⟨rfl, rfl, rfl⟩ := trodAll_nil r0
  obtain rfl : args = #[v0] := by cases args; simp_all
  obtain ⟨rfl, rfl⟩ := trodVars_none hV
  have lt0 : ∀ x ∈ p0, x.block < W.heap.size := by obtain ⟨m, hm⟩ := h0; exact DataW.trod_lt m _ _ _ hm
  obtain ⟨a, len, cap, os, rfl, ho⟩ := open_ops_held (hval 0 22 v0 rfl rfl) h0 (fun n hn => by have h := List.all_eq_true.1 hsz n (DataW.weights_mem_each (j := 0) rfl rfl n hn); simpa using h)
  clear hA0 hval0
  refine (walk ho).mono fun e W' ⟨he, bel⟩ => ?_
  subst he
  exact ⟨_, rfl, _, _, _, [], _, [], hW', trodAll_mk1 (shut_bool Try.underlying4 _), (trodAll_cons_mk (Below.trod laidOut (by kernel_rfl) (of_decide_eq_true (by kernel_rfl)) h0 bel lt0) trodAll_mk0), rfl, bel.frame _, fun h => by cases h⟩

theorem over : Rows.acceptPlaysRow.holds Try.pinned (OpenSpec.ofChange Rows.acceptPlaysSpec) :=
  OpenClaim.holds_of_wide 3 Try.f3 rfl rfl rfl rfl rfl rfl rfl ⟨rfl, rfl, rfl, rfl, rfl⟩ rfl rfl rfl rfl rfl (by kernel_rfl) Try.func3 (by kernel_rfl)
    (of_decide_eq_true (by kernel_rfl)) (by unfold Func.isWrapper; first | (rw [if_pos (by decide +kernel)]; kernel_rfl) | (rw [if_neg (by decide +kernel)]; exact ⟨rfl, rfl⟩))
    (fun os started H enc _ => lifted os started H enc)

theorem proved : Rows.AcceptPlaysSaid := over
#print axioms proved
end AcceptPlays
theorem acceptPlays_holds : Rows.AcceptPlaysSaid := AcceptPlays.proved
end Go.Proofs.Ytdnniokpkamjjaa
