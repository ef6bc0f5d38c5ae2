/- What the landed writer does with ints, texts, bytes, a flag, a uint32, an Errno, a count. No condition but the size. -/
import Derived.Test.YtfdejkfbjmkngabWireW
namespace Go.Proofs.Ytfdejkfbjmkngab
open Go.ChangeShapes Go.WideShapes Go.ChangeAt Go.RowKit B8 Cm Wm
set_option linter.unusedVariables false

section
variable {w w1 : World} {B W : Nat} {fs : List Fld}
theorem Wst.lt {v : Value} {xs : List Int} {long : Bool} (h : Wst w B W fs v xs long) : W < w.heap.size := World.block_lt_of_cell? w _ h.c0
theorem WS.lt (h : WS w B W fs) : W < w.heap.size := by obtain ⟨v, xs, long, h⟩ := h; exact h.lt
theorem WS.below (h : WS w B W fs) (hb : Below w.heap.size w w1) : WS w1 B W fs := by
  obtain ⟨v, xs, long, h⟩ := h
  have hl := h.lt
  exact ⟨v, xs, long, (hb.cell (p := ⟨W, 0, none⟩) hl).trans h.c0, (hb.cell (p := ⟨W, 1, none⟩) hl).trans h.c1, (hb.frozen (p := ⟨W, 0, none⟩) hl).trans h.f0, (hb.frozen (p := ⟨W, 1, none⟩) hl).trans h.f1, row_below h.row hb, h.wf, h.some_ok, h.some_no, h.apart, h.size, h.home⟩
theorem stq_below (hb : Below w.heap.size w w1) (hl : W < w.heap.size) : Stq (Wown W) w w1 :=
  ⟨hb.os, hb.tape, hb.output, hb.size, fun k hk _ => hb.block k hk, fun k hk => by
    rcases hk with hk | ⟨v, h1, h2⟩
    · exact .inl (.inl hk)
    · rw [hb.cell (p := ⟨W, 0, none⟩) hl] at h1
      exact .inl (.inr ⟨v, h1, h2⟩)⟩
theorem below_drew1 (w : World) : Below w.heap.size w w.drew := (Below.refl _ _).drew
theorem below_alloc1 (w : World) (o : Obj) : Below w.heap.size w (w.alloc o) := Below.alloc (Below.refl _ _) (Nat.le_refl _) o
theorem Stq.cell (h : Stq (Wown W) w w1) {b o : Nat} {v : Value} (hc : w.cell? ⟨b, o, none⟩ = some v) (hn : ¬ Wown W w b) : w1.cell? ⟨b, o, none⟩ = some v :=
  (World.cell?_of_block (w := w) (h.block b (World.block_lt_of_cell? w _ hc) hn)).trans hc
theorem WS.base (h : WS w B W fs) : ∀ k, Wown W w k → B ≤ k ∧ k < w.heap.size := by
  obtain ⟨v, xs, long, h⟩ := h
  intro k hk
  rcases hk with rfl | ⟨u, h1, h2⟩
  · exact ⟨h.home, h.lt⟩
  · rw [h.c0] at h1
    obtain rfl := Option.some.inj h1
    exact h.row.lt k h2
end

theorem atom_int {w : World} {P : Nat → Prop} {v : Value} {x : Atom} (h : AtomV w P v x) (hk : x.k = 0) : v = .int .i64 x.z ∧ -9223372036854775808 ≤ x.z ∧ x.z ≤ 9223372036854775807 := by
  rcases h with h | h | h | h | h
  · exact h.2
  all_goals exact absurd hk (by have := h.1; omega)
theorem fldA_int {x : Atom} (hk : x.k = 0) : fldA x = ⟨numB (zig x.z), true⟩ := by
  unfold fldA atomB atomFit
  rw [hk]
  rfl
theorem take_flds (xs : List Atom) (j : Nat) (x : Atom) (hx : xs[j]? = some x) (fs : List Fld) : fs ++ flds (xs.take (j + 1)) = fs ++ flds (xs.take j) ++ [fldA x] := by
  rw [List.take_add_one, hx, flds_append, List.append_assoc]
  rfl

theorem wints_any {w : World} {B W : Nat} {fs : List Fld} {L M o n cp : Nat} {xs : List Atom} {P : Nat → Prop} (h : WS w B W fs) (hB : B ≤ w.heap.size)
    (hf : FlatAt w P M o xs) (hk : ∀ x ∈ xs, x.k = 0) (hn : xs.length = n) (hm : n ≤ 1000000) (hM : ¬ Wown W w M) (hL : ¬ Wown W w L)
    (hp : ∀ j, j < n → w.cell? ⟨L, j, none⟩ = some (.pointer (some ⟨M, o + j, none⟩))) :
    Calls Try.prog 105 #[.pointer (some ⟨W, 0, none⟩), .slice (some ⟨L, 0, none⟩) n cp] w fun e w' => e = .returned (.tuple #[]) ∧ WS w' B W (fs ++ flds xs) ∧ Stq (Wown W) w w' := by
  have H := hide h
  have HB := hide hB
  have HF := hide hf
  have HK := hide hk
  have HN := hide hn
  have HM := hide hM
  have HL := hide hL
  have HP := hide hp
  clear h hB hf hk hn hM hL hp
  go_enter Try.func105, Try.ntmps105
  go_wp2_with fail
  go_loopw [8] (fun i wr => ∃ j : Nat, j ≤ n ∧ i = .int .i64 j ∧ Hid (WS wr B W (fs ++ flds (xs.take j))) ∧ Hid (Stq (Wown W) w wr)) (fun i _ => n - (intOf i).toNat)
  case atStart => exact ⟨0, Nat.zero_le _, rfl, by show WS _ _ _ _; rw [List.take_zero, flds_nil, List.append_nil]; exact H.out, Stq.refl _ _⟩
  case round =>
    obtain ⟨j, hj, rfl, HW, HS⟩ := hrel
    by_cases hlt : j < n
    · have hi : (j : Int) < (n : Int) := by omega
      have c1 := HS.out.cell (HP.out j hlt) HL.out
      have hlx : j < xs.length := by rw [HN.out]; exact hlt
      obtain ⟨v, h1, h2⟩ := HF.out j _ (List.getElem?_eq_getElem hlx)
      have hk0 := HK.out _ (List.getElem_mem hlx)
      obtain ⟨ev, b1, b2⟩ := atom_int h2 hk0
      subst ev
      have c2 := HS.out.cell h1 HM.out
      have HT := hide (take_flds xs j _ (List.getElem?_eq_getElem hlx) fs)
      have HA := hide (fldA_int hk0)
      obtain ⟨z, ez⟩ : ∃ z, z = xs[j].z := ⟨_, rfl⟩
      rw [← ez] at b1 b2 c2 HA
      have CI := hide (cintw_any z wr b1 b2)
      have WF := hide (cnumB_wfs (zig z) (zig_lt z b1 b2))
      clear ez h2 hk0 h1
      go_wp2_with fail
      refine CI.out.mono ?_
      rintro e w1 ⟨y, rfl, hown, hb⟩
      obtain ⟨a, c, rfl, q⟩ := sq_of_row rfl WF.out hown
      have hlen := (numB_length (zig z)).2
      have W1 := HW.out.below hb
      have hap : ∀ b off, a = some ⟨b, off, none⟩ → 0 < (numB (zig z)).length → b ≠ W := by
        intro b off e _
        obtain ⟨am, cm, em, mm⟩ := mine_of_row rfl WF.out hown
        simp only [Value.slice.injEq] at em
        obtain ⟨rfl, _, rfl⟩ := em
        obtain ⟨g, cur, e1, e2, _⟩ := mm.2 _ e
        cases e1
        have := HW.out.lt
        omega
      have CP := hide (wput_any W1 (Nat.le_trans HB.out (Nat.le_trans HS.out.size hb.size)) q (by omega) hap)
      have HB1 := hide hb
      clear hown q W1 hap hlen hb CI
      go_wp2_with fail
      refine CP.out.mono ?_
      rintro e w2 ⟨rfl, hw2, hs2⟩
      have HW2 := hide hw2
      have HS2 := hide hs2
      clear hw2 hs2 CP
      go_wp2_with fail
      go_roundw
      case rel =>
        refine ⟨j + 1, by omega, by go_num, ?_, HS.out.trans ((stq_below HB1.out HW.out.lt).trans HS2.out)⟩
        show WS _ _ _ _
        rw [HT.out, HA.out]
        exact HW2.out
      case measure => simp [intOf]; omega
    · go_wp2_with fail
      refine bodyPost_end (results_none rfl _ _ _) rfl ?_
      refine ⟨rfl, ?_, HS.out⟩
      have := HW.out
      rw [List.take_of_length_le (by rw [HN.out]; omega)] at this
      exact this
end Go.Proofs.Ytfdejkfbjmkngab
