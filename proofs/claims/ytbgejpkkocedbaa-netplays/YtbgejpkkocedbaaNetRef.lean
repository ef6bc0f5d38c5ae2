/- The document's net: New, is, apart, Cut. No condition but that there is memory. -/
import Derived.Test.YtbgejpkkocedbaaNetRefMem
import Derived.Test.YtbgejpkkocedbaaNetCut
namespace Go.Proofs.Ytbgejpkkocedbaa
open Go.ChangeShapes Go.WideShapes Go.ChangeAt Go.RowKit B8 Nm
set_option linter.unusedVariables false

theorem rt_new (w : World) {n : Nat} (h1 : 1 ≤ n) (h2 : n ≤ 5) : Rt (w.alloc (.cells #[.int .i64 n, .slice none 0 0, .slice none 0 0] 42)) ⟨w.heap.size, none, 0, 0, [], none, 0, 0⟩ (newS n) := by
  have g := heap_alloc_new w (.cells #[.int .i64 n, .slice none 0 0, .slice none 0 0] 42)
  refine ⟨?_, ?_, ?_, fun o => by (show World.frozen? _ ⟨w.heap.size, o, none⟩ = false; unfold World.frozen?; rw [g]; simp), World.ownsRow_nil _ _ _ _, World.ownsRow_nil _ _ _ _, rfl, rfl, rfl, by simp, by simp [Value.ownBlock], by simp [Value.ownBlock], ?_, newS_ok h1 h2⟩
  · show World.cell? _ ⟨w.heap.size, 0, none⟩ = _
    rw [cell_of_row _ _ 0 _ _ _ g]; rfl
  · show World.cell? _ ⟨w.heap.size, 1, none⟩ = _
    rw [cell_of_row _ _ 1 _ _ _ g]; rfl
  · show World.cell? _ ⟨w.heap.size, 2, none⟩ = _
    rw [cell_of_row _ _ 2 _ _ _ g]; rfl
  · rintro k _ ⟨p, hp, _⟩
    simp at hp
theorem rnew_yes (n : Nat) (h1 : 1 ≤ n) (h2 : n ≤ 5) (w : World) :
    Calls Try.prog 10 #[.int .i64 n] w fun e w' => ∃ L, e = .returned (.pointer (some ⟨L.N, 0, none⟩)) ∧ Below w.heap.size w w' ∧ Rt w' L (newS n) ∧ (∀ k, L.M k → w.heap.size ≤ k) ∧ ∀ k, ¬ L.R k := by
  have K := hide (rt_new w h1 h2)
  have b1 : (1 : Int) ≤ n := by omega
  have b2 : (n : Int) ≤ 5 := by omega
  clear h1 h2
  go_enter Try.func10, Try.ntmps10
  go_wp2_with fail
  go_ret
  refine ⟨_, rfl, below_alloc (Below.refl _ _) _, K.out, fun k hk => ?_, fun k hk => ?_⟩
  · rcases hk with hk | hk | hk
    · exact Nat.le_of_eq hk.symm
    · simp [Value.ownBlock] at hk
    · simp [Value.ownBlock] at hk
  · obtain ⟨p, hp, _⟩ := hk
    simp at hp
theorem rnew_no (n : Int) (h : n < 1 ∨ 5 < n) (w : World) :
    Calls Try.prog 10 #[.int .i64 n] w fun e w' => e = .returned (.pointer none) ∧ w' = w := by
  rcases h with h | h
  · go_enter Try.func10, Try.ntmps10
    go_wp2_with fail
    go_ret
    exact ⟨rfl, rfl⟩
  · have b1 : (1 : Int) ≤ n := by omega
    go_enter Try.func10, Try.ntmps10
    go_wp2_with fail
    go_ret
    exact ⟨rfl, rfl⟩
theorem ris {w : World} {L : RLay} {s : Ns} (h : Rt w L s) (x : Int) :
    Calls Try.prog 44 #[.pointer (some ⟨L.N, 0, none⟩), .int .i64 x] w fun e w' => e = .returned (.bool (hasB s x)) ∧ w' = w := by
  have c0 := h.c0
  clear h
  unfold hasB
  by_cases h1 : (1 : Int) ≤ x
  · by_cases h2 : x ≤ (s.n : Int)
    · have e1 : (decide (1 ≤ x ∧ x ≤ (s.n : Int))) = true := by simp [h1, h2]
      rw [e1]
      go_enter Try.func44, Try.ntmps44
      go_wp2_with fail
      go_ret
      exact ⟨by simp, rfl⟩
    · have e1 : (decide (1 ≤ x ∧ x ≤ (s.n : Int))) = false := by simp [h2]
      rw [e1]
      go_enter Try.func44, Try.ntmps44
      go_wp2_with fail
      go_ret
      exact ⟨by simp, rfl⟩
  · have e1 : (decide (1 ≤ x ∧ x ≤ (s.n : Int))) = false := by simp [h1]
    rw [e1]
    go_enter Try.func44, Try.ntmps44
    go_wp2_with fail
    go_ret
    exact ⟨by simp, rfl⟩
theorem int_eq (d : Nat) (x a : Int) (w : World) : (Op.equalIn (d + 1) 3 (.int .i64 x) (.int .i64 a)).run Try.prog w = .ok (decide (x = a)) w := by
  simp only [Op.equalIn, Sem.run_bind, run_underlying Try.underlying3, Result.andThen_ok]
  simp
  rfl
theorem pair_eq' (d : Nat) (x y a b : Int) (w : World) : (Op.equalIn (d + 2) 80 (.agg #[.int .i64 x, .int .i64 y]) (.agg #[.int .i64 a, .int .i64 b])).run Try.prog w = .ok (decide ((x, y) = (a, b))) w := by
  obtain ⟨i, hi⟩ : ∃ i, Try.prog.info? 3 = some i := ⟨_, rfl⟩
  refine Eq.trans (run_equalIn_array (P := Try.prog) (w := w) (d + 1) #[.int .i64 x, .int .i64 y] #[.int .i64 a, .int .i64 b] Try.underlying80 hi) ?_
  have e2 : Try.prog.cellsOf 3 = 1 := rfl
  have hp : Try.prog.plainKey 3 = true := rfl
  have p0 : ∀ u v : Int, (part 3 #[.int .i64 u, .int .i64 v] (0 * 1)).run Try.prog w = .ok (.int .i64 u) w := fun u v => run_part_plain w hp rfl
  have p1 : ∀ u v : Int, (part 3 #[.int .i64 u, .int .i64 v] (1 * 1)).run Try.prog w = .ok (.int .i64 v) w := fun u v => run_part_plain w hp rfl
  rw [e2, show List.range 2 = [0, 1] from rfl]
  simp only [Op.eqItems, Sem.run_bind, p0, int_eq, Result.andThen_ok]
  by_cases h1 : x = a
  · by_cases h2 : y = b
    · simp [h1, h2, p1, int_eq]
    · simp [h1, h2, p1, int_eq]
  · simp [h1]
theorem pair_eq (x y a b : Int) (w : World) : (Op.equalIn 10000 80 (.agg #[.int .i64 x, .int .i64 y]) (.agg #[.int .i64 a, .int .i64 b])).run Try.prog w = .ok (decide ((x, y) = (a, b))) w := pair_eq' 9998 x y a b w
theorem any_take (l : List (Int × Int)) (f : Int × Int → Bool) {k : Nat} {p : Int × Int} (hp : l[k]? = some p) : (l.take (k + 1)).any f = ((l.take k).any f || f p) := by
  have hk := (List.getElem?_eq_some_iff.1 hp).1
  rw [List.take_succ_eq_append_getElem hk, List.any_append, (List.getElem?_eq_some_iff.1 hp).2]
  simp
theorem any_hit (l : List (Int × Int)) (f : Int × Int → Bool) {k : Nat} {p : Int × Int} (hp : l[k]? = some p) (h : f p = true) : l.any f = true := List.any_eq_true.2 ⟨p, List.mem_of_getElem? hp, h⟩
set_option maxRecDepth 100000 in
theorem rapart {w : World} {L : RLay} {s : Ns} (h : Rt w L s) (hm : L.cm ≤ 9000000000000) (a b : Int) :
    Calls Try.prog 45 #[.pointer (some ⟨L.N, 0, none⟩), .int .i64 a, .int .i64 b] w fun e w' => e = .returned (.bool (apartB s a b)) ∧ w' = w := by
  have c2 := h.c2
  have H := hide h
  clear h
  go_enter Try.func45, Try.ntmps45
  go_wp2_with fail
  go_loopw [7] (fun i wr => wr = w ∧ ∃ k : Nat, k ≤ L.cm ∧ i = .int .i64 k ∧ Hid ((s.cuts.take k).any (fun p => decide (p = (a, b)) || decide (p = (b, a))) = false)) (fun i _ => L.cm - (intOf i).toNat)
  case atStart => exact ⟨rfl, 0, Nat.zero_le _, rfl, rfl⟩
  case round =>
    obtain ⟨rfl, k, hk, rfl, HA⟩ := hrel
    by_cases hlt : k < L.cm
    · have hkl : k < s.cuts.length := by rw [← H.out.clen]; exact hlt
      obtain ⟨p, hp⟩ : ∃ p, s.cuts[k]? = some p := ⟨s.cuts[k], by simp [hkl]⟩
      have row := H.out.crow
      obtain ⟨g, ea⟩ : ∃ g, L.ca = some ⟨g, 0, none⟩ := by
        obtain ⟨_, ⟨e1, e2⟩ | ⟨g, cp, cur, e1, _⟩⟩ := id row
        · omega
        · exact ⟨g, by simpa using (Value.slice.inj e1).1⟩
      rw [ea] at row
      rw [ea] at c2
      have q0 : wr.cell? ⟨g, k * 2, none⟩ = some (.int .i64 p.1) := by rw [row.cellAt (k * 2) (by omega)]; exact (ccells_at _ _ _ hp).1
      have q1 : wr.cell? ⟨g, k * 2 + 1, none⟩ = some (.int .i64 p.2) := by rw [row.cellAt (k * 2 + 1) (by omega)]; exact (ccells_at _ _ _ hp).2
      have i1 : (k : Int) < (L.cm : Int) := by omega
      have i2 : (0 : Int) ≤ (k : Int) := by omega
      have HP := hide hp
      obtain ⟨x, y⟩ := p
      dsimp only at q0 q1
      clear row hp hkl
      have r1 := pair_eq x y a b wr
      have r2 := pair_eq x y b a wr
      by_cases h1 : (x, y) = (a, b)
      · have HT : Hid (apartB s a b = true) := any_hit s.cuts _ HP.out (by simp [h1])
        rw [decide_eq_true h1] at r1
        clear h1 r2
        go_wp2_with fail
        go_ret
        exact ⟨by rw [HT.out]; rfl, rfl⟩
      · by_cases h2 : (x, y) = (b, a)
        · have HT : Hid (apartB s a b = true) := any_hit s.cuts _ HP.out (by simp [h2])
          rw [decide_eq_true h2] at r2
          rw [decide_eq_false h1] at r1
          clear h1 h2
          go_wp2_with fail
          go_ret
          exact ⟨by rw [HT.out]; rfl, rfl⟩
        · have HT : Hid ((s.cuts.take (k + 1)).any (fun p => decide (p = (a, b)) || decide (p = (b, a))) = false) := by
            show _ = _
            rw [any_take _ _ HP.out, HA.out]
            simp only [decide_eq_false h1, decide_eq_false h2]
            rfl
          rw [decide_eq_false h2] at r2
          rw [decide_eq_false h1] at r1
          clear h1 h2
          go_wp2_with fail
          go_roundw
          case rel => exact ⟨trivial, k + 1, by omega, by go_num, HT⟩
          case measure => simp [intOf]; omega
    · obtain rfl : k = L.cm := by omega
      go_wp2_with fail
      go_ret
      refine ⟨?_, rfl⟩
      have h1 := HA.out
      rw [H.out.clen, List.take_length] at h1
      rw [show apartB s a b = false from h1]
      rfl
end Go.Proofs.Ytbgejpkkocedbaa
