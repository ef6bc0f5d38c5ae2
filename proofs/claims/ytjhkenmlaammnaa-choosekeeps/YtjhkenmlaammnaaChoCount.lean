/- What Count of package ballot returns, at the landed code. No condition but that the list's bytes are within reach. -/
import Derived.Test.YtjhkenmlaammnaaChoCntMath
namespace Go.Proofs.Ytjhkenmlaammnaa
open Go.ChangeShapes Go.WideShapes Go.ChangeAt Go.RowKit I8
set_option linter.unusedVariables false

theorem cell_row {w : World} {b o : Nat} {cs : Array Value} {t : TypeId} {v : Value} (h : w.heap[b]? = some (.cells cs t (0, 0))) (hv : cs[o]? = some v) : w.cell? ⟨b, o, none⟩ = some v := by
  rw [cell_of_row _ _ _ _ _ _ h]; exact hv
/-- a round of Count behind k numbers -/
structure CtR (w : World) (nodes : Int) (l : List Int) (wr : World) : Prop where
  below : Below w.heap.size w wr
  row : wr.heap[w.heap.size]? = some (.cells (nrow nodes l) 111 (0, 0))
theorem nrow_at {nodes : Int} {l : List Int} {m : Nat} (h : m ≤ 5) : (nrow nodes l)[m]? = some (.bool (nb nodes l m)) := by
  match m, h with
  | 0, _ => rfl
  | 1, _ => rfl
  | 2, _ => rfl
  | 3, _ => rfl
  | 4, _ => rfl
  | 5, _ => rfl
theorem CtR.put {w wr : World} {nodes : Int} {l l' : List Int} {m : Nat} (h : CtR w nodes l wr) (e : nrow nodes l' = (nrow nodes l).setIfInBounds m (.bool true)) : CtR w nodes l' (wr.setCell ⟨w.heap.size, m, none⟩ (.bool true)) :=
  ⟨h.below.setCell (Nat.le_refl _) _, by rw [e]; simp [World.setCell, Array.getElem?_modify, h.row]⟩
set_option maxHeartbeats 1000000 in
theorem count_in {w : World} {a : Option Addr} {len cap : Nat} {zs : List Int} (nodes : Int) (hn : 1 ≤ nodes ∧ nodes ≤ 5) (h : Sq w a len cap zs) (hr : len * 8 ≤ 140737488351232) :
    Calls Try.prog 39 #[.int .i64 nodes, .slice a len cap] w fun e w' => e = .returned (.int .i64 (cn nodes zs)) ∧ Below w.heap.size w w' := by
  have HS := hide h
  have hm := hide (fun w => among_lit (amongB_true hn) w)
  have HN := hide hn
  have HL := hide h.length
  clear h hn
  go_enter Try.func39, Try.ntmps39
  go_wp2_with fail
  refine (hm.out _).mono ?_
  rintro e w ⟨rfl, rfl⟩
  have R0 : CtR w nodes [] (w.alloc (.cells #[.bool false, .bool false, .bool false, .bool false, .bool false, .bool false] 111)) := ⟨below_alloc (Below.refl _ _) _, by rw [heap_alloc_new]; simp [nrow, nb_nil]⟩
  go_wp2_with fail
  go_loopw [6, 8, 14] (fun cv _ iv wr => ∃ (k : Nat), k ≤ len ∧ iv = .int .i64 k ∧ cv = .int .i64 (cn nodes (zs.take k)) ∧ Hid (CtR w nodes (zs.take k) wr)) (fun _ _ iv _ => len - (intOf iv).toNat)
  case atStart => exact ⟨0, Nat.zero_le _, rfl, by simp [cn, nb_nil, bi], R0⟩
  case round =>
    obtain ⟨k, hk, rfl, rfl, HR⟩ := hrel
    by_cases hlt : k < len
    · have hS := HS.out.below HR.out.below
      obtain ⟨b, off, rfl, hc⟩ := hS.cells (by omega)
      have ck := hc k hlt
      have hk2 : k < zs.length := by rw [HL.out]; exact hlt
      have TN := hide (take_next hk2)
      have bd := cn_bd nodes (zs.take k)
      clear hS hc R0
      generalize zs[k]?.getD 0 = z at ck TN
      generalize hl : zs.take k = l at *
      by_cases hz : 1 ≤ z ∧ z ≤ nodes
      · have hc := hide (fun w => among_lit (amongB_true hz) w)
        obtain ⟨m, rfl⟩ : ∃ m : Nat, z = (m : Int) := ⟨z.toNat, by omega⟩
        have hm5 : m ≤ 5 := by have := HN.out; omega
        have cm : wr.cell? ⟨w.heap.size, m, none⟩ = some (.bool (nb nodes l m)) := cell_row HR.out.row (nrow_at hm5)
        have fm : wr.frozen? ⟨w.heap.size, m, none⟩ = false := frozen_of_row _ _ _ _ _ HR.out.row
        have m1 : (m : Int) < 6 := by omega
        have m0 : (0 : Int) ≤ (m : Int) := by omega
        cases hb : nb nodes l m with
        | true =>
          rw [hb] at cm
          have E := hide (cn_same (l := l) (nodes := nodes) (z := (m : Int)) fun _ => by rw [Int.toNat_natCast]; exact hb)
          clear hz hb fm
          go_wp2_with fail
          refine (hc.out _).mono ?_
          rintro e w2 ⟨rfl, rfl⟩
          go_wp2_with fail
          go_roundw
          case rel => exact ⟨k + 1, by omega, by go_num, by rw [TN.out, E.out.1], by show CtR _ _ _ _; rw [TN.out]; exact ⟨HR.out.below, by rw [E.out.2]; exact HR.out.row⟩⟩
          case measure => simp [intOf]; omega
        | false =>
          rw [hb] at cm
          have E := hide (cn_new (l := l) hz.1 hz.2 hm5 hb)
          clear hz hb
          go_wp2_with fail
          refine (hc.out _).mono ?_
          rintro e w2 ⟨rfl, rfl⟩
          go_wp2_with fail
          go_roundw
          case rel => exact ⟨k + 1, by omega, by go_num, by rw [TN.out, E.out.1], by show CtR _ _ _ _; rw [TN.out]; exact HR.out.put E.out.2⟩
          case measure => simp [intOf]; omega
      · have hc := hide (fun w => among_lit (amongB_false hz) w)
        have E := hide (cn_same (l := l) fun x => absurd x hz)
        clear hz
        go_wp2_with fail
        refine (hc.out _).mono ?_
        rintro e w2 ⟨rfl, rfl⟩
        go_wp2_with fail
        go_roundw
        case rel => exact ⟨k + 1, by omega, by go_num, by rw [TN.out, E.out.1], by show CtR _ _ _ _; rw [TN.out]; exact ⟨HR.out.below, by rw [E.out.2]; exact HR.out.row⟩⟩
        case measure => simp [intOf]; omega
    · obtain rfl : k = len := by omega
      rw [List.take_of_length_le (by rw [HL.out]; exact Nat.le_refl _)]
      have B := hide HR.out.below
      clear HR R0
      go_wp2_with fail
      go_ret
      exact ⟨rfl, B.out⟩
theorem count_any {w : World} {a : Option Addr} {len cap : Nat} {zs : List Int} (nodes : Int) (h : Sq w a len cap zs) (hr : len * 8 ≤ 140737488351232) :
    Calls Try.prog 39 #[.int .i64 nodes, .slice a len cap] w fun e w' => e = .returned (.int .i64 (cntV nodes zs)) ∧ Below w.heap.size w w' := by
  by_cases hn : 1 ≤ nodes ∧ nodes ≤ 5
  · rw [show cntV nodes zs = cn nodes zs from if_pos hn]
    exact count_in nodes hn h hr
  · rw [show cntV nodes zs = 0 from if_neg hn]
    have hm := hide (fun w => among_lit (amongB_false hn) w)
    clear h hn
    go_enter Try.func39, Try.ntmps39
    go_wp2_with fail
    refine (hm.out _).mono ?_
    rintro e w ⟨rfl, rfl⟩
    go_wp2_with fail
    go_ret
    exact ⟨rfl, Below.refl _ _⟩

end Go.Proofs.Ytjhkenmlaammnaa
