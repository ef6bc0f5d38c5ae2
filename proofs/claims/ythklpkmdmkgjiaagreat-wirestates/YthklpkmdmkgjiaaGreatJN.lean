/- The walk of the landed function list over a list of marks, whoever the clerk is and whatever is done to an element. No condition. The walk of the landed function list over a list of waits, whoever the clerk is and whatever is done to an element. No condition. The walk of the landed function list over a list of deals, whoever the clerk is and whatever is done to an element. No condition. The walk of the landed function list over a list of ends, whoever the clerk is and whatever is done to an element. No condition. -/
import Derived.Test.YthklpkmdmkgjiaaGreatFWireRows
import Derived.Deep.RegionHeld3
import Derived.Deep.DeepCutAuto
namespace Go.Proofs.YthklpkmdmkgjiaaGreat
open Go.ChangeShapes Go.WideShapes Go.ChangeAt Go.RowKit
set_option linter.unusedVariables false

theorem linfo_mark : (Tryz.prog.info? 66).map (fun i => (i.zero.map (·.cells), i.size, decide (i.bytes ≤ 4096))) = some (some #[.int .i64 0, .int .i64 0, .bool false, .int .i64 0, .int .i64 0, .int .i64 0, .int .i64 0], 7, true) := by kernel_rfl
theorem make_mark (w : World) (k : Nat) (hk : k ≤ 1024) : (Instr.makeSlice 23 (.int .i64 k) (.int .i64 k)).run Tryz.prog w = .ok (.slice (some ⟨w.heap.size, 0, none⟩) k k) (w.alloc (.cells (madeCells #[.int .i64 0, .int .i64 0, .bool false, .int .i64 0, .int .i64 0, .int .i64 0, .int .i64 0] (k * 7)) 66)) := by
  have h := linfo_mark
  cases hi : Tryz.prog.info? 66 with
  | none => rw [hi] at h; cases h
  | some i =>
    rw [hi] at h
    simp only [Option.map_some, Option.some.injEq, Prod.mk.injEq, decide_eq_true_iff] at h
    obtain ⟨hz, hs, hb⟩ := h
    cases hz' : i.zero with
    | none => rw [hz'] at hz; cases hz
    | some z =>
      rw [hz'] at hz
      simp only [Option.map_some, Option.some.injEq] at hz
      have hm : i.bytes * k ≤ 4096 * 1024 := Nat.mul_le_mul hb hk
      have hr := run_make (P := Tryz.prog) w 23 66 i z Tryz.underlying23 hi hz' .i64 .i64 (k : Int) (k : Int) (by omega) (by omega) (by generalize i.bytes = q at hm ⊢; have h3 : ((q * k : Nat) : Int) = (q : Int) * (k : Int) := Int.natCast_mul q k; omega) (by omega)
      rw [hr, hz, hs, Int.toNat_natCast]
set_option maxRecDepth 100000 in
set_option maxHeartbeats 4000000 in
theorem go_list_mark {D : TypeId} {W M p : Nat} {a : Option Addr} {n cp : Nat} {Fi : FuncId} {cap : Array Value}
    {Fcount : FuncId} (nn_count : ∀ (a : Addr) (w : World), (nilAhead 319 D (.pointer (some a)) "purse/wire.count").run Tryz.prog w = .ok (some false) w) (mm_count : ∀ (a : Addr) (w : World), (method 319 D (.pointer (some a)) "purse/wire.count").run Tryz.prog w = .ok (Fcount, .pointer (some a)) w) (cc_count : ∀ (args : Array Value) (w : World), (callFunc Fcount args).run Tryz.prog w = .ok (.enter Fcount args) w)
    (cc_item : ∀ (args : Array Value) (w : World), (callFunc Fi args).run Tryz.prog w = .ok (.enter Fi args) w)
    {R0 : World → Prop} {R1 : Nat → World → Prop} {R2 : Nat → Nat → Nat → World → Prop} {R3 : World → Prop}
    (L0 : ∀ w, R0 w → w.cell? ⟨M, p, none⟩ = some (.slice a n cp))
    (C0 : ∀ w, R0 w → Calls Tryz.prog Fcount #[.pointer (some ⟨W, 0, none⟩), .int .i64 n] w.drew fun e w' => ∃ k : Nat, k ≤ 1024 ∧ e = .returned (.int .i64 k) ∧ R1 k w')
    (S1 : ∀ k w, R1 k w → w.cell? ⟨M, p, none⟩ = some (.slice a n cp) ∧ ∃ cs : List Value, cs.length = Nat.min n k * 7 ∧ (∀ v ∈ cs, v.oneCell' = true) ∧ (0 < cs.length → ∃ ad, a = some ad ∧ ∀ j v, cs[j]? = some v → w.cell? (ad.add j) = some v) ∧
      ∀ w', w'.heap[w.heap.size]? = some (.cells (cs ++ (madeCells #[.int .i64 0, .int .i64 0, .bool false, .int .i64 0, .int .i64 0, .int .i64 0, .int .i64 0] (k * 7)).toList.drop cs.length).toArray 66 (0, 0)) → Below w.heap.size w w' → R2 k w.heap.size 0 w')
    (C1 : ∀ k g i w, i < k → R2 k g i w → Calls Tryz.prog Fi (#[.pointer (some ⟨g, i * 7, none⟩)] ++ cap) w fun e w' => e = .returned (.tuple #[]) ∧ R2 k g (i + 1) w')
    (S2 : ∀ k g w, R2 k g k w → (∃ v, w.cell? ⟨M, p, none⟩ = some v) ∧ w.frozen? ⟨M, p, none⟩ = false ∧ R3 (w.setCell ⟨M, p, none⟩ (.slice (some ⟨g, 0, none⟩) k k)))
    (w : World) (h : R0 w) :
    Calls Tryz.prog 31 #[.iface D (.pointer (some ⟨W, 0, none⟩)), .pointer (some ⟨M, p, none⟩), .func (.func Fi) #[] cap] w fun e w' => e = .returned (.tuple #[]) ∧ R3 w' := by
  have c0 := L0 w h
  have D0 := hide C0
  have D1 := hide C1
  have E1 := hide S1
  have E2 := hide S2
  have H0 := hide h
  clear h C0 C1 S1 S2 L0
  go_enter Tryz.func31, Tryz.ntmps31
  go_wp2_with fail
  go_cut [6] (fun s w2 => ∃ (k : Nat) (w1 : World), k ≤ 1024 ∧ s = .slice (some ⟨w1.heap.size, 0, none⟩) k k ∧ Hid (R1 k w1) ∧ Hid (w2 = w1.alloc (.cells (madeCells #[.int .i64 0, .int .i64 0, .bool false, .int .i64 0, .int .i64 0, .int .i64 0, .int .i64 0] (k * 7)) 66)))
  case first =>
    go_region_law (go_simp; refine (D0.out _ H0.out).mono ?_; rintro e w1 ⟨k, hk, rfl, hw⟩; have HW := hide hw; have MK := make_mark w1 k hk; clear hw)
    all_goals (go_wp2_with fail; go_meet; case rel => exact ⟨k, w1, hk, rfl, HW, rfl⟩)
  case rest =>
    obtain ⟨k, w1, hk, rfl, HR, HE⟩ := hcut
    clear H0 c0
    obtain ⟨c1, cs, hcs, hone, hsrc, hnext⟩ := E1.out k w1 HR.out
    have lt1 : M < w1.heap.size := World.block_lt_of_cell? w1 _ c1
    obtain rfl := HE.out
    clear HE
    obtain ⟨w2, e2⟩ : ∃ w2, w2 = w1.alloc (.cells (madeCells #[.int .i64 0, .int .i64 0, .bool false, .int .i64 0, .int .i64 0, .int .i64 0, .int .i64 0] (k * 7)) 66) := ⟨_, rfl⟩
    have b2 : Below w1.heap.size w1 w2 := by rw [e2]; exact Below.alloc (Below.refl _ _) (Nat.le_refl _) _
    have r2 : w2.heap[w1.heap.size]? = some (.cells (madeCells #[.int .i64 0, .int .i64 0, .bool false, .int .i64 0, .int .i64 0, .int .i64 0, .int .i64 0] (k * 7)).toList.toArray 66 (0, 0)) := by rw [e2]; simpa using heap_alloc_new w1 _
    rw [← e2]
    have c2 : w2.cell? ⟨M, p, none⟩ = some (.slice a n cp) := (b2.cell (p := ⟨M, p, none⟩) lt1).trans c1
    have src2 : 0 < cs.length → ∃ ad, a = some ad ∧ ∀ j v, cs[j]? = some v → w2.cell? (ad.add j) = some v := fun h0 => by
      obtain ⟨ad, e, h⟩ := hsrc h0
      exact ⟨ad, e, fun j v hj => (b2.cell (World.block_lt_of_cell? w1 _ (h j v hj))).trans (h j v hj)⟩
    have fit : cs.length ≤ (madeCells #[.int .i64 0, .int .i64 0, .bool false, .int .i64 0, .int .i64 0, .int .i64 0, .int .i64 0] (k * 7)).toList.length := by
      rw [hcs, Array.length_toList, size_madeCells]
      exact Nat.mul_le_mul_right _ (Nat.min_le_right _ _)
    have HB2 := hide b2
    have HR2 := hide r2
    have HS2 := hide src2
    have HF := hide fit
    have HC := hide hcs
    have HO := hide hone
    have HN := hide hnext
    obtain ⟨g, eg⟩ : ∃ g, g = w1.heap.size := ⟨_, rfl⟩
    have HG := hide eg
    have r2' : Hid (w2.heap[g]? = some (.cells (madeCells #[.int .i64 0, .int .i64 0, .bool false, .int .i64 0, .int .i64 0, .int .i64 0, .int .i64 0] (k * 7)).toList.toArray 66 (0, 0))) := by rw [eg]; exact r2
    rw [← eg]
    clear e2 b2 r2 src2 fit hcs hone hnext hsrc c1 lt1 eg HR2
    obtain ⟨w3, run3, hrow, hb3⟩ := copy_rows_ex (P := Tryz.prog) w2 23 23 66 7 Tryz.underlying23 (by kernel_rfl) g k k a n cp (madeCells #[.int .i64 0, .int .i64 0, .bool false, .int .i64 0, .int .i64 0, .int .i64 0, .int .i64 0] (k * 7)).toList 66 r2'.out cs HC.out HS2.out (by decide) HF.out HO.out w1.heap.size w1 HB2.out (by rw [HG.out]; exact Nat.le_refl _)
    have HR3 : Hid (R2 k g 0 w3) := by rw [HG.out]; exact HN.out w3 (by rw [← HG.out]; exact hrow) hb3
    clear hrow hb3 HN HO HF HS2 HC r2' HB2 HR
    go_wp2_with fail
    clear run3 c2
    go_loopw [25] (fun i wr => ∃ j : Nat, j ≤ k ∧ i = .int .i64 j ∧ Hid (R2 k g j wr)) (fun i _ => k - (intOf i).toNat)
    case atStart => exact ⟨0, Nat.zero_le _, rfl, HR3⟩
    case round =>
      obtain ⟨j, hj, rfl, HRj⟩ := hrel
      by_cases hlt : j < k
      · have hi : (j : Int) < (k : Int) := by omega
        have C := hide (D1.out k g j wr hlt HRj.out)
        go_wp2_with fail
        refine C.out.mono ?_
        rintro e w4 ⟨rfl, h4⟩
        have H4 := hide h4
        clear h4 C
        go_wp2_with fail
        go_roundw
        case rel => exact ⟨j + 1, by omega, by go_num, H4⟩
        case measure => simp [intOf]; omega
      · have hi : (k : Int) ≤ (j : Int) := by omega
        obtain rfl : j = k := by omega
        obtain ⟨⟨v, c3⟩, f3, h3⟩ := E2.out j g wr HRj.out
        have H3 := hide h3
        clear h3 HRj HR3
        go_wp2_with fail
        refine bodyPost_end (results_none rfl _ _ _) rfl ?_
        exact ⟨rfl, H3.out⟩
end Go.Proofs.YthklpkmdmkgjiaaGreat

namespace Go.Proofs.YthklpkmdmkgjiaaGreat
open Go.ChangeShapes Go.WideShapes Go.ChangeAt Go.RowKit
set_option linter.unusedVariables false

theorem linfo_wait : (Tryz.prog.info? 69).map (fun i => (i.zero.map (·.cells), i.size, decide (i.bytes ≤ 4096))) = some (some #[.int .i64 0, .int .i64 0, .int .i64 0, .int .i64 0, .int .i64 0, .int .i64 0, .string ⟨#[]⟩, .string ⟨#[]⟩, .int .i64 0, .int .i64 0, .int .i64 0], 11, true) := by kernel_rfl
theorem make_wait (w : World) (k : Nat) (hk : k ≤ 1024) : (Instr.makeSlice 24 (.int .i64 k) (.int .i64 k)).run Tryz.prog w = .ok (.slice (some ⟨w.heap.size, 0, none⟩) k k) (w.alloc (.cells (madeCells #[.int .i64 0, .int .i64 0, .int .i64 0, .int .i64 0, .int .i64 0, .int .i64 0, .string ⟨#[]⟩, .string ⟨#[]⟩, .int .i64 0, .int .i64 0, .int .i64 0] (k * 11)) 69)) := by
  have h := linfo_wait
  cases hi : Tryz.prog.info? 69 with
  | none => rw [hi] at h; cases h
  | some i =>
    rw [hi] at h
    simp only [Option.map_some, Option.some.injEq, Prod.mk.injEq, decide_eq_true_iff] at h
    obtain ⟨hz, hs, hb⟩ := h
    cases hz' : i.zero with
    | none => rw [hz'] at hz; cases hz
    | some z =>
      rw [hz'] at hz
      simp only [Option.map_some, Option.some.injEq] at hz
      have hm : i.bytes * k ≤ 4096 * 1024 := Nat.mul_le_mul hb hk
      have hr := run_make (P := Tryz.prog) w 24 69 i z Tryz.underlying24 hi hz' .i64 .i64 (k : Int) (k : Int) (by omega) (by omega) (by generalize i.bytes = q at hm ⊢; have h3 : ((q * k : Nat) : Int) = (q : Int) * (k : Int) := Int.natCast_mul q k; omega) (by omega)
      rw [hr, hz, hs, Int.toNat_natCast]
set_option maxRecDepth 100000 in
set_option maxHeartbeats 4000000 in
theorem go_list_wait {D : TypeId} {W M p : Nat} {a : Option Addr} {n cp : Nat} {Fi : FuncId} {cap : Array Value}
    {Fcount : FuncId} (nn_count : ∀ (a : Addr) (w : World), (nilAhead 319 D (.pointer (some a)) "purse/wire.count").run Tryz.prog w = .ok (some false) w) (mm_count : ∀ (a : Addr) (w : World), (method 319 D (.pointer (some a)) "purse/wire.count").run Tryz.prog w = .ok (Fcount, .pointer (some a)) w) (cc_count : ∀ (args : Array Value) (w : World), (callFunc Fcount args).run Tryz.prog w = .ok (.enter Fcount args) w)
    (cc_item : ∀ (args : Array Value) (w : World), (callFunc Fi args).run Tryz.prog w = .ok (.enter Fi args) w)
    {R0 : World → Prop} {R1 : Nat → World → Prop} {R2 : Nat → Nat → Nat → World → Prop} {R3 : World → Prop}
    (L0 : ∀ w, R0 w → w.cell? ⟨M, p, none⟩ = some (.slice a n cp))
    (C0 : ∀ w, R0 w → Calls Tryz.prog Fcount #[.pointer (some ⟨W, 0, none⟩), .int .i64 n] w.drew fun e w' => ∃ k : Nat, k ≤ 1024 ∧ e = .returned (.int .i64 k) ∧ R1 k w')
    (S1 : ∀ k w, R1 k w → w.cell? ⟨M, p, none⟩ = some (.slice a n cp) ∧ ∃ cs : List Value, cs.length = Nat.min n k * 11 ∧ (∀ v ∈ cs, v.oneCell' = true) ∧ (0 < cs.length → ∃ ad, a = some ad ∧ ∀ j v, cs[j]? = some v → w.cell? (ad.add j) = some v) ∧
      ∀ w', w'.heap[w.heap.size]? = some (.cells (cs ++ (madeCells #[.int .i64 0, .int .i64 0, .int .i64 0, .int .i64 0, .int .i64 0, .int .i64 0, .string ⟨#[]⟩, .string ⟨#[]⟩, .int .i64 0, .int .i64 0, .int .i64 0] (k * 11)).toList.drop cs.length).toArray 69 (0, 0)) → Below w.heap.size w w' → R2 k w.heap.size 0 w')
    (C1 : ∀ k g i w, i < k → R2 k g i w → Calls Tryz.prog Fi (#[.pointer (some ⟨g, i * 11, none⟩)] ++ cap) w fun e w' => e = .returned (.tuple #[]) ∧ R2 k g (i + 1) w')
    (S2 : ∀ k g w, R2 k g k w → (∃ v, w.cell? ⟨M, p, none⟩ = some v) ∧ w.frozen? ⟨M, p, none⟩ = false ∧ R3 (w.setCell ⟨M, p, none⟩ (.slice (some ⟨g, 0, none⟩) k k)))
    (w : World) (h : R0 w) :
    Calls Tryz.prog 34 #[.iface D (.pointer (some ⟨W, 0, none⟩)), .pointer (some ⟨M, p, none⟩), .func (.func Fi) #[] cap] w fun e w' => e = .returned (.tuple #[]) ∧ R3 w' := by
  have c0 := L0 w h
  have D0 := hide C0
  have D1 := hide C1
  have E1 := hide S1
  have E2 := hide S2
  have H0 := hide h
  clear h C0 C1 S1 S2 L0
  go_enter Tryz.func34, Tryz.ntmps34
  go_wp2_with fail
  go_cut [6] (fun s w2 => ∃ (k : Nat) (w1 : World), k ≤ 1024 ∧ s = .slice (some ⟨w1.heap.size, 0, none⟩) k k ∧ Hid (R1 k w1) ∧ Hid (w2 = w1.alloc (.cells (madeCells #[.int .i64 0, .int .i64 0, .int .i64 0, .int .i64 0, .int .i64 0, .int .i64 0, .string ⟨#[]⟩, .string ⟨#[]⟩, .int .i64 0, .int .i64 0, .int .i64 0] (k * 11)) 69)))
  case first =>
    go_region_law (go_simp; refine (D0.out _ H0.out).mono ?_; rintro e w1 ⟨k, hk, rfl, hw⟩; have HW := hide hw; have MK := make_wait w1 k hk; clear hw)
    all_goals (go_wp2_with fail; go_meet; case rel => exact ⟨k, w1, hk, rfl, HW, rfl⟩)
  case rest =>
    obtain ⟨k, w1, hk, rfl, HR, HE⟩ := hcut
    clear H0 c0
    obtain ⟨c1, cs, hcs, hone, hsrc, hnext⟩ := E1.out k w1 HR.out
    have lt1 : M < w1.heap.size := World.block_lt_of_cell? w1 _ c1
    obtain rfl := HE.out
    clear HE
    obtain ⟨w2, e2⟩ : ∃ w2, w2 = w1.alloc (.cells (madeCells #[.int .i64 0, .int .i64 0, .int .i64 0, .int .i64 0, .int .i64 0, .int .i64 0, .string ⟨#[]⟩, .string ⟨#[]⟩, .int .i64 0, .int .i64 0, .int .i64 0] (k * 11)) 69) := ⟨_, rfl⟩
    have b2 : Below w1.heap.size w1 w2 := by rw [e2]; exact Below.alloc (Below.refl _ _) (Nat.le_refl _) _
    have r2 : w2.heap[w1.heap.size]? = some (.cells (madeCells #[.int .i64 0, .int .i64 0, .int .i64 0, .int .i64 0, .int .i64 0, .int .i64 0, .string ⟨#[]⟩, .string ⟨#[]⟩, .int .i64 0, .int .i64 0, .int .i64 0] (k * 11)).toList.toArray 69 (0, 0)) := by rw [e2]; simpa using heap_alloc_new w1 _
    rw [← e2]
    have c2 : w2.cell? ⟨M, p, none⟩ = some (.slice a n cp) := (b2.cell (p := ⟨M, p, none⟩) lt1).trans c1
    have src2 : 0 < cs.length → ∃ ad, a = some ad ∧ ∀ j v, cs[j]? = some v → w2.cell? (ad.add j) = some v := fun h0 => by
      obtain ⟨ad, e, h⟩ := hsrc h0
      exact ⟨ad, e, fun j v hj => (b2.cell (World.block_lt_of_cell? w1 _ (h j v hj))).trans (h j v hj)⟩
    have fit : cs.length ≤ (madeCells #[.int .i64 0, .int .i64 0, .int .i64 0, .int .i64 0, .int .i64 0, .int .i64 0, .string ⟨#[]⟩, .string ⟨#[]⟩, .int .i64 0, .int .i64 0, .int .i64 0] (k * 11)).toList.length := by
      rw [hcs, Array.length_toList, size_madeCells]
      exact Nat.mul_le_mul_right _ (Nat.min_le_right _ _)
    have HB2 := hide b2
    have HR2 := hide r2
    have HS2 := hide src2
    have HF := hide fit
    have HC := hide hcs
    have HO := hide hone
    have HN := hide hnext
    obtain ⟨g, eg⟩ : ∃ g, g = w1.heap.size := ⟨_, rfl⟩
    have HG := hide eg
    have r2' : Hid (w2.heap[g]? = some (.cells (madeCells #[.int .i64 0, .int .i64 0, .int .i64 0, .int .i64 0, .int .i64 0, .int .i64 0, .string ⟨#[]⟩, .string ⟨#[]⟩, .int .i64 0, .int .i64 0, .int .i64 0] (k * 11)).toList.toArray 69 (0, 0))) := by rw [eg]; exact r2
    rw [← eg]
    clear e2 b2 r2 src2 fit hcs hone hnext hsrc c1 lt1 eg HR2
    obtain ⟨w3, run3, hrow, hb3⟩ := copy_rows_ex (P := Tryz.prog) w2 24 24 69 11 Tryz.underlying24 (by kernel_rfl) g k k a n cp (madeCells #[.int .i64 0, .int .i64 0, .int .i64 0, .int .i64 0, .int .i64 0, .int .i64 0, .string ⟨#[]⟩, .string ⟨#[]⟩, .int .i64 0, .int .i64 0, .int .i64 0] (k * 11)).toList 69 r2'.out cs HC.out HS2.out (by decide) HF.out HO.out w1.heap.size w1 HB2.out (by rw [HG.out]; exact Nat.le_refl _)
    have HR3 : Hid (R2 k g 0 w3) := by rw [HG.out]; exact HN.out w3 (by rw [← HG.out]; exact hrow) hb3
    clear hrow hb3 HN HO HF HS2 HC r2' HB2 HR
    go_wp2_with fail
    clear run3 c2
    go_loopw [25] (fun i wr => ∃ j : Nat, j ≤ k ∧ i = .int .i64 j ∧ Hid (R2 k g j wr)) (fun i _ => k - (intOf i).toNat)
    case atStart => exact ⟨0, Nat.zero_le _, rfl, HR3⟩
    case round =>
      obtain ⟨j, hj, rfl, HRj⟩ := hrel
      by_cases hlt : j < k
      · have hi : (j : Int) < (k : Int) := by omega
        have C := hide (D1.out k g j wr hlt HRj.out)
        go_wp2_with fail
        refine C.out.mono ?_
        rintro e w4 ⟨rfl, h4⟩
        have H4 := hide h4
        clear h4 C
        go_wp2_with fail
        go_roundw
        case rel => exact ⟨j + 1, by omega, by go_num, H4⟩
        case measure => simp [intOf]; omega
      · have hi : (k : Int) ≤ (j : Int) := by omega
        obtain rfl : j = k := by omega
        obtain ⟨⟨v, c3⟩, f3, h3⟩ := E2.out j g wr HRj.out
        have H3 := hide h3
        clear h3 HRj HR3
        go_wp2_with fail
        refine bodyPost_end (results_none rfl _ _ _) rfl ?_
        exact ⟨rfl, H3.out⟩
end Go.Proofs.YthklpkmdmkgjiaaGreat

namespace Go.Proofs.YthklpkmdmkgjiaaGreat
open Go.ChangeShapes Go.WideShapes Go.ChangeAt Go.RowKit
set_option linter.unusedVariables false

theorem linfo_deal : (Tryz.prog.info? 72).map (fun i => (i.zero.map (·.cells), i.size, decide (i.bytes ≤ 4096))) = some (some #[.int .i64 0, .int .i64 0, .string ⟨#[]⟩, .string ⟨#[]⟩, .int .i64 0, .int .i64 0, .int .i64 0, .int .i64 0], 8, true) := by kernel_rfl
theorem make_deal (w : World) (k : Nat) (hk : k ≤ 1024) : (Instr.makeSlice 25 (.int .i64 k) (.int .i64 k)).run Tryz.prog w = .ok (.slice (some ⟨w.heap.size, 0, none⟩) k k) (w.alloc (.cells (madeCells #[.int .i64 0, .int .i64 0, .string ⟨#[]⟩, .string ⟨#[]⟩, .int .i64 0, .int .i64 0, .int .i64 0, .int .i64 0] (k * 8)) 72)) := by
  have h := linfo_deal
  cases hi : Tryz.prog.info? 72 with
  | none => rw [hi] at h; cases h
  | some i =>
    rw [hi] at h
    simp only [Option.map_some, Option.some.injEq, Prod.mk.injEq, decide_eq_true_iff] at h
    obtain ⟨hz, hs, hb⟩ := h
    cases hz' : i.zero with
    | none => rw [hz'] at hz; cases hz
    | some z =>
      rw [hz'] at hz
      simp only [Option.map_some, Option.some.injEq] at hz
      have hm : i.bytes * k ≤ 4096 * 1024 := Nat.mul_le_mul hb hk
      have hr := run_make (P := Tryz.prog) w 25 72 i z Tryz.underlying25 hi hz' .i64 .i64 (k : Int) (k : Int) (by omega) (by omega) (by generalize i.bytes = q at hm ⊢; have h3 : ((q * k : Nat) : Int) = (q : Int) * (k : Int) := Int.natCast_mul q k; omega) (by omega)
      rw [hr, hz, hs, Int.toNat_natCast]
set_option maxRecDepth 100000 in
set_option maxHeartbeats 4000000 in
theorem go_list_deal {D : TypeId} {W M p : Nat} {a : Option Addr} {n cp : Nat} {Fi : FuncId} {cap : Array Value}
    {Fcount : FuncId} (nn_count : ∀ (a : Addr) (w : World), (nilAhead 319 D (.pointer (some a)) "purse/wire.count").run Tryz.prog w = .ok (some false) w) (mm_count : ∀ (a : Addr) (w : World), (method 319 D (.pointer (some a)) "purse/wire.count").run Tryz.prog w = .ok (Fcount, .pointer (some a)) w) (cc_count : ∀ (args : Array Value) (w : World), (callFunc Fcount args).run Tryz.prog w = .ok (.enter Fcount args) w)
    (cc_item : ∀ (args : Array Value) (w : World), (callFunc Fi args).run Tryz.prog w = .ok (.enter Fi args) w)
    {R0 : World → Prop} {R1 : Nat → World → Prop} {R2 : Nat → Nat → Nat → World → Prop} {R3 : World → Prop}
    (L0 : ∀ w, R0 w → w.cell? ⟨M, p, none⟩ = some (.slice a n cp))
    (C0 : ∀ w, R0 w → Calls Tryz.prog Fcount #[.pointer (some ⟨W, 0, none⟩), .int .i64 n] w.drew fun e w' => ∃ k : Nat, k ≤ 1024 ∧ e = .returned (.int .i64 k) ∧ R1 k w')
    (S1 : ∀ k w, R1 k w → w.cell? ⟨M, p, none⟩ = some (.slice a n cp) ∧ ∃ cs : List Value, cs.length = Nat.min n k * 8 ∧ (∀ v ∈ cs, v.oneCell' = true) ∧ (0 < cs.length → ∃ ad, a = some ad ∧ ∀ j v, cs[j]? = some v → w.cell? (ad.add j) = some v) ∧
      ∀ w', w'.heap[w.heap.size]? = some (.cells (cs ++ (madeCells #[.int .i64 0, .int .i64 0, .string ⟨#[]⟩, .string ⟨#[]⟩, .int .i64 0, .int .i64 0, .int .i64 0, .int .i64 0] (k * 8)).toList.drop cs.length).toArray 72 (0, 0)) → Below w.heap.size w w' → R2 k w.heap.size 0 w')
    (C1 : ∀ k g i w, i < k → R2 k g i w → Calls Tryz.prog Fi (#[.pointer (some ⟨g, i * 8, none⟩)] ++ cap) w fun e w' => e = .returned (.tuple #[]) ∧ R2 k g (i + 1) w')
    (S2 : ∀ k g w, R2 k g k w → (∃ v, w.cell? ⟨M, p, none⟩ = some v) ∧ w.frozen? ⟨M, p, none⟩ = false ∧ R3 (w.setCell ⟨M, p, none⟩ (.slice (some ⟨g, 0, none⟩) k k)))
    (w : World) (h : R0 w) :
    Calls Tryz.prog 37 #[.iface D (.pointer (some ⟨W, 0, none⟩)), .pointer (some ⟨M, p, none⟩), .func (.func Fi) #[] cap] w fun e w' => e = .returned (.tuple #[]) ∧ R3 w' := by
  have c0 := L0 w h
  have D0 := hide C0
  have D1 := hide C1
  have E1 := hide S1
  have E2 := hide S2
  have H0 := hide h
  clear h C0 C1 S1 S2 L0
  go_enter Tryz.func37, Tryz.ntmps37
  go_wp2_with fail
  go_cut [6] (fun s w2 => ∃ (k : Nat) (w1 : World), k ≤ 1024 ∧ s = .slice (some ⟨w1.heap.size, 0, none⟩) k k ∧ Hid (R1 k w1) ∧ Hid (w2 = w1.alloc (.cells (madeCells #[.int .i64 0, .int .i64 0, .string ⟨#[]⟩, .string ⟨#[]⟩, .int .i64 0, .int .i64 0, .int .i64 0, .int .i64 0] (k * 8)) 72)))
  case first =>
    go_region_law (go_simp; refine (D0.out _ H0.out).mono ?_; rintro e w1 ⟨k, hk, rfl, hw⟩; have HW := hide hw; have MK := make_deal w1 k hk; clear hw)
    all_goals (go_wp2_with fail; go_meet; case rel => exact ⟨k, w1, hk, rfl, HW, rfl⟩)
  case rest =>
    obtain ⟨k, w1, hk, rfl, HR, HE⟩ := hcut
    clear H0 c0
    obtain ⟨c1, cs, hcs, hone, hsrc, hnext⟩ := E1.out k w1 HR.out
    have lt1 : M < w1.heap.size := World.block_lt_of_cell? w1 _ c1
    obtain rfl := HE.out
    clear HE
    obtain ⟨w2, e2⟩ : ∃ w2, w2 = w1.alloc (.cells (madeCells #[.int .i64 0, .int .i64 0, .string ⟨#[]⟩, .string ⟨#[]⟩, .int .i64 0, .int .i64 0, .int .i64 0, .int .i64 0] (k * 8)) 72) := ⟨_, rfl⟩
    have b2 : Below w1.heap.size w1 w2 := by rw [e2]; exact Below.alloc (Below.refl _ _) (Nat.le_refl _) _
    have r2 : w2.heap[w1.heap.size]? = some (.cells (madeCells #[.int .i64 0, .int .i64 0, .string ⟨#[]⟩, .string ⟨#[]⟩, .int .i64 0, .int .i64 0, .int .i64 0, .int .i64 0] (k * 8)).toList.toArray 72 (0, 0)) := by rw [e2]; simpa using heap_alloc_new w1 _
    rw [← e2]
    have c2 : w2.cell? ⟨M, p, none⟩ = some (.slice a n cp) := (b2.cell (p := ⟨M, p, none⟩) lt1).trans c1
    have src2 : 0 < cs.length → ∃ ad, a = some ad ∧ ∀ j v, cs[j]? = some v → w2.cell? (ad.add j) = some v := fun h0 => by
      obtain ⟨ad, e, h⟩ := hsrc h0
      exact ⟨ad, e, fun j v hj => (b2.cell (World.block_lt_of_cell? w1 _ (h j v hj))).trans (h j v hj)⟩
    have fit : cs.length ≤ (madeCells #[.int .i64 0, .int .i64 0, .string ⟨#[]⟩, .string ⟨#[]⟩, .int .i64 0, .int .i64 0, .int .i64 0, .int .i64 0] (k * 8)).toList.length := by
      rw [hcs, Array.length_toList, size_madeCells]
      exact Nat.mul_le_mul_right _ (Nat.min_le_right _ _)
    have HB2 := hide b2
    have HR2 := hide r2
    have HS2 := hide src2
    have HF := hide fit
    have HC := hide hcs
    have HO := hide hone
    have HN := hide hnext
    obtain ⟨g, eg⟩ : ∃ g, g = w1.heap.size := ⟨_, rfl⟩
    have HG := hide eg
    have r2' : Hid (w2.heap[g]? = some (.cells (madeCells #[.int .i64 0, .int .i64 0, .string ⟨#[]⟩, .string ⟨#[]⟩, .int .i64 0, .int .i64 0, .int .i64 0, .int .i64 0] (k * 8)).toList.toArray 72 (0, 0))) := by rw [eg]; exact r2
    rw [← eg]
    clear e2 b2 r2 src2 fit hcs hone hnext hsrc c1 lt1 eg HR2
    obtain ⟨w3, run3, hrow, hb3⟩ := copy_rows_ex (P := Tryz.prog) w2 25 25 72 8 Tryz.underlying25 (by kernel_rfl) g k k a n cp (madeCells #[.int .i64 0, .int .i64 0, .string ⟨#[]⟩, .string ⟨#[]⟩, .int .i64 0, .int .i64 0, .int .i64 0, .int .i64 0] (k * 8)).toList 72 r2'.out cs HC.out HS2.out (by decide) HF.out HO.out w1.heap.size w1 HB2.out (by rw [HG.out]; exact Nat.le_refl _)
    have HR3 : Hid (R2 k g 0 w3) := by rw [HG.out]; exact HN.out w3 (by rw [← HG.out]; exact hrow) hb3
    clear hrow hb3 HN HO HF HS2 HC r2' HB2 HR
    go_wp2_with fail
    clear run3 c2
    go_loopw [25] (fun i wr => ∃ j : Nat, j ≤ k ∧ i = .int .i64 j ∧ Hid (R2 k g j wr)) (fun i _ => k - (intOf i).toNat)
    case atStart => exact ⟨0, Nat.zero_le _, rfl, HR3⟩
    case round =>
      obtain ⟨j, hj, rfl, HRj⟩ := hrel
      by_cases hlt : j < k
      · have hi : (j : Int) < (k : Int) := by omega
        have C := hide (D1.out k g j wr hlt HRj.out)
        go_wp2_with fail
        refine C.out.mono ?_
        rintro e w4 ⟨rfl, h4⟩
        have H4 := hide h4
        clear h4 C
        go_wp2_with fail
        go_roundw
        case rel => exact ⟨j + 1, by omega, by go_num, H4⟩
        case measure => simp [intOf]; omega
      · have hi : (k : Int) ≤ (j : Int) := by omega
        obtain rfl : j = k := by omega
        obtain ⟨⟨v, c3⟩, f3, h3⟩ := E2.out j g wr HRj.out
        have H3 := hide h3
        clear h3 HRj HR3
        go_wp2_with fail
        refine bodyPost_end (results_none rfl _ _ _) rfl ?_
        exact ⟨rfl, H3.out⟩
end Go.Proofs.YthklpkmdmkgjiaaGreat

namespace Go.Proofs.YthklpkmdmkgjiaaGreat
open Go.ChangeShapes Go.WideShapes Go.ChangeAt Go.RowKit
set_option linter.unusedVariables false

theorem linfo_end : (Tryz.prog.info? 75).map (fun i => (i.zero.map (·.cells), i.size, decide (i.bytes ≤ 4096))) = some (some #[.int .i64 0, .int .i64 0], 2, true) := by kernel_rfl
theorem make_end (w : World) (k : Nat) (hk : k ≤ 1024) : (Instr.makeSlice 26 (.int .i64 k) (.int .i64 k)).run Tryz.prog w = .ok (.slice (some ⟨w.heap.size, 0, none⟩) k k) (w.alloc (.cells (madeCells #[.int .i64 0, .int .i64 0] (k * 2)) 75)) := by
  have h := linfo_end
  cases hi : Tryz.prog.info? 75 with
  | none => rw [hi] at h; cases h
  | some i =>
    rw [hi] at h
    simp only [Option.map_some, Option.some.injEq, Prod.mk.injEq, decide_eq_true_iff] at h
    obtain ⟨hz, hs, hb⟩ := h
    cases hz' : i.zero with
    | none => rw [hz'] at hz; cases hz
    | some z =>
      rw [hz'] at hz
      simp only [Option.map_some, Option.some.injEq] at hz
      have hm : i.bytes * k ≤ 4096 * 1024 := Nat.mul_le_mul hb hk
      have hr := run_make (P := Tryz.prog) w 26 75 i z Tryz.underlying26 hi hz' .i64 .i64 (k : Int) (k : Int) (by omega) (by omega) (by generalize i.bytes = q at hm ⊢; have h3 : ((q * k : Nat) : Int) = (q : Int) * (k : Int) := Int.natCast_mul q k; omega) (by omega)
      rw [hr, hz, hs, Int.toNat_natCast]
set_option maxRecDepth 100000 in
set_option maxHeartbeats 4000000 in
theorem go_list_end {D : TypeId} {W M p : Nat} {a : Option Addr} {n cp : Nat} {Fi : FuncId} {cap : Array Value}
    {Fcount : FuncId} (nn_count : ∀ (a : Addr) (w : World), (nilAhead 319 D (.pointer (some a)) "purse/wire.count").run Tryz.prog w = .ok (some false) w) (mm_count : ∀ (a : Addr) (w : World), (method 319 D (.pointer (some a)) "purse/wire.count").run Tryz.prog w = .ok (Fcount, .pointer (some a)) w) (cc_count : ∀ (args : Array Value) (w : World), (callFunc Fcount args).run Tryz.prog w = .ok (.enter Fcount args) w)
    (cc_item : ∀ (args : Array Value) (w : World), (callFunc Fi args).run Tryz.prog w = .ok (.enter Fi args) w)
    {R0 : World → Prop} {R1 : Nat → World → Prop} {R2 : Nat → Nat → Nat → World → Prop} {R3 : World → Prop}
    (L0 : ∀ w, R0 w → w.cell? ⟨M, p, none⟩ = some (.slice a n cp))
    (C0 : ∀ w, R0 w → Calls Tryz.prog Fcount #[.pointer (some ⟨W, 0, none⟩), .int .i64 n] w.drew fun e w' => ∃ k : Nat, k ≤ 1024 ∧ e = .returned (.int .i64 k) ∧ R1 k w')
    (S1 : ∀ k w, R1 k w → w.cell? ⟨M, p, none⟩ = some (.slice a n cp) ∧ ∃ cs : List Value, cs.length = Nat.min n k * 2 ∧ (∀ v ∈ cs, v.oneCell' = true) ∧ (0 < cs.length → ∃ ad, a = some ad ∧ ∀ j v, cs[j]? = some v → w.cell? (ad.add j) = some v) ∧
      ∀ w', w'.heap[w.heap.size]? = some (.cells (cs ++ (madeCells #[.int .i64 0, .int .i64 0] (k * 2)).toList.drop cs.length).toArray 75 (0, 0)) → Below w.heap.size w w' → R2 k w.heap.size 0 w')
    (C1 : ∀ k g i w, i < k → R2 k g i w → Calls Tryz.prog Fi (#[.pointer (some ⟨g, i * 2, none⟩)] ++ cap) w fun e w' => e = .returned (.tuple #[]) ∧ R2 k g (i + 1) w')
    (S2 : ∀ k g w, R2 k g k w → (∃ v, w.cell? ⟨M, p, none⟩ = some v) ∧ w.frozen? ⟨M, p, none⟩ = false ∧ R3 (w.setCell ⟨M, p, none⟩ (.slice (some ⟨g, 0, none⟩) k k)))
    (w : World) (h : R0 w) :
    Calls Tryz.prog 40 #[.iface D (.pointer (some ⟨W, 0, none⟩)), .pointer (some ⟨M, p, none⟩), .func (.func Fi) #[] cap] w fun e w' => e = .returned (.tuple #[]) ∧ R3 w' := by
  have c0 := L0 w h
  have D0 := hide C0
  have D1 := hide C1
  have E1 := hide S1
  have E2 := hide S2
  have H0 := hide h
  clear h C0 C1 S1 S2 L0
  go_enter Tryz.func40, Tryz.ntmps40
  go_wp2_with fail
  go_cut [6] (fun s w2 => ∃ (k : Nat) (w1 : World), k ≤ 1024 ∧ s = .slice (some ⟨w1.heap.size, 0, none⟩) k k ∧ Hid (R1 k w1) ∧ Hid (w2 = w1.alloc (.cells (madeCells #[.int .i64 0, .int .i64 0] (k * 2)) 75)))
  case first =>
    go_region_law (go_simp; refine (D0.out _ H0.out).mono ?_; rintro e w1 ⟨k, hk, rfl, hw⟩; have HW := hide hw; have MK := make_end w1 k hk; clear hw)
    all_goals (go_wp2_with fail; go_meet; case rel => exact ⟨k, w1, hk, rfl, HW, rfl⟩)
  case rest =>
    obtain ⟨k, w1, hk, rfl, HR, HE⟩ := hcut
    clear H0 c0
    obtain ⟨c1, cs, hcs, hone, hsrc, hnext⟩ := E1.out k w1 HR.out
    have lt1 : M < w1.heap.size := World.block_lt_of_cell? w1 _ c1
    obtain rfl := HE.out
    clear HE
    obtain ⟨w2, e2⟩ : ∃ w2, w2 = w1.alloc (.cells (madeCells #[.int .i64 0, .int .i64 0] (k * 2)) 75) := ⟨_, rfl⟩
    have b2 : Below w1.heap.size w1 w2 := by rw [e2]; exact Below.alloc (Below.refl _ _) (Nat.le_refl _) _
    have r2 : w2.heap[w1.heap.size]? = some (.cells (madeCells #[.int .i64 0, .int .i64 0] (k * 2)).toList.toArray 75 (0, 0)) := by rw [e2]; simpa using heap_alloc_new w1 _
    rw [← e2]
    have c2 : w2.cell? ⟨M, p, none⟩ = some (.slice a n cp) := (b2.cell (p := ⟨M, p, none⟩) lt1).trans c1
    have src2 : 0 < cs.length → ∃ ad, a = some ad ∧ ∀ j v, cs[j]? = some v → w2.cell? (ad.add j) = some v := fun h0 => by
      obtain ⟨ad, e, h⟩ := hsrc h0
      exact ⟨ad, e, fun j v hj => (b2.cell (World.block_lt_of_cell? w1 _ (h j v hj))).trans (h j v hj)⟩
    have fit : cs.length ≤ (madeCells #[.int .i64 0, .int .i64 0] (k * 2)).toList.length := by
      rw [hcs, Array.length_toList, size_madeCells]
      exact Nat.mul_le_mul_right _ (Nat.min_le_right _ _)
    have HB2 := hide b2
    have HR2 := hide r2
    have HS2 := hide src2
    have HF := hide fit
    have HC := hide hcs
    have HO := hide hone
    have HN := hide hnext
    obtain ⟨g, eg⟩ : ∃ g, g = w1.heap.size := ⟨_, rfl⟩
    have HG := hide eg
    have r2' : Hid (w2.heap[g]? = some (.cells (madeCells #[.int .i64 0, .int .i64 0] (k * 2)).toList.toArray 75 (0, 0))) := by rw [eg]; exact r2
    rw [← eg]
    clear e2 b2 r2 src2 fit hcs hone hnext hsrc c1 lt1 eg HR2
    obtain ⟨w3, run3, hrow, hb3⟩ := copy_rows_ex (P := Tryz.prog) w2 26 26 75 2 Tryz.underlying26 (by kernel_rfl) g k k a n cp (madeCells #[.int .i64 0, .int .i64 0] (k * 2)).toList 75 r2'.out cs HC.out HS2.out (by decide) HF.out HO.out w1.heap.size w1 HB2.out (by rw [HG.out]; exact Nat.le_refl _)
    have HR3 : Hid (R2 k g 0 w3) := by rw [HG.out]; exact HN.out w3 (by rw [← HG.out]; exact hrow) hb3
    clear hrow hb3 HN HO HF HS2 HC r2' HB2 HR
    go_wp2_with fail
    clear run3 c2
    go_loopw [25] (fun i wr => ∃ j : Nat, j ≤ k ∧ i = .int .i64 j ∧ Hid (R2 k g j wr)) (fun i _ => k - (intOf i).toNat)
    case atStart => exact ⟨0, Nat.zero_le _, rfl, HR3⟩
    case round =>
      obtain ⟨j, hj, rfl, HRj⟩ := hrel
      by_cases hlt : j < k
      · have hi : (j : Int) < (k : Int) := by omega
        have C := hide (D1.out k g j wr hlt HRj.out)
        go_wp2_with fail
        refine C.out.mono ?_
        rintro e w4 ⟨rfl, h4⟩
        have H4 := hide h4
        clear h4 C
        go_wp2_with fail
        go_roundw
        case rel => exact ⟨j + 1, by omega, by go_num, H4⟩
        case measure => simp [intOf]; omega
      · have hi : (k : Int) ≤ (j : Int) := by omega
        obtain rfl : j = k := by omega
        obtain ⟨⟨v, c3⟩, f3, h3⟩ := E2.out j g wr HRj.out
        have H3 := hide h3
        clear h3 HRj HR3
        go_wp2_with fail
        refine bodyPost_end (results_none rfl _ _ _) rfl ?_
        exact ⟨rfl, H3.out⟩
end Go.Proofs.YthklpkmdmkgjiaaGreat
