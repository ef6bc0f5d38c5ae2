/- What the document's walk writes of a list of marks. No condition but the size. What the document's walk writes of a list of waits. No condition but the size. What the document's walk writes of a list of deals. No condition but the size. What the document's walk writes of a list of ends. No condition but the size. -/
import Derived.Test.YthklpkmdmkgjiaaGreatJR
import Derived.Test.YthklpkmdmkgjiaaGreatJL
import Derived.Test.YthklpkmdmkgjiaaGreatFWireLsMore
import Derived.Test.YthklpkmdmkgjiaaGreatJA
namespace Go.Proofs.YthklpkmdmkgjiaaGreat
open Go.ChangeShapes Go.WideShapes Go.ChangeAt Go.RowKit B8 Cm Wm
set_option linter.unusedVariables false

set_option maxRecDepth 100000 in
set_option maxHeartbeats 4000000 in
theorem vlist_marks {w : World} {B W L : Nat} {fs : List Fld} {M p : Nat} {a : Option Addr} {n cp : Nat} {xss : List (List Atom)} (h : VS w B W L fs) (hB : B ≤ w.heap.size) (hL : L + 10 + 1024 * 70 ≤ 70368744177664) (hc : w.cell? ⟨M, p, none⟩ = some (.slice a n cp)) (hLs : Ls w (Out (Wown W) M w) a n cp 7 xss) (hk : ∀ xs ∈ xss, xs.map Atom.k = [0, 0, 2, 0, 0, 0, 0]) (hS : ¬ Wown W w M) (hn : n ≤ 140737488355328) :
    Calls Tryz.prog 49 #[.pointer (some ⟨W, 0, none⟩), .pointer (some ⟨M, p, none⟩)] w fun e w' => e = .returned (.tuple #[]) ∧ VS w' B W (L + 10 + 1024 * 70) (fs ++ listF flds xss) ∧ Stq (Wown W) w w' := by
  have CM := hide (vmany_any n hn h hB (by omega))
  have HL := hide hLs
  have HK := hide hk
  have HLN := hide hLs.length
  have HB := hide hB
  have LL := hide hL
  have ltM : Hid (M < w.heap.size) := World.block_lt_of_cell? w _ hc
  have HS := hide hS
  clear h hB hL hLs hk hS
  go_enter Tryz.func49, Tryz.ntmps49
  go_wp2_with fail
  refine CM.out.mono ?_
  rintro e w1 ⟨k, rfl, hmv⟩
  have c1 := hmv.c1
  have KN : Hid (k ≤ n ∧ k ≤ 1024) := hmv.le
  have MV := hide hmv
  clear hmv CM hc
  go_wp2_with fail
  clear c1
  go_loopw [6] (fun i wr => ∃ j : Nat, j ≤ k ∧ i = .int .i64 j ∧ Hid (Stq (Wown W) w wr) ∧ Hid (VLoop wr B W L 70 fs n k xss j)) (fun i _ => k - (intOf i).toNat)
  case atStart => exact ⟨0, Nat.zero_le _, rfl, MV.out.1, MV.out.start 70 xss⟩
  case round =>
    clear MV
    obtain ⟨j, hj, rfl, HST, HV⟩ := hrel
    by_cases hlt : j < k
    · have i1 : (j : Int) < (k : Int) := by omega
      have i2 : (0 : Int) ≤ (j : Int) := by omega
      obtain ⟨hkn, hn1024, hvs⟩ := HV.out.good hlt
      have i3 : (j : Int) < (n : Int) := by omega
      have n0 : 0 < n := by omega
      have jn : j < n := by omega
      have HKN := hide hkn
      clear hkn
      obtain ⟨xs, hx⟩ : ∃ xs, xss[j]? = some xs := ⟨_, List.getElem?_eq_getElem (by rw [HLN.out]; exact jn)⟩
      have VV := hide hvs
      have HX := hide hx
      cases ho : okAll (fs ++ fldN n :: ((xss.take j).map flds).flatten) with
      | true =>
        obtain ⟨b, off, cs, rfl, hP, hcl, hcells, hvals⟩ := (HL.out.stq HST.out).row hx n0
        obtain ⟨v0, v1, v2, v3, v4, v5, v6, rfl⟩ : ∃ v0 v1 v2 v3 v4 v5 v6, cs = [v0, v1, v2, v3, v4, v5, v6] := by
          match cs, hcl with
          | [v0, v1, v2, v3, v4, v5, v6], _ => exact ⟨_, _, _, _, _, _, _, rfl⟩
        have q0 : (wr.alloc (.cells #[.int .i64 0, .int .i64 0, .bool false, .int .i64 0, .int .i64 0, .int .i64 0, .int .i64 0] 66)).cell? ⟨b, off + j * 7, none⟩ = some v0 := (World.cell?_alloc_lt wr _ _ (World.block_lt_of_cell? wr _ (hcells 0 v0 rfl))).trans (hcells 0 v0 rfl)
        have q1 : (wr.alloc (.cells #[.int .i64 0, .int .i64 0, .bool false, .int .i64 0, .int .i64 0, .int .i64 0, .int .i64 0] 66)).cell? ⟨b, off + j * 7 + 1, none⟩ = some v1 := (World.cell?_alloc_lt wr _ _ (World.block_lt_of_cell? wr _ (hcells 1 v1 rfl))).trans (hcells 1 v1 rfl)
        have q2 : (wr.alloc (.cells #[.int .i64 0, .int .i64 0, .bool false, .int .i64 0, .int .i64 0, .int .i64 0, .int .i64 0] 66)).cell? ⟨b, off + j * 7 + 2, none⟩ = some v2 := (World.cell?_alloc_lt wr _ _ (World.block_lt_of_cell? wr _ (hcells 2 v2 rfl))).trans (hcells 2 v2 rfl)
        have q3 : (wr.alloc (.cells #[.int .i64 0, .int .i64 0, .bool false, .int .i64 0, .int .i64 0, .int .i64 0, .int .i64 0] 66)).cell? ⟨b, off + j * 7 + 3, none⟩ = some v3 := (World.cell?_alloc_lt wr _ _ (World.block_lt_of_cell? wr _ (hcells 3 v3 rfl))).trans (hcells 3 v3 rfl)
        have q4 : (wr.alloc (.cells #[.int .i64 0, .int .i64 0, .bool false, .int .i64 0, .int .i64 0, .int .i64 0, .int .i64 0] 66)).cell? ⟨b, off + j * 7 + 4, none⟩ = some v4 := (World.cell?_alloc_lt wr _ _ (World.block_lt_of_cell? wr _ (hcells 4 v4 rfl))).trans (hcells 4 v4 rfl)
        have q5 : (wr.alloc (.cells #[.int .i64 0, .int .i64 0, .bool false, .int .i64 0, .int .i64 0, .int .i64 0, .int .i64 0] 66)).cell? ⟨b, off + j * 7 + 5, none⟩ = some v5 := (World.cell?_alloc_lt wr _ _ (World.block_lt_of_cell? wr _ (hcells 5 v5 rfl))).trans (hcells 5 v5 rfl)
        have q6 : (wr.alloc (.cells #[.int .i64 0, .int .i64 0, .bool false, .int .i64 0, .int .i64 0, .int .i64 0, .int .i64 0] 66)).cell? ⟨b, off + j * 7 + 6, none⟩ = some v6 := (World.cell?_alloc_lt wr _ _ (World.block_lt_of_cell? wr _ (hcells 6 v6 rfl))).trans (hcells 6 v6 rfl)
        have d1 : (wr.alloc (.cells #[.int .i64 0, .int .i64 0, .bool false, .int .i64 0, .int .i64 0, .int .i64 0, .int .i64 0] 66)).cell? ⟨W, 1, none⟩ = some (.pointer none) := (World.cell?_alloc_lt wr _ _ hvs.lt).trans hvs.c1
        have ONE := hide hvals.one
        have VP := hide (vmark_any (M := wr.heap.size) (o := 0) (hvs.below (below_alloc1 wr (.cells #[v0, v1, v2, v3, v4, v5, v6] 66))) (Nat.le_trans HB.out (Nat.le_trans HST.out.size (by simp))) (le_turn (by have := KN.out; omega) LL.out) (flat_new hvs hvals (fun b hb => ⟨hb.1, hb.2.1⟩) 66) (room_new wr #[v0, v1, v2, v3, v4, v5, v6] 66 7 rfl) (HK.out xs (List.mem_of_getElem? hx)) (by simp) (vown_new hvs (.cells #[v0, v1, v2, v3, v4, v5, v6] 66)))
        have CM := hide (vmore_any hvs)
        rw [ho] at CM
        clear hvs hvals hcells hcl hP hx ho
        go_wp2_with fail
        refine CM.out.mono ?_
        rintro e w2 ⟨rfl, rfl⟩
        go_wp2_with (refine wpList_store_row rfl 66 (.tmp 7) (.tmp 39) rfl w2.heap.size #[v0, v1, v2, v3, v4, v5, v6] rfl rfl 66 #[.int .i64 0, .int .i64 0, .bool false, .int .i64 0, .int .i64 0, .int .i64 0, .int .i64 0] (heap_alloc_new w2 _) (by kernel_rfl) rfl ONE.out ?_)
        rw [setRow_alloc]
        refine VP.out.mono ?_
        rintro e w3 ⟨rfl, hv3, hs3⟩
        have c3 := hv3.c1
        have V3 := hide hv3
        have S3 : Hid (Stq (Wown W) w w3) := HST.out.trans (hs3.inner (stq_below (below_alloc1 _ _) VV.out.lt) (Nat.le_refl _))
        clear hv3 hs3 VP CM d1
        go_wp2_with fail
        go_roundw
        case rel => exact ⟨j + 1, by omega, by go_num, S3, VLoop.next (D := 70) HKN.out hn1024 HX.out V3.out (le_step L j 70) (le_loop (by have := KN.out; omega) LL.out)⟩
        case measure => simp [intOf]; omega
      | false =>
        have CM := hide (vmore_any hvs)
        rw [ho] at CM
        have NO := hide ho
        clear hvs hx ho
        go_wp2_with fail
        refine CM.out.mono ?_
        rintro e w2 ⟨rfl, rfl⟩
        go_wp2_with fail
        refine bodyPost_end (results_none rfl _ _ _) rfl ?_
        exact ⟨rfl, VLoop.stop (D := 70) HLN.out VV.out NO.out (Nat.add_le_add_left (Nat.mul_le_mul_right _ (by have := KN.out; omega)) _) LL.out, HST.out⟩
    · obtain rfl : j = k := by omega
      go_wp2_with fail
      refine bodyPost_end (results_none rfl _ _ _) rfl ?_
      exact ⟨rfl, VLoop.done (D := 70) HV.out HLN.out LL.out, HST.out⟩
end Go.Proofs.YthklpkmdmkgjiaaGreat

namespace Go.Proofs.YthklpkmdmkgjiaaGreat
open Go.ChangeShapes Go.WideShapes Go.ChangeAt Go.RowKit B8 Cm Wm
set_option linter.unusedVariables false

set_option maxRecDepth 100000 in
set_option maxHeartbeats 4000000 in
theorem vlist_waits {w : World} {B W L : Nat} {fs : List Fld} {M p : Nat} {a : Option Addr} {n cp : Nat} {xss : List (List Atom)} (h : VS w B W L fs) (hB : B ≤ w.heap.size) (hL : L + 10 + 1024 * 140090 ≤ 70368744177664) (hc : w.cell? ⟨M, p, none⟩ = some (.slice a n cp)) (hLs : Ls w (Out (Wown W) M w) a n cp 11 xss) (hk : ∀ xs ∈ xss, xs.map Atom.k = [0, 0, 0, 0, 0, 0, 3, 3, 0, 0, 0]) (hS : ¬ Wown W w M) (hn : n ≤ 140737488355328) :
    Calls Tryz.prog 50 #[.pointer (some ⟨W, 0, none⟩), .pointer (some ⟨M, p, none⟩)] w fun e w' => e = .returned (.tuple #[]) ∧ VS w' B W (L + 10 + 1024 * 140090) (fs ++ listF flds xss) ∧ Stq (Wown W) w w' := by
  have CM := hide (vmany_any n hn h hB (by omega))
  have HL := hide hLs
  have HK := hide hk
  have HLN := hide hLs.length
  have HB := hide hB
  have LL := hide hL
  have ltM : Hid (M < w.heap.size) := World.block_lt_of_cell? w _ hc
  have HS := hide hS
  clear h hB hL hLs hk hS
  go_enter Tryz.func50, Tryz.ntmps50
  go_wp2_with fail
  refine CM.out.mono ?_
  rintro e w1 ⟨k, rfl, hmv⟩
  have c1 := hmv.c1
  have KN : Hid (k ≤ n ∧ k ≤ 1024) := hmv.le
  have MV := hide hmv
  clear hmv CM hc
  go_wp2_with fail
  clear c1
  go_loopw [6] (fun i wr => ∃ j : Nat, j ≤ k ∧ i = .int .i64 j ∧ Hid (Stq (Wown W) w wr) ∧ Hid (VLoop wr B W L 140090 fs n k xss j)) (fun i _ => k - (intOf i).toNat)
  case atStart => exact ⟨0, Nat.zero_le _, rfl, MV.out.1, MV.out.start 140090 xss⟩
  case round =>
    clear MV
    obtain ⟨j, hj, rfl, HST, HV⟩ := hrel
    by_cases hlt : j < k
    · have i1 : (j : Int) < (k : Int) := by omega
      have i2 : (0 : Int) ≤ (j : Int) := by omega
      obtain ⟨hkn, hn1024, hvs⟩ := HV.out.good hlt
      have i3 : (j : Int) < (n : Int) := by omega
      have n0 : 0 < n := by omega
      have jn : j < n := by omega
      have HKN := hide hkn
      clear hkn
      obtain ⟨xs, hx⟩ : ∃ xs, xss[j]? = some xs := ⟨_, List.getElem?_eq_getElem (by rw [HLN.out]; exact jn)⟩
      have VV := hide hvs
      have HX := hide hx
      cases ho : okAll (fs ++ fldN n :: ((xss.take j).map flds).flatten) with
      | true =>
        obtain ⟨b, off, cs, rfl, hP, hcl, hcells, hvals⟩ := (HL.out.stq HST.out).row hx n0
        obtain ⟨v0, v1, v2, v3, v4, v5, v6, v7, v8, v9, v10, rfl⟩ : ∃ v0 v1 v2 v3 v4 v5 v6 v7 v8 v9 v10, cs = [v0, v1, v2, v3, v4, v5, v6, v7, v8, v9, v10] := by
          match cs, hcl with
          | [v0, v1, v2, v3, v4, v5, v6, v7, v8, v9, v10], _ => exact ⟨_, _, _, _, _, _, _, _, _, _, _, rfl⟩
        have q0 : (wr.alloc (.cells #[.int .i64 0, .int .i64 0, .int .i64 0, .int .i64 0, .int .i64 0, .int .i64 0, .string ⟨#[]⟩, .string ⟨#[]⟩, .int .i64 0, .int .i64 0, .int .i64 0] 69)).cell? ⟨b, off + j * 11, none⟩ = some v0 := (World.cell?_alloc_lt wr _ _ (World.block_lt_of_cell? wr _ (hcells 0 v0 rfl))).trans (hcells 0 v0 rfl)
        have q1 : (wr.alloc (.cells #[.int .i64 0, .int .i64 0, .int .i64 0, .int .i64 0, .int .i64 0, .int .i64 0, .string ⟨#[]⟩, .string ⟨#[]⟩, .int .i64 0, .int .i64 0, .int .i64 0] 69)).cell? ⟨b, off + j * 11 + 1, none⟩ = some v1 := (World.cell?_alloc_lt wr _ _ (World.block_lt_of_cell? wr _ (hcells 1 v1 rfl))).trans (hcells 1 v1 rfl)
        have q2 : (wr.alloc (.cells #[.int .i64 0, .int .i64 0, .int .i64 0, .int .i64 0, .int .i64 0, .int .i64 0, .string ⟨#[]⟩, .string ⟨#[]⟩, .int .i64 0, .int .i64 0, .int .i64 0] 69)).cell? ⟨b, off + j * 11 + 2, none⟩ = some v2 := (World.cell?_alloc_lt wr _ _ (World.block_lt_of_cell? wr _ (hcells 2 v2 rfl))).trans (hcells 2 v2 rfl)
        have q3 : (wr.alloc (.cells #[.int .i64 0, .int .i64 0, .int .i64 0, .int .i64 0, .int .i64 0, .int .i64 0, .string ⟨#[]⟩, .string ⟨#[]⟩, .int .i64 0, .int .i64 0, .int .i64 0] 69)).cell? ⟨b, off + j * 11 + 3, none⟩ = some v3 := (World.cell?_alloc_lt wr _ _ (World.block_lt_of_cell? wr _ (hcells 3 v3 rfl))).trans (hcells 3 v3 rfl)
        have q4 : (wr.alloc (.cells #[.int .i64 0, .int .i64 0, .int .i64 0, .int .i64 0, .int .i64 0, .int .i64 0, .string ⟨#[]⟩, .string ⟨#[]⟩, .int .i64 0, .int .i64 0, .int .i64 0] 69)).cell? ⟨b, off + j * 11 + 4, none⟩ = some v4 := (World.cell?_alloc_lt wr _ _ (World.block_lt_of_cell? wr _ (hcells 4 v4 rfl))).trans (hcells 4 v4 rfl)
        have q5 : (wr.alloc (.cells #[.int .i64 0, .int .i64 0, .int .i64 0, .int .i64 0, .int .i64 0, .int .i64 0, .string ⟨#[]⟩, .string ⟨#[]⟩, .int .i64 0, .int .i64 0, .int .i64 0] 69)).cell? ⟨b, off + j * 11 + 5, none⟩ = some v5 := (World.cell?_alloc_lt wr _ _ (World.block_lt_of_cell? wr _ (hcells 5 v5 rfl))).trans (hcells 5 v5 rfl)
        have q6 : (wr.alloc (.cells #[.int .i64 0, .int .i64 0, .int .i64 0, .int .i64 0, .int .i64 0, .int .i64 0, .string ⟨#[]⟩, .string ⟨#[]⟩, .int .i64 0, .int .i64 0, .int .i64 0] 69)).cell? ⟨b, off + j * 11 + 6, none⟩ = some v6 := (World.cell?_alloc_lt wr _ _ (World.block_lt_of_cell? wr _ (hcells 6 v6 rfl))).trans (hcells 6 v6 rfl)
        have q7 : (wr.alloc (.cells #[.int .i64 0, .int .i64 0, .int .i64 0, .int .i64 0, .int .i64 0, .int .i64 0, .string ⟨#[]⟩, .string ⟨#[]⟩, .int .i64 0, .int .i64 0, .int .i64 0] 69)).cell? ⟨b, off + j * 11 + 7, none⟩ = some v7 := (World.cell?_alloc_lt wr _ _ (World.block_lt_of_cell? wr _ (hcells 7 v7 rfl))).trans (hcells 7 v7 rfl)
        have q8 : (wr.alloc (.cells #[.int .i64 0, .int .i64 0, .int .i64 0, .int .i64 0, .int .i64 0, .int .i64 0, .string ⟨#[]⟩, .string ⟨#[]⟩, .int .i64 0, .int .i64 0, .int .i64 0] 69)).cell? ⟨b, off + j * 11 + 8, none⟩ = some v8 := (World.cell?_alloc_lt wr _ _ (World.block_lt_of_cell? wr _ (hcells 8 v8 rfl))).trans (hcells 8 v8 rfl)
        have q9 : (wr.alloc (.cells #[.int .i64 0, .int .i64 0, .int .i64 0, .int .i64 0, .int .i64 0, .int .i64 0, .string ⟨#[]⟩, .string ⟨#[]⟩, .int .i64 0, .int .i64 0, .int .i64 0] 69)).cell? ⟨b, off + j * 11 + 9, none⟩ = some v9 := (World.cell?_alloc_lt wr _ _ (World.block_lt_of_cell? wr _ (hcells 9 v9 rfl))).trans (hcells 9 v9 rfl)
        have q10 : (wr.alloc (.cells #[.int .i64 0, .int .i64 0, .int .i64 0, .int .i64 0, .int .i64 0, .int .i64 0, .string ⟨#[]⟩, .string ⟨#[]⟩, .int .i64 0, .int .i64 0, .int .i64 0] 69)).cell? ⟨b, off + j * 11 + 10, none⟩ = some v10 := (World.cell?_alloc_lt wr _ _ (World.block_lt_of_cell? wr _ (hcells 10 v10 rfl))).trans (hcells 10 v10 rfl)
        have d1 : (wr.alloc (.cells #[.int .i64 0, .int .i64 0, .int .i64 0, .int .i64 0, .int .i64 0, .int .i64 0, .string ⟨#[]⟩, .string ⟨#[]⟩, .int .i64 0, .int .i64 0, .int .i64 0] 69)).cell? ⟨W, 1, none⟩ = some (.pointer none) := (World.cell?_alloc_lt wr _ _ hvs.lt).trans hvs.c1
        have ONE := hide hvals.one
        have VP := hide (vwait_any (M := wr.heap.size) (o := 0) (hvs.below (below_alloc1 wr (.cells #[v0, v1, v2, v3, v4, v5, v6, v7, v8, v9, v10] 69))) (Nat.le_trans HB.out (Nat.le_trans HST.out.size (by simp))) (le_turn (by have := KN.out; omega) LL.out) (flat_new hvs hvals (fun b hb => ⟨hb.1, hb.2.1⟩) 69) (room_new wr #[v0, v1, v2, v3, v4, v5, v6, v7, v8, v9, v10] 69 11 rfl) (HK.out xs (List.mem_of_getElem? hx)) (by simp) (vown_new hvs (.cells #[v0, v1, v2, v3, v4, v5, v6, v7, v8, v9, v10] 69)))
        have CM := hide (vmore_any hvs)
        rw [ho] at CM
        clear hvs hvals hcells hcl hP hx ho
        go_wp2_with fail
        refine CM.out.mono ?_
        rintro e w2 ⟨rfl, rfl⟩
        go_wp2_with (refine wpList_store_row rfl 69 (.tmp 7) (.tmp 39) rfl w2.heap.size #[v0, v1, v2, v3, v4, v5, v6, v7, v8, v9, v10] rfl rfl 69 #[.int .i64 0, .int .i64 0, .int .i64 0, .int .i64 0, .int .i64 0, .int .i64 0, .string ⟨#[]⟩, .string ⟨#[]⟩, .int .i64 0, .int .i64 0, .int .i64 0] (heap_alloc_new w2 _) (by kernel_rfl) rfl ONE.out ?_)
        rw [setRow_alloc]
        refine VP.out.mono ?_
        rintro e w3 ⟨rfl, hv3, hs3⟩
        have c3 := hv3.c1
        have V3 := hide hv3
        have S3 : Hid (Stq (Wown W) w w3) := HST.out.trans (hs3.inner (stq_below (below_alloc1 _ _) VV.out.lt) (Nat.le_refl _))
        clear hv3 hs3 VP CM d1
        go_wp2_with fail
        go_roundw
        case rel => exact ⟨j + 1, by omega, by go_num, S3, VLoop.next (D := 140090) HKN.out hn1024 HX.out V3.out (le_step L j 140090) (le_loop (by have := KN.out; omega) LL.out)⟩
        case measure => simp [intOf]; omega
      | false =>
        have CM := hide (vmore_any hvs)
        rw [ho] at CM
        have NO := hide ho
        clear hvs hx ho
        go_wp2_with fail
        refine CM.out.mono ?_
        rintro e w2 ⟨rfl, rfl⟩
        go_wp2_with fail
        refine bodyPost_end (results_none rfl _ _ _) rfl ?_
        exact ⟨rfl, VLoop.stop (D := 140090) HLN.out VV.out NO.out (Nat.add_le_add_left (Nat.mul_le_mul_right _ (by have := KN.out; omega)) _) LL.out, HST.out⟩
    · obtain rfl : j = k := by omega
      go_wp2_with fail
      refine bodyPost_end (results_none rfl _ _ _) rfl ?_
      exact ⟨rfl, VLoop.done (D := 140090) HV.out HLN.out LL.out, HST.out⟩
end Go.Proofs.YthklpkmdmkgjiaaGreat

namespace Go.Proofs.YthklpkmdmkgjiaaGreat
open Go.ChangeShapes Go.WideShapes Go.ChangeAt Go.RowKit B8 Cm Wm
set_option linter.unusedVariables false

set_option maxRecDepth 100000 in
set_option maxHeartbeats 4000000 in
theorem vlist_deals {w : World} {B W L : Nat} {fs : List Fld} {M p : Nat} {a : Option Addr} {n cp : Nat} {xss : List (List Atom)} (h : VS w B W L fs) (hB : B ≤ w.heap.size) (hL : L + 10 + 1024 * 140060 ≤ 70368744177664) (hc : w.cell? ⟨M, p, none⟩ = some (.slice a n cp)) (hLs : Ls w (Out (Wown W) M w) a n cp 8 xss) (hk : ∀ xs ∈ xss, xs.map Atom.k = [0, 0, 3, 3, 0, 0, 0, 0]) (hS : ¬ Wown W w M) (hn : n ≤ 140737488355328) :
    Calls Tryz.prog 51 #[.pointer (some ⟨W, 0, none⟩), .pointer (some ⟨M, p, none⟩)] w fun e w' => e = .returned (.tuple #[]) ∧ VS w' B W (L + 10 + 1024 * 140060) (fs ++ listF flds xss) ∧ Stq (Wown W) w w' := by
  have CM := hide (vmany_any n hn h hB (by omega))
  have HL := hide hLs
  have HK := hide hk
  have HLN := hide hLs.length
  have HB := hide hB
  have LL := hide hL
  have ltM : Hid (M < w.heap.size) := World.block_lt_of_cell? w _ hc
  have HS := hide hS
  clear h hB hL hLs hk hS
  go_enter Tryz.func51, Tryz.ntmps51
  go_wp2_with fail
  refine CM.out.mono ?_
  rintro e w1 ⟨k, rfl, hmv⟩
  have c1 := hmv.c1
  have KN : Hid (k ≤ n ∧ k ≤ 1024) := hmv.le
  have MV := hide hmv
  clear hmv CM hc
  go_wp2_with fail
  clear c1
  go_loopw [6] (fun i wr => ∃ j : Nat, j ≤ k ∧ i = .int .i64 j ∧ Hid (Stq (Wown W) w wr) ∧ Hid (VLoop wr B W L 140060 fs n k xss j)) (fun i _ => k - (intOf i).toNat)
  case atStart => exact ⟨0, Nat.zero_le _, rfl, MV.out.1, MV.out.start 140060 xss⟩
  case round =>
    clear MV
    obtain ⟨j, hj, rfl, HST, HV⟩ := hrel
    by_cases hlt : j < k
    · have i1 : (j : Int) < (k : Int) := by omega
      have i2 : (0 : Int) ≤ (j : Int) := by omega
      obtain ⟨hkn, hn1024, hvs⟩ := HV.out.good hlt
      have i3 : (j : Int) < (n : Int) := by omega
      have n0 : 0 < n := by omega
      have jn : j < n := by omega
      have HKN := hide hkn
      clear hkn
      obtain ⟨xs, hx⟩ : ∃ xs, xss[j]? = some xs := ⟨_, List.getElem?_eq_getElem (by rw [HLN.out]; exact jn)⟩
      have VV := hide hvs
      have HX := hide hx
      cases ho : okAll (fs ++ fldN n :: ((xss.take j).map flds).flatten) with
      | true =>
        obtain ⟨b, off, cs, rfl, hP, hcl, hcells, hvals⟩ := (HL.out.stq HST.out).row hx n0
        obtain ⟨v0, v1, v2, v3, v4, v5, v6, v7, rfl⟩ : ∃ v0 v1 v2 v3 v4 v5 v6 v7, cs = [v0, v1, v2, v3, v4, v5, v6, v7] := by
          match cs, hcl with
          | [v0, v1, v2, v3, v4, v5, v6, v7], _ => exact ⟨_, _, _, _, _, _, _, _, rfl⟩
        have q0 : (wr.alloc (.cells #[.int .i64 0, .int .i64 0, .string ⟨#[]⟩, .string ⟨#[]⟩, .int .i64 0, .int .i64 0, .int .i64 0, .int .i64 0] 72)).cell? ⟨b, off + j * 8, none⟩ = some v0 := (World.cell?_alloc_lt wr _ _ (World.block_lt_of_cell? wr _ (hcells 0 v0 rfl))).trans (hcells 0 v0 rfl)
        have q1 : (wr.alloc (.cells #[.int .i64 0, .int .i64 0, .string ⟨#[]⟩, .string ⟨#[]⟩, .int .i64 0, .int .i64 0, .int .i64 0, .int .i64 0] 72)).cell? ⟨b, off + j * 8 + 1, none⟩ = some v1 := (World.cell?_alloc_lt wr _ _ (World.block_lt_of_cell? wr _ (hcells 1 v1 rfl))).trans (hcells 1 v1 rfl)
        have q2 : (wr.alloc (.cells #[.int .i64 0, .int .i64 0, .string ⟨#[]⟩, .string ⟨#[]⟩, .int .i64 0, .int .i64 0, .int .i64 0, .int .i64 0] 72)).cell? ⟨b, off + j * 8 + 2, none⟩ = some v2 := (World.cell?_alloc_lt wr _ _ (World.block_lt_of_cell? wr _ (hcells 2 v2 rfl))).trans (hcells 2 v2 rfl)
        have q3 : (wr.alloc (.cells #[.int .i64 0, .int .i64 0, .string ⟨#[]⟩, .string ⟨#[]⟩, .int .i64 0, .int .i64 0, .int .i64 0, .int .i64 0] 72)).cell? ⟨b, off + j * 8 + 3, none⟩ = some v3 := (World.cell?_alloc_lt wr _ _ (World.block_lt_of_cell? wr _ (hcells 3 v3 rfl))).trans (hcells 3 v3 rfl)
        have q4 : (wr.alloc (.cells #[.int .i64 0, .int .i64 0, .string ⟨#[]⟩, .string ⟨#[]⟩, .int .i64 0, .int .i64 0, .int .i64 0, .int .i64 0] 72)).cell? ⟨b, off + j * 8 + 4, none⟩ = some v4 := (World.cell?_alloc_lt wr _ _ (World.block_lt_of_cell? wr _ (hcells 4 v4 rfl))).trans (hcells 4 v4 rfl)
        have q5 : (wr.alloc (.cells #[.int .i64 0, .int .i64 0, .string ⟨#[]⟩, .string ⟨#[]⟩, .int .i64 0, .int .i64 0, .int .i64 0, .int .i64 0] 72)).cell? ⟨b, off + j * 8 + 5, none⟩ = some v5 := (World.cell?_alloc_lt wr _ _ (World.block_lt_of_cell? wr _ (hcells 5 v5 rfl))).trans (hcells 5 v5 rfl)
        have q6 : (wr.alloc (.cells #[.int .i64 0, .int .i64 0, .string ⟨#[]⟩, .string ⟨#[]⟩, .int .i64 0, .int .i64 0, .int .i64 0, .int .i64 0] 72)).cell? ⟨b, off + j * 8 + 6, none⟩ = some v6 := (World.cell?_alloc_lt wr _ _ (World.block_lt_of_cell? wr _ (hcells 6 v6 rfl))).trans (hcells 6 v6 rfl)
        have q7 : (wr.alloc (.cells #[.int .i64 0, .int .i64 0, .string ⟨#[]⟩, .string ⟨#[]⟩, .int .i64 0, .int .i64 0, .int .i64 0, .int .i64 0] 72)).cell? ⟨b, off + j * 8 + 7, none⟩ = some v7 := (World.cell?_alloc_lt wr _ _ (World.block_lt_of_cell? wr _ (hcells 7 v7 rfl))).trans (hcells 7 v7 rfl)
        have d1 : (wr.alloc (.cells #[.int .i64 0, .int .i64 0, .string ⟨#[]⟩, .string ⟨#[]⟩, .int .i64 0, .int .i64 0, .int .i64 0, .int .i64 0] 72)).cell? ⟨W, 1, none⟩ = some (.pointer none) := (World.cell?_alloc_lt wr _ _ hvs.lt).trans hvs.c1
        have ONE := hide hvals.one
        have VP := hide (vdeal_any (M := wr.heap.size) (o := 0) (hvs.below (below_alloc1 wr (.cells #[v0, v1, v2, v3, v4, v5, v6, v7] 72))) (Nat.le_trans HB.out (Nat.le_trans HST.out.size (by simp))) (le_turn (by have := KN.out; omega) LL.out) (flat_new hvs hvals (fun b hb => ⟨hb.1, hb.2.1⟩) 72) (room_new wr #[v0, v1, v2, v3, v4, v5, v6, v7] 72 8 rfl) (HK.out xs (List.mem_of_getElem? hx)) (by simp) (vown_new hvs (.cells #[v0, v1, v2, v3, v4, v5, v6, v7] 72)))
        have CM := hide (vmore_any hvs)
        rw [ho] at CM
        clear hvs hvals hcells hcl hP hx ho
        go_wp2_with fail
        refine CM.out.mono ?_
        rintro e w2 ⟨rfl, rfl⟩
        go_wp2_with (refine wpList_store_row rfl 72 (.tmp 7) (.tmp 39) rfl w2.heap.size #[v0, v1, v2, v3, v4, v5, v6, v7] rfl rfl 72 #[.int .i64 0, .int .i64 0, .string ⟨#[]⟩, .string ⟨#[]⟩, .int .i64 0, .int .i64 0, .int .i64 0, .int .i64 0] (heap_alloc_new w2 _) (by kernel_rfl) rfl ONE.out ?_)
        rw [setRow_alloc]
        refine VP.out.mono ?_
        rintro e w3 ⟨rfl, hv3, hs3⟩
        have c3 := hv3.c1
        have V3 := hide hv3
        have S3 : Hid (Stq (Wown W) w w3) := HST.out.trans (hs3.inner (stq_below (below_alloc1 _ _) VV.out.lt) (Nat.le_refl _))
        clear hv3 hs3 VP CM d1
        go_wp2_with fail
        go_roundw
        case rel => exact ⟨j + 1, by omega, by go_num, S3, VLoop.next (D := 140060) HKN.out hn1024 HX.out V3.out (le_step L j 140060) (le_loop (by have := KN.out; omega) LL.out)⟩
        case measure => simp [intOf]; omega
      | false =>
        have CM := hide (vmore_any hvs)
        rw [ho] at CM
        have NO := hide ho
        clear hvs hx ho
        go_wp2_with fail
        refine CM.out.mono ?_
        rintro e w2 ⟨rfl, rfl⟩
        go_wp2_with fail
        refine bodyPost_end (results_none rfl _ _ _) rfl ?_
        exact ⟨rfl, VLoop.stop (D := 140060) HLN.out VV.out NO.out (Nat.add_le_add_left (Nat.mul_le_mul_right _ (by have := KN.out; omega)) _) LL.out, HST.out⟩
    · obtain rfl : j = k := by omega
      go_wp2_with fail
      refine bodyPost_end (results_none rfl _ _ _) rfl ?_
      exact ⟨rfl, VLoop.done (D := 140060) HV.out HLN.out LL.out, HST.out⟩
end Go.Proofs.YthklpkmdmkgjiaaGreat

namespace Go.Proofs.YthklpkmdmkgjiaaGreat
open Go.ChangeShapes Go.WideShapes Go.ChangeAt Go.RowKit B8 Cm Wm
set_option linter.unusedVariables false

set_option maxRecDepth 100000 in
set_option maxHeartbeats 4000000 in
theorem vlist_ends {w : World} {B W L : Nat} {fs : List Fld} {M p : Nat} {a : Option Addr} {n cp : Nat} {xss : List (List Atom)} (h : VS w B W L fs) (hB : B ≤ w.heap.size) (hL : L + 10 + 1024 * 20 ≤ 70368744177664) (hc : w.cell? ⟨M, p, none⟩ = some (.slice a n cp)) (hLs : Ls w (Out (Wown W) M w) a n cp 2 xss) (hk : ∀ xs ∈ xss, xs.map Atom.k = [0, 0]) (hS : ¬ Wown W w M) (hn : n ≤ 140737488355328) :
    Calls Tryz.prog 52 #[.pointer (some ⟨W, 0, none⟩), .pointer (some ⟨M, p, none⟩)] w fun e w' => e = .returned (.tuple #[]) ∧ VS w' B W (L + 10 + 1024 * 20) (fs ++ listF flds xss) ∧ Stq (Wown W) w w' := by
  have CM := hide (vmany_any n hn h hB (by omega))
  have HL := hide hLs
  have HK := hide hk
  have HLN := hide hLs.length
  have HB := hide hB
  have LL := hide hL
  have ltM : Hid (M < w.heap.size) := World.block_lt_of_cell? w _ hc
  have HS := hide hS
  clear h hB hL hLs hk hS
  go_enter Tryz.func52, Tryz.ntmps52
  go_wp2_with fail
  refine CM.out.mono ?_
  rintro e w1 ⟨k, rfl, hmv⟩
  have c1 := hmv.c1
  have KN : Hid (k ≤ n ∧ k ≤ 1024) := hmv.le
  have MV := hide hmv
  clear hmv CM hc
  go_wp2_with fail
  clear c1
  go_loopw [6] (fun i wr => ∃ j : Nat, j ≤ k ∧ i = .int .i64 j ∧ Hid (Stq (Wown W) w wr) ∧ Hid (VLoop wr B W L 20 fs n k xss j)) (fun i _ => k - (intOf i).toNat)
  case atStart => exact ⟨0, Nat.zero_le _, rfl, MV.out.1, MV.out.start 20 xss⟩
  case round =>
    clear MV
    obtain ⟨j, hj, rfl, HST, HV⟩ := hrel
    by_cases hlt : j < k
    · have i1 : (j : Int) < (k : Int) := by omega
      have i2 : (0 : Int) ≤ (j : Int) := by omega
      obtain ⟨hkn, hn1024, hvs⟩ := HV.out.good hlt
      have i3 : (j : Int) < (n : Int) := by omega
      have n0 : 0 < n := by omega
      have jn : j < n := by omega
      have HKN := hide hkn
      clear hkn
      obtain ⟨xs, hx⟩ : ∃ xs, xss[j]? = some xs := ⟨_, List.getElem?_eq_getElem (by rw [HLN.out]; exact jn)⟩
      have VV := hide hvs
      have HX := hide hx
      cases ho : okAll (fs ++ fldN n :: ((xss.take j).map flds).flatten) with
      | true =>
        obtain ⟨b, off, cs, rfl, hP, hcl, hcells, hvals⟩ := (HL.out.stq HST.out).row hx n0
        obtain ⟨v0, v1, rfl⟩ : ∃ v0 v1, cs = [v0, v1] := by
          match cs, hcl with
          | [v0, v1], _ => exact ⟨_, _, rfl⟩
        have q0 : (wr.alloc (.cells #[.int .i64 0, .int .i64 0] 75)).cell? ⟨b, off + j * 2, none⟩ = some v0 := (World.cell?_alloc_lt wr _ _ (World.block_lt_of_cell? wr _ (hcells 0 v0 rfl))).trans (hcells 0 v0 rfl)
        have q1 : (wr.alloc (.cells #[.int .i64 0, .int .i64 0] 75)).cell? ⟨b, off + j * 2 + 1, none⟩ = some v1 := (World.cell?_alloc_lt wr _ _ (World.block_lt_of_cell? wr _ (hcells 1 v1 rfl))).trans (hcells 1 v1 rfl)
        have d1 : (wr.alloc (.cells #[.int .i64 0, .int .i64 0] 75)).cell? ⟨W, 1, none⟩ = some (.pointer none) := (World.cell?_alloc_lt wr _ _ hvs.lt).trans hvs.c1
        have ONE := hide hvals.one
        have VP := hide (vend_any (M := wr.heap.size) (o := 0) (hvs.below (below_alloc1 wr (.cells #[v0, v1] 75))) (Nat.le_trans HB.out (Nat.le_trans HST.out.size (by simp))) (le_turn (by have := KN.out; omega) LL.out) (flat_new hvs hvals (fun b hb => ⟨hb.1, hb.2.1⟩) 75) (room_new wr #[v0, v1] 75 2 rfl) (HK.out xs (List.mem_of_getElem? hx)) (by simp) (vown_new hvs (.cells #[v0, v1] 75)))
        have CM := hide (vmore_any hvs)
        rw [ho] at CM
        clear hvs hvals hcells hcl hP hx ho
        go_wp2_with fail
        refine CM.out.mono ?_
        rintro e w2 ⟨rfl, rfl⟩
        go_wp2_with (refine wpList_store_row rfl 75 (.tmp 7) (.tmp 39) rfl w2.heap.size #[v0, v1] rfl rfl 75 #[.int .i64 0, .int .i64 0] (heap_alloc_new w2 _) (by kernel_rfl) rfl ONE.out ?_)
        rw [setRow_alloc]
        refine VP.out.mono ?_
        rintro e w3 ⟨rfl, hv3, hs3⟩
        have c3 := hv3.c1
        have V3 := hide hv3
        have S3 : Hid (Stq (Wown W) w w3) := HST.out.trans (hs3.inner (stq_below (below_alloc1 _ _) VV.out.lt) (Nat.le_refl _))
        clear hv3 hs3 VP CM d1
        go_wp2_with fail
        go_roundw
        case rel => exact ⟨j + 1, by omega, by go_num, S3, VLoop.next (D := 20) HKN.out hn1024 HX.out V3.out (le_step L j 20) (le_loop (by have := KN.out; omega) LL.out)⟩
        case measure => simp [intOf]; omega
      | false =>
        have CM := hide (vmore_any hvs)
        rw [ho] at CM
        have NO := hide ho
        clear hvs hx ho
        go_wp2_with fail
        refine CM.out.mono ?_
        rintro e w2 ⟨rfl, rfl⟩
        go_wp2_with fail
        refine bodyPost_end (results_none rfl _ _ _) rfl ?_
        exact ⟨rfl, VLoop.stop (D := 20) HLN.out VV.out NO.out (Nat.add_le_add_left (Nat.mul_le_mul_right _ (by have := KN.out; omega)) _) LL.out, HST.out⟩
    · obtain rfl : j = k := by omega
      go_wp2_with fail
      refine bodyPost_end (results_none rfl _ _ _) rfl ?_
      exact ⟨rfl, VLoop.done (D := 20) HV.out HLN.out LL.out, HST.out⟩
end Go.Proofs.YthklpkmdmkgjiaaGreat
