/- What the document's walk writes of a list of accounts. No condition but the size. -/
import Derived.Test.YthklpkmdmkgjiaaGreatJR
import Derived.Test.YthklpkmdmkgjiaaGreatJL
import Derived.Test.YthklpkmdmkgjiaaGreatFWireLsMore
import Derived.Test.YthklpkmdmkgjiaaGreatFWireDocAcc
import Derived.Test.YthklpkmdmkgjiaaGreatJA
namespace Go.Proofs.YthklpkmdmkgjiaaGreat
open Go.ChangeShapes Go.WideShapes Go.ChangeAt Go.RowKit B8 Cm Wm
set_option linter.unusedVariables false

theorem La.row {w : World} {P : Nat → Prop} {a : Option Addr} {n cp : Nat} {xs : List Acc} (h : La w P a n cp xs) (hk : ∀ x ∈ xs, AccK x) {i : Nat} {x : Acc} (hx : xs[i]? = some x) (h0 : 0 < n) :
    ∃ (b off : Nat) (cs : List Value), a = some ⟨b, off, none⟩ ∧ P b ∧ cs.length = 10 ∧ (∀ j v, cs[j]? = some v → w.cell? ⟨b, off + i * 10 + j, none⟩ = some v) ∧ AccC w P (fun q => cs[q]?) x := by
  obtain ⟨b, off, e, hp, hr⟩ := h.rows h0
  have hf := hr i x hx
  have kx := hk x (List.mem_of_getElem? hx)
  have hc : ∀ j, j < 10 → ((List.range 10).map fun j => (w.cell? ⟨b, off + i * 10 + j, none⟩).getD undef)[j]? = w.cell? ⟨b, off + i * 10 + j, none⟩ := fun j hj => by
    obtain ⟨v, h1, _⟩ := hf.cell kx j hj
    have h1 : w.cell? ⟨b, off + i * 10 + j, none⟩ = some v := h1
    rw [List.getElem?_map, List.getElem?_range hj, h1]
    simp [h1]
  refine ⟨b, off, (List.range 10).map fun j => (w.cell? ⟨b, off + i * 10 + j, none⟩).getD undef, e, hp, by simp, fun j v hv => ?_, hf.same (fun j hj => hc j hj) kx (fun b hb => ⟨hb, rfl⟩)⟩
  have hj : j < 10 := by have := (List.getElem?_eq_some_iff.1 hv).1; simpa using this
  rw [hc j hj] at hv
  exact hv
theorem acc_one {w : World} {P : Nat → Prop} {cs : List Value} {x : Acc} (h : AccC w P (fun q => cs[q]?) x) (hk : AccK x) (hl : cs.length = 10 := by rfl) : cs.toArray.all (·.oneCell') = true := by
  rw [Array.all_eq_true_iff_forall_mem]
  intro v hv
  obtain ⟨j, hj, e⟩ := Array.getElem_of_mem hv
  have hj' : j < 10 := by rw [← hl]; simpa using hj
  obtain ⟨u, h1, h2⟩ := h.cell hk j hj'
  have h1 : cs[j]? = some u := h1
  rw [List.getElem?_eq_getElem (by omega)] at h1
  have e2 : cs[j]'(by omega) = v := by simpa using e
  rw [e2] at h1
  obtain rfl := Option.some.inj h1
  exact h2
theorem acc_new {w : World} {B W L : Nat} {fs : List Fld} {P : Nat → Prop} {cs : List Value} {x : Acc} (h : VS w B W L fs) (hv : AccC w P (fun q => cs[q]?) x) (hk : AccK x) (hP : ∀ b, P b → b < w.heap.size ∧ ¬ Wown W w b) (T : TypeId) :
    AccAt (w.alloc (.cells cs.toArray T)) (Out (Wown W) w.heap.size (w.alloc (.cells cs.toArray T))) w.heap.size 0 x := by
  have hb := below_alloc1 w (.cells cs.toArray T)
  have hq := stq_below hb h.lt
  refine hv.same (fun j _ => ?_) hk (fun b hb2 => ⟨⟨Nat.lt_of_lt_of_le (hP b hb2).1 hb.size, hq.keep (hP b hb2).1 (hP b hb2).2, by have := (hP b hb2).1; omega⟩, hb.block b (hP b hb2).1⟩)
  show (w.alloc (.cells cs.toArray T)).cell? ⟨w.heap.size, 0 + j, none⟩ = cs[j]?
  rw [cell_of_row _ _ _ _ _ _ (heap_alloc_new w (.cells cs.toArray T)), Nat.zero_add]
  simp
theorem La.stq' {S : World → Nat → Prop} {w w1 : World} {M : Nat} {a : Option Addr} {n cp : Nat} {xs : List Acc} (h : La w (Out S M w) a n cp xs) (hk : ∀ x ∈ xs, AccK x) (g : Stq S w w1) : La w1 (Out S M w1) a n cp xs :=
  h.same hk (fun b hb => ⟨⟨Nat.lt_of_lt_of_le hb.1 g.size, g.keep hb.1 hb.2.1, hb.2.2⟩, g.block b hb.1 hb.2.1⟩)
def VLoopA (u : World) (B W L D : Nat) (fs : List Fld) (n k : Nat) (xss : List Acc) (j : Nat) : Prop :=
  (k = n ∧ n ≤ 1024 ∧ VS u B W (L + 10 + j * D) (fs ++ fldN n :: ((xss.take j).map Acc.flds).flatten)) ∨ (k = 0 ∧ (okAll fs = false ∨ 1024 < n) ∧ VSbad u B W (L + 10))
section
variable {w u : World} {B W L D : Nat} {fs : List Fld} {n k j : Nat} {xss : List Acc} {xs : Acc}
theorem mva_start {w u : World} {B W L : Nat} {fs : List Fld} {n k : Nat} (h : ManyV w B W L fs n k u) (D : Nat) (xss : List Acc) : VLoopA u B W L D fs n k xss 0 := by
  rcases h.2 with ⟨h1, h2, h3⟩ | h
  · exact .inl ⟨h1, h2, by simpa using h3⟩
  · exact .inr h
theorem VLoopA.good (h : VLoopA u B W L D fs n k xss j) (hj : j < k) : k = n ∧ n ≤ 1024 ∧ VS u B W (L + 10 + j * D) (fs ++ fldN n :: ((xss.take j).map Acc.flds).flatten) := by
  rcases h with h | ⟨h, _⟩
  · exact h
  · omega
theorem VLoopA.next (hk : k = n) (hn : n ≤ 1024) (hx : xss[j]? = some xs) {L1 : Nat} (h : VS u B W L1 (fs ++ fldN n :: ((xss.take j).map Acc.flds).flatten ++ xs.flds)) (hl : L1 ≤ L + 10 + (j + 1) * D) (hr : L + 10 + (j + 1) * D ≤ 70368744177664) : VLoopA u B W L D fs n k xss (j + 1) := by
  refine .inl ⟨hk, hn, ?_⟩
  have e : xss.take (j + 1) = xss.take j ++ [xs] := by rw [List.take_add_one, hx]; rfl
  rw [e, List.map_append, List.flatten_append]
  have h' := h.wide (L' := L + 10 + (j + 1) * D) hl hr
  simpa using h'
theorem VLoopA.stop (hl : xss.length = n) (h : VS u B W (L + 10 + j * D) (fs ++ fldN n :: ((xss.take j).map Acc.flds).flatten)) (ho : okAll (fs ++ fldN n :: ((xss.take j).map Acc.flds).flatten) = false) (hj : L + 10 + j * D ≤ L + 10 + 1024 * D) (hr : L + 10 + 1024 * D ≤ 70368744177664) : VS u B W (L + 10 + 1024 * D) (fs ++ listF Acc.flds xss) := by
  refine (h.bad ho _ ?_).wide hj hr
  unfold listF
  rw [hl]
  have e : (xss.map Acc.flds).flatten = ((xss.take j).map Acc.flds).flatten ++ ((xss.drop j).map Acc.flds).flatten := by rw [← List.flatten_append, ← List.map_append, List.take_append_drop]
  rw [e, ← List.cons_append, ← List.append_assoc]
  exact okAll_left _ _ ho
theorem VLoopA.done (h : VLoopA u B W L D fs n k xss k) (hl : xss.length = n) (hr : L + 10 + 1024 * D ≤ 70368744177664) : VS u B W (L + 10 + 1024 * D) (fs ++ listF Acc.flds xss) := by
  unfold listF
  rw [hl]
  rcases h with ⟨rfl, hn, h⟩ | ⟨rfl, hn, h⟩
  · rw [List.take_of_length_le (by omega)] at h
    exact h.wide (by have := Nat.mul_le_mul_right D hn; omega) hr
  · exact (h _ (bad_fields hn _)).wide (by omega) hr
end
set_option maxRecDepth 100000 in
set_option maxHeartbeats 4000000 in
theorem vlist_accounts {w : World} {B W L : Nat} {fs : List Fld} {M p : Nat} {a : Option Addr} {n cp : Nat} {xss : List Acc} (h : VS w B W L fs) (hB : B ≤ w.heap.size) (hL : L + 10 + 1024 * 111050 ≤ 70368744177664) (hc : w.cell? ⟨M, p, none⟩ = some (.slice a n cp)) (hLs : La w (Out (Wown W) M w) a n cp xss) (hk : ∀ x ∈ xss, AccK x) (hnh : ∀ x ∈ xss, x.hs.length ≤ 140737488355328) (hS : ¬ Wown W w M) (hn : n ≤ 140737488355328) :
    Calls Tryz.prog 48 #[.pointer (some ⟨W, 0, none⟩), .pointer (some ⟨M, p, none⟩)] w fun e w' => e = .returned (.tuple #[]) ∧ VS w' B W (L + 10 + 1024 * 111050) (fs ++ listF Acc.flds xss) ∧ Stq (Wown W) w w' := by
  have CM := hide (vmany_any n hn h hB (by omega))
  have HL := hide hLs
  have HK := hide hk
  have HLN := hide hLs.length
  have HNH := hide hnh
  have HB := hide hB
  have LL := hide hL
  have ltM : Hid (M < w.heap.size) := World.block_lt_of_cell? w _ hc
  have HS := hide hS
  clear h hB hL hLs hk hS hnh
  go_enter Tryz.func48, Tryz.ntmps48
  go_wp2_with fail
  refine CM.out.mono ?_
  rintro e w1 ⟨k, rfl, hmv⟩
  have c1 := hmv.c1
  have KN : Hid (k ≤ n ∧ k ≤ 1024) := hmv.le
  have MV := hide hmv
  clear hmv CM hc
  go_wp2_with fail
  clear c1
  go_loopw [6] (fun i wr => ∃ j : Nat, j ≤ k ∧ i = .int .i64 j ∧ Hid (Stq (Wown W) w wr) ∧ Hid (VLoopA wr B W L 111050 fs n k xss j)) (fun i _ => k - (intOf i).toNat)
  case atStart => exact ⟨0, Nat.zero_le _, rfl, MV.out.1, mva_start MV.out 111050 xss⟩
  case round =>
    clear MV
    obtain ⟨j, hj, rfl, HST, HV⟩ := hrel
    by_cases hlt : j < k
    · have i1 : (j : Int) < (k : Int) := by omega
      have i2 : (0 : Int) ≤ (j : Int) := by omega
      obtain ⟨hkn, hn1024, hvs⟩ := HV.out.good hlt
      have i3 : (j : Int) < (n : Int) := by omega
      have n0 : 0 < n := by omega
      have jn : j < n := by omega
      have HKN := hide hkn
      clear hkn
      obtain ⟨xs, hx⟩ : ∃ xs, xss[j]? = some xs := ⟨_, List.getElem?_eq_getElem (by rw [HLN.out]; exact jn)⟩
      have VV := hide hvs
      have HX := hide hx
      cases ho : okAll (fs ++ fldN n :: ((xss.take j).map Acc.flds).flatten) with
      | true =>
        obtain ⟨b, off, cs, rfl, hP, hcl, hcells, hvals⟩ := (HL.out.stq' HK.out HST.out).row HK.out hx n0
        obtain ⟨v0, v1, v2, v3, v4, v5, v6, v7, v8, v9, rfl⟩ : ∃ v0 v1 v2 v3 v4 v5 v6 v7 v8 v9, cs = [v0, v1, v2, v3, v4, v5, v6, v7, v8, v9] := by
          match cs, hcl with
          | [v0, v1, v2, v3, v4, v5, v6, v7, v8, v9], _ => exact ⟨_, _, _, _, _, _, _, _, _, _, rfl⟩
        have q0 : (wr.alloc (.cells #[.string ⟨#[]⟩, .int .i64 0, .int .i64 0, .int .i64 0, .int .i64 0, .slice none 0 0, .int .i64 0, .int .i64 0, .int .i64 0, .int .i64 0] 94)).cell? ⟨b, off + j * 10, none⟩ = some v0 := (World.cell?_alloc_lt wr _ _ (World.block_lt_of_cell? wr _ (hcells 0 v0 rfl))).trans (hcells 0 v0 rfl)
        have q1 : (wr.alloc (.cells #[.string ⟨#[]⟩, .int .i64 0, .int .i64 0, .int .i64 0, .int .i64 0, .slice none 0 0, .int .i64 0, .int .i64 0, .int .i64 0, .int .i64 0] 94)).cell? ⟨b, off + j * 10 + 1, none⟩ = some v1 := (World.cell?_alloc_lt wr _ _ (World.block_lt_of_cell? wr _ (hcells 1 v1 rfl))).trans (hcells 1 v1 rfl)
        have q2 : (wr.alloc (.cells #[.string ⟨#[]⟩, .int .i64 0, .int .i64 0, .int .i64 0, .int .i64 0, .slice none 0 0, .int .i64 0, .int .i64 0, .int .i64 0, .int .i64 0] 94)).cell? ⟨b, off + j * 10 + 2, none⟩ = some v2 := (World.cell?_alloc_lt wr _ _ (World.block_lt_of_cell? wr _ (hcells 2 v2 rfl))).trans (hcells 2 v2 rfl)
        have q3 : (wr.alloc (.cells #[.string ⟨#[]⟩, .int .i64 0, .int .i64 0, .int .i64 0, .int .i64 0, .slice none 0 0, .int .i64 0, .int .i64 0, .int .i64 0, .int .i64 0] 94)).cell? ⟨b, off + j * 10 + 3, none⟩ = some v3 := (World.cell?_alloc_lt wr _ _ (World.block_lt_of_cell? wr _ (hcells 3 v3 rfl))).trans (hcells 3 v3 rfl)
        have q4 : (wr.alloc (.cells #[.string ⟨#[]⟩, .int .i64 0, .int .i64 0, .int .i64 0, .int .i64 0, .slice none 0 0, .int .i64 0, .int .i64 0, .int .i64 0, .int .i64 0] 94)).cell? ⟨b, off + j * 10 + 4, none⟩ = some v4 := (World.cell?_alloc_lt wr _ _ (World.block_lt_of_cell? wr _ (hcells 4 v4 rfl))).trans (hcells 4 v4 rfl)
        have q5 : (wr.alloc (.cells #[.string ⟨#[]⟩, .int .i64 0, .int .i64 0, .int .i64 0, .int .i64 0, .slice none 0 0, .int .i64 0, .int .i64 0, .int .i64 0, .int .i64 0] 94)).cell? ⟨b, off + j * 10 + 5, none⟩ = some v5 := (World.cell?_alloc_lt wr _ _ (World.block_lt_of_cell? wr _ (hcells 5 v5 rfl))).trans (hcells 5 v5 rfl)
        have q6 : (wr.alloc (.cells #[.string ⟨#[]⟩, .int .i64 0, .int .i64 0, .int .i64 0, .int .i64 0, .slice none 0 0, .int .i64 0, .int .i64 0, .int .i64 0, .int .i64 0] 94)).cell? ⟨b, off + j * 10 + 6, none⟩ = some v6 := (World.cell?_alloc_lt wr _ _ (World.block_lt_of_cell? wr _ (hcells 6 v6 rfl))).trans (hcells 6 v6 rfl)
        have q7 : (wr.alloc (.cells #[.string ⟨#[]⟩, .int .i64 0, .int .i64 0, .int .i64 0, .int .i64 0, .slice none 0 0, .int .i64 0, .int .i64 0, .int .i64 0, .int .i64 0] 94)).cell? ⟨b, off + j * 10 + 7, none⟩ = some v7 := (World.cell?_alloc_lt wr _ _ (World.block_lt_of_cell? wr _ (hcells 7 v7 rfl))).trans (hcells 7 v7 rfl)
        have q8 : (wr.alloc (.cells #[.string ⟨#[]⟩, .int .i64 0, .int .i64 0, .int .i64 0, .int .i64 0, .slice none 0 0, .int .i64 0, .int .i64 0, .int .i64 0, .int .i64 0] 94)).cell? ⟨b, off + j * 10 + 8, none⟩ = some v8 := (World.cell?_alloc_lt wr _ _ (World.block_lt_of_cell? wr _ (hcells 8 v8 rfl))).trans (hcells 8 v8 rfl)
        have q9 : (wr.alloc (.cells #[.string ⟨#[]⟩, .int .i64 0, .int .i64 0, .int .i64 0, .int .i64 0, .slice none 0 0, .int .i64 0, .int .i64 0, .int .i64 0, .int .i64 0] 94)).cell? ⟨b, off + j * 10 + 9, none⟩ = some v9 := (World.cell?_alloc_lt wr _ _ (World.block_lt_of_cell? wr _ (hcells 9 v9 rfl))).trans (hcells 9 v9 rfl)
        have d1 : (wr.alloc (.cells #[.string ⟨#[]⟩, .int .i64 0, .int .i64 0, .int .i64 0, .int .i64 0, .slice none 0 0, .int .i64 0, .int .i64 0, .int .i64 0, .int .i64 0] 94)).cell? ⟨W, 1, none⟩ = some (.pointer none) := (World.cell?_alloc_lt wr _ _ hvs.lt).trans hvs.c1
        have ONE : Hid ((#[v0, v1, v2, v3, v4, v5, v6, v7, v8, v9] : Array Value).all (·.oneCell') = true) := acc_one hvals (HK.out xs (List.mem_of_getElem? hx))
        have VP := hide (vaccount_any (M := wr.heap.size) (o := 0) (hvs.below (below_alloc1 wr (.cells #[v0, v1, v2, v3, v4, v5, v6, v7, v8, v9] 94))) (Nat.le_trans HB.out (Nat.le_trans HST.out.size (by simp))) (le_turn (by have := KN.out; omega) LL.out) (acc_new hvs hvals (HK.out xs (List.mem_of_getElem? hx)) (fun b hb => ⟨hb.1, hb.2.1⟩) 94) (room_new wr #[v0, v1, v2, v3, v4, v5, v6, v7, v8, v9] 94 10 rfl) (HK.out xs (List.mem_of_getElem? hx)) (by simp) (vown_new hvs (.cells #[v0, v1, v2, v3, v4, v5, v6, v7, v8, v9] 94)) (HNH.out xs (List.mem_of_getElem? hx)))
        have CM := hide (vmore_any hvs)
        rw [ho] at CM
        clear hvs hvals hcells hcl hP hx ho
        go_wp2_with fail
        refine CM.out.mono ?_
        rintro e w2 ⟨rfl, rfl⟩
        go_wp2_with (refine wpList_store_row rfl 94 (.tmp 7) (.tmp 39) rfl w2.heap.size #[v0, v1, v2, v3, v4, v5, v6, v7, v8, v9] rfl rfl 94 #[.string ⟨#[]⟩, .int .i64 0, .int .i64 0, .int .i64 0, .int .i64 0, .slice none 0 0, .int .i64 0, .int .i64 0, .int .i64 0, .int .i64 0] (heap_alloc_new w2 _) (by kernel_rfl) rfl ONE.out ?_)
        rw [setRow_alloc]
        refine VP.out.mono ?_
        rintro e w3 ⟨rfl, hv3, hs3⟩
        have c3 := hv3.c1
        have V3 := hide hv3
        have S3 : Hid (Stq (Wown W) w w3) := HST.out.trans (hs3.inner (stq_below (below_alloc1 _ _) VV.out.lt) (Nat.le_refl _))
        clear hv3 hs3 VP CM d1
        go_wp2_with fail
        go_roundw
        case rel => exact ⟨j + 1, by omega, by go_num, S3, VLoopA.next (D := 111050) HKN.out hn1024 HX.out V3.out (le_step L j 111050) (le_loop (by have := KN.out; omega) LL.out)⟩
        case measure => simp [intOf]; omega
      | false =>
        have CM := hide (vmore_any hvs)
        rw [ho] at CM
        have NO := hide ho
        clear hvs hx ho
        go_wp2_with fail
        refine CM.out.mono ?_
        rintro e w2 ⟨rfl, rfl⟩
        go_wp2_with fail
        refine bodyPost_end (results_none rfl _ _ _) rfl ?_
        exact ⟨rfl, VLoopA.stop (D := 111050) HLN.out VV.out NO.out (Nat.add_le_add_left (Nat.mul_le_mul_right _ (by have := KN.out; omega)) _) LL.out, HST.out⟩
    · obtain rfl : j = k := by omega
      go_wp2_with fail
      refine bodyPost_end (results_none rfl _ _ _) rfl ?_
      exact ⟨rfl, VLoopA.done (D := 111050) HV.out HLN.out LL.out, HST.out⟩
end Go.Proofs.YthklpkmdmkgjiaaGreat
