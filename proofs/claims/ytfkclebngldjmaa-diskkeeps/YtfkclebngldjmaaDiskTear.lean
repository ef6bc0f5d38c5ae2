/- The landed disk's tear: what a fall keeps. No condition. -/
import Derived.Test.YtfkclebngldjmaaDiskRead
import Derived.Test.YtfkclebngldjmaaSqI
namespace Go.Proofs.Ytfkclebngldjmaa
open Go.ChangeShapes Go.WideShapes Go.ChangeAt Go.RowKit B8 Dm
set_option linter.unusedVariables false

/-- the first bytes of a block are written -/
theorem Bks.part {w : World} {g N : Nat} {K : Nat → List Int} (h : Bks w g N K) (hK : ∀ i, i < N → (K i).length = 64) {i n : Nat} {bs : List Int} (hi : i < N) (hb : bs.length = 64) (hn : n ≤ 64) : Bks (w.setCells g (i * 64) (vals (bs.take n))) g N (upd K (i, tornB (K i) bs n)) := by
  have hl : (vals (bs.take n)).length = n := by rw [vals_length]; simp; omega
  refine ⟨fun j hj => ?_, fun j hj => World.there_setCells (h.there j hj) _ _ _⟩
  by_cases e : j = i
  · subst e
    have e1 : upd K (j, tornB (K j) bs n) j = tornB (K j) bs n := by simp [upd]
    rw [e1]
    intro q v hv
    unfold tornB at hv
    rw [vals_append] at hv
    by_cases hq : q < n
    · rw [List.getElem?_append_left (by omega)] at hv
      exact World.rangeAt_setCells_same w g (j * 64) (vals (bs.take n)) (by rw [hl]; intro a ha; exact h.there j hj a (by omega)) q v hv
    · rw [List.getElem?_append_right (by omega), hl] at hv
      rw [World.cell?_setCells_out g _ _ _ _ (fun _ _ => by right; show _ ≤ _; rw [hl]; simp; omega)]
      refine h.cells j hj q v ?_
      rw [← hv]
      simp only [vals, List.getElem?_map, List.getElem?_drop]
      rw [show n + (q - n) = q by omega]
  · have e1 : upd K (i, tornB (K i) bs n) j = K j := by simp [upd, e]
    rw [e1]
    refine World.rangeAt_setCells_apart (h.cells j hj) _ _ _ (.inr ?_)
    rw [vals_length, hl, hK j hj]
    omega
/-- all that waited is set to what is kept -/
theorem over_same (K : Nat → List Int) : ∀ (ws : List (Nat × List Int)) (S : Nat → List Int) (i : Nat), over S (ws.map (fun y => (y.1, K y.1))) i = K i ∨ ((∀ y ∈ ws, y.1 ≠ i) ∧ over S (ws.map (fun y => (y.1, K y.1))) i = S i)
  | [], S, i => .inr ⟨fun _ h => by simp at h, rfl⟩
  | y :: r, S, i => by
    show over (upd S (y.1, K y.1)) (r.map _) i = K i ∨ _
    rcases over_same K r (upd S (y.1, K y.1)) i with h | ⟨h1, h2⟩
    · exact .inl h
    · by_cases e : i = y.1
      · left; rw [h2]; simp [upd, e]
      · right
        refine ⟨fun z hz => ?_, ?_⟩
        · rcases List.mem_cons.1 hz with rfl | hz
          · exact fun h => e h.symm
          · exact h1 z hz
        · show over (upd S (y.1, K y.1)) (r.map _) i = S i
          rw [h2]; simp [upd, e]
theorem over_torn (K0 : Nat → List Int) (ws : List (Nat × List Int)) (keep : List Int) : over (over K0 ws) (ws.map (fun y => (y.1, torn K0 keep 0 ws y.1))) = torn K0 keep 0 ws := by
  funext i
  rcases over_same (torn K0 keep 0 ws) ws (over K0 ws) i with h | ⟨h1, h2⟩
  · exact h
  · rw [h2, over_far ws K0 i h1, torn_far keep ws K0 0 i h1]
/-- copy of bytes into the midst of a row, as a step of a region that draws its order -/
theorem step_copy_mid {ops : Array Oper} {o : Oper} {act : Act} {K : Act → World → Prop} {Q : Exit → Act → World → Prop} {E : Prop} (w : World) (hg : o.guard = none) (d s : Operand)
    (hop : o.op = .call { callee := .builtin .copy, args := #[d, s], argTypes := #[46, 46] }) (b q dLen dCap : Nat) (a : Addr) (sLen sCap : Nat) (hd : act.eval d = .slice (some ⟨b, q, none⟩) dLen dCap) (hs : act.eval s = .slice (some a) sLen sCap)
    (cs : List Value) (hn : cs.length = Nat.min sLen dLen) (hsrc : ∀ j v, cs[j]? = some v → w.cell? (a.add j) = some v) (ht : w.there b q cs.length) (h1 : ∀ v ∈ cs, v.oneCell' = true)
    (hK : K (act.put o.dst (goInt cs.length)) (w.setCells b q cs)) : if Region.wanted o (yielded ops act.tmps) = true then Oper.wp Try.prog o act w K Q else E := by
  have hw : Region.wanted o (yielded ops act.tmps) = true := by simp [Region.wanted, hg]
  rw [if_pos hw]
  obtain ⟨i, hi, hz, hsz, hb⟩ := info_parts info
  have hr := run_copy_cells (P := Try.prog) w 46 46 o.type 5 b q dLen dCap a sLen sCap cs Try.underlying46 (by rw [hi, Option.map_some, hsz]) hn hsrc (fun j hj => (ht j hj).1) (fun j hj => (ht j hj).2) h1
  unfold Oper.wp execOp
  simp only [hop, resolve, invoke, builtin, Sem.run_bind, Sem.run_pure, Result.andThen_ok, List.map_toArray, List.map_cons, List.map_nil, hd, hs, hr]
  exact hK
theorem arr_len : Try.prog.arrayLen 72 = 64 := by kernel_rfl
/-- the first bytes of a block -/
theorem cut_block (n : Nat) (hn : n ≤ 64) (b o : Nat) (w : World) : (Instr.sliceAt 72 (.pointer (some ⟨b, o, none⟩)) none (some (.int .i64 n)) none).run Try.prog w = .ok (.slice (some ⟨b, o, none⟩) n 64) w := by
  simp [Instr.sliceAt, Instr.sureAddr, run_underlying Try.underlying72, Instr.sliceBounds, Instr.sliceBound, asIntOf]
  rw [if_pos hn, Addr.add_mid]
  rfl
/-- what the store of a block leaves, where the block comes out of another row -/
theorem store_keeps3 {W : World} {D g k N o o' n : Nat} {v v' u : Value} {xs ys : List Value} (h : W.cell? ⟨D, 1, none⟩ = some v ∧ W.cell? ⟨D, 0, none⟩ = some v' ∧ W.cell? ⟨N, 0, none⟩ = some u ∧ W.rangeAt k o xs ∧ W.there g o n) (h1 : g ≠ D) (h2 : N ≠ g) (h3 : k ≠ g) :
    (W.setCells g o' ys).cell? ⟨D, 1, none⟩ = some v ∧ (W.setCells g o' ys).cell? ⟨D, 0, none⟩ = some v' ∧ (W.setCells g o' ys).cell? ⟨N, 0, none⟩ = some u ∧ (W.setCells g o' ys).rangeAt k o xs ∧ (W.setCells g o' ys).there g o n :=
  ⟨(World.cell?_setCells_out _ _ _ _ _ (fun e => absurd e.symm h1)).trans h.1, (World.cell?_setCells_out _ _ _ _ _ (fun e => absurd e.symm h1)).trans h.2.1, (World.cell?_setCells_out _ _ _ _ _ (fun e => absurd e h2)).trans h.2.2.1, World.rangeAt_setCells_apart h.2.2.2.1 _ _ _ (.inl h3), World.there_setCells h.2.2.2.2 _ _ _⟩
theorem kn_le0 {keep : List Int} {i : Nat} {v : Int} (h : keep[i]?.getD 0 = v) (hv : v ≤ 0) : kn keep i = 0 := by unfold kn; rw [h]; omega
theorem kn_mid {keep : List Int} {i n : Nat} (h : keep[i]?.getD 0 = (n : Int)) (hv : n ≤ 64) : kn keep i = n := by unfold kn; rw [h]; omega
theorem kn_ge {keep : List Int} {i : Nat} {v : Int} (h : keep[i]?.getD 0 = v) (hv : 64 ≤ v) : kn keep i = 64 := by unfold kn; rw [h]; omega
attribute [local go_sem ↓] ld65_from ld65_cells

set_option maxRecDepth 100000 in
set_option maxHeartbeats 1000000 in
theorem tear_main {w : World} {D gk ck gs cs m cv : Nat} {av : Option Addr} {s : Ds} (h : Dk w D gk ck gs cs av m cv s) (hm : m < 4000000000000) {ka : Option Addr} {kl kc : Nat} {ks : List Int} (q : I8.Sq w ka kl kc ks) (hq : 0 < kl → ∀ b off, ka = some ⟨b, off, none⟩ → b ≠ gk ∧ b ≠ gs) (hkl : kl ≤ 140737488355328) :
    Calls Try.prog 39 #[.pointer (some ⟨D, 0, none⟩), .slice ka kl kc] w fun e w' => e = .returned (.tuple #[]) ∧ Chg (Own D gk gs (.slice av m cv)) w w' ∧ Dk w' D gk ck gs cs none 0 0 { s with kept := torn s.kept ks 0 s.ws, ws := [] } := by
  have K := hide h
  have Q := hide q
  have HQ := hide hq
  have c2 := h.c2
  have hlc : m ≤ cv := by
    rcases h.ws.2 with ⟨e1, e2⟩ | ⟨g, cap, cur, e1, _, _, e2, _⟩
    · omega
    · simp at e1; omega
  have i0 : (0 : Int) ≤ (m : Int) := by omega
  have i1 : (m : Int) ≤ (cv : Int) := by omega
  have i2 : (0 : Int) ≤ (kl : Int) := by omega
  clear h q hq
  go_enter Try.func39, Try.ntmps39
  go_wp2_with fail
  obtain ⟨mm, HM⟩ : ∃ mm, Hid (mm = min kl m) := ⟨_, rfl⟩
  go_cut [21, 22, 23] (fun t22 t23 t24 w1 => t22 = .slice av mm cv ∧ t23 = .int .i64 mm ∧ t24 = .int .i64 0 ∧ w1 = w.drew)
  case first =>
    by_cases hlt : m < kl
    · obtain rfl : mm = m := by rw [HM.out]; omega
      have j1 : (mm : Int) < (kl : Int) := by omega
      go_region_held3 (fun w' => w'.cell? ⟨D, 2, none⟩ = some (.slice av mm cv)) (exact c2) (fail)
      all_goals go_wp2_with fail
      all_goals (go_meet; case rel => exact ⟨rfl, rfl, rfl, rfl⟩)
    · obtain rfl : mm = kl := by rw [HM.out]; omega
      have j1 : (mm : Int) ≤ (m : Int) := by omega
      have j2 : (mm : Int) ≤ (cv : Int) := by omega
      have j3 : mm ≤ cv := by omega
      go_region_held3 (fun w' => w'.cell? ⟨D, 2, none⟩ = some (.slice av m cv)) (exact c2) (fail)
      all_goals go_wp2_with fail
      all_goals (go_meet; case rel => exact ⟨rfl, rfl, rfl, rfl⟩)
  case rest =>
    obtain ⟨rfl, rfl, rfl, rfl⟩ := hcut
    have hmm : mm ≤ m := by rw [HM.out]; omega
    have hmk : mm ≤ kl := by rw [HM.out]; omega
    go_wp2_with fail
    go_loopw [23] (fun i wr => ∃ k : Nat, k ≤ mm ∧ i = .int .i64 k ∧ Hid (Chg (fun j => j = gk ∨ j = gs) w wr) ∧ Hid (Bks wr gk s.n (torn s.kept ks 0 (s.ws.take k))) ∧ Hid (wr.heap[gs]? = w.heap[gs]?)) (fun i _ => mm - (intOf i).toNat)
    case atStart => exact ⟨0, by omega, rfl, (Chg.refl _ _).drew, K.out.kept.same rfl, rfl⟩
    case round =>
      obtain ⟨k, hk, rfl, HC, HB, HG⟩ := hrel
      by_cases hlt : k < mm
      · obtain ⟨gw, cp', ev, _, ltw⟩ := K.out.ws.form (by omega)
        obtain ⟨rfl, rfl⟩ : av = some ⟨gw, 0, none⟩ ∧ cv = cp' := by simpa using ev
        obtain ⟨x, hx⟩ : ∃ x, s.ws[k]? = some x := ⟨_, List.getElem?_eq_getElem (by rw [← K.out.len]; omega)⟩
        have HX := hide hx
        have EL := hide (elem_at K.out HC.out hx)
        have WL := wcell_length EL.out.2.2.1
        have LD := ldw EL.out.1 WL
        have hzv := zero_write
        have hst := store_elem x WL
        have TL : Hid ((s.ws.take k).length = k) := by show _ = _; have := K.out.len; simp; omega
        have i3 : (k : Int) < (mm : Int) := by omega
        have i4 : (0 : Int) ≤ (k : Int) := by omega
        have i5 : (k : Int) < (kl : Int) := by omega
        clear hx ev
        have eD : Hid (wr.heap[D]? = w.heap[D]?) := HC.out.block D K.out.ltD (fun e => by rcases e with e | e; exact K.out.k1 e.symm; exact K.out.s1 e.symm)
        have ltk : Hid (gk < wr.heap.size) := Nat.lt_of_lt_of_le K.out.ltk HC.out.size
        have ltD : Hid (D < wr.heap.size) := Nat.lt_of_lt_of_le K.out.ltD HC.out.size
        obtain ⟨kb, koff, ek, hkc⟩ := Q.out.cells (by omega)
        subst ek
        have kcell : wr.cell? ⟨kb, koff + k, none⟩ = some (.int .i64 (ks[k]?.getD 0)) := (World.cell?_of_block (a := ⟨kb, koff + k, none⟩) (HC.out.block kb (World.block_lt_of_cell? w _ (hkc k (by omega))) (fun e => by have := HQ.out (by omega) kb koff rfl; rcases e with e | e; exact this.1 e; exact this.2 e))).trans (hkc k (by omega))
        have kcell3 : (wr.alloc (.cells (wcell x).toArray 74)).cell? ⟨kb, koff + k, none⟩ = some (.int .i64 (ks[k]?.getD 0)) := (World.cell?_alloc_lt wr _ _ (World.block_lt_of_cell? wr _ kcell)).trans kcell
        clear hkc kcell
        obtain ⟨w3, e3⟩ : ∃ w3, w3 = wr.alloc (.cells (wcell x).toArray 74) := ⟨_, rfl⟩
        have VC := hide (var_cells e3)
        have o3 : Hid (∀ j, j < wr.heap.size → w3.heap[j]? = wr.heap[j]?) := fun j hj => by rw [e3]; exact heap_push_lt _ hj
        have C3 : Hid (Chg (fun j => j = gk ∨ j = gs) w w3) := by rw [e3]; exact HC.out.alloc _
        have B3 : Hid (Bks w3 gk s.n (torn s.kept ks 0 (s.ws.take k))) := HB.out.same (o3.out gk ltk.out)
        have G3 : Hid (w3.heap[gs]? = w.heap[gs]?) := (o3.out gs (Nat.lt_of_lt_of_le K.out.lts HC.out.size)).trans HG.out
        have y0 : w3.cell? ⟨D, 0, none⟩ = some (.slice (some ⟨gk, 0, none⟩) s.n ck) := (World.cell?_of_block (a := ⟨D, 0, none⟩) ((o3.out D ltD.out).trans eD.out)).trans K.out.c0
        have y1 := VC.out.1
        have y2 := VC.out.2
        have y3 : w3.there gk (x.1 * 64) 64 := B3.out.there x.1 EL.out.2.1
        have gkD : gk ≠ D := K.out.k1
        have hN : wr.heap.size ≠ gk := by have := ltk.out; omega
        have b1 : (0 : Int) ≤ (x.1 : Int) := by omega
        have b2 : (x.1 : Int) < (s.n : Int) := by have := EL.out.2.1; omega
        rw [← e3] at kcell3
        have hst3 : (storeCells ⟨wr.heap.size, 0, none⟩ (wcell x)).run Try.prog (wr.alloc (.cells zwr 74)) = .ok () w3 := by rw [hst, e3]
        clear e3 hst
        generalize hv : ks[k]?.getD 0 = v at kcell3
        have HV := hide hv
        clear hv
        by_cases v1 : v < 0
        · have HN : Hid (kn ks k = 0) := kn_le0 HV.out (by omega)
          have VT : Hid ((vals (x.2.take 0)).length = 0) := by show _ = _; rw [vals_length, List.length_take]; have := EL.out.2.2.1; omega
          have SR : Hid (∀ j v, (vals (x.2.take 0))[j]? = some v → w3.cell? ((⟨wr.heap.size, 1, none⟩ : Addr).add j) = some v) := fun j v hv => by
            rw [Addr.add_mid]
            refine y2 j v ?_
            simp only [vals, List.getElem?_map, List.getElem?_take] at hv ⊢
            split at hv
            · exact hv
            · cases hv
          have TH : Hid (w3.there gk (x.1 * 64) (vals (x.2.take 0)).length) := fun j hj => y3 j (by have := VT.out; omega)
          have MN : Hid ((vals (x.2.take 0)).length = Nat.min 0 0) := by show _ = _; rw [VT.out]; exact (Nat.min_self _).symm
          go_wp2_with fail
          go_region_held3 (fun w' => w'.cell? ⟨D, 0, none⟩ = some (.slice (some ⟨gk, 0, none⟩) s.n ck) ∧ w'.cell? ⟨wr.heap.size, 0, none⟩ = some (.int .i64 x.1) ∧ w'.rangeAt wr.heap.size 1 (vals x.2) ∧ w'.there gk (x.1 * 64) 64)
            (first | exact ⟨y0, y1, y2, y3⟩ | (refine store_keeps2 ?_ gkD hN; assumption))
            (refine step_copy_mid _ (by rfl) (.tmp 42) (.tmp 45) (by rfl) gk (x.1 * 64) 0 64 ⟨wr.heap.size, 1, none⟩ 0 64 (by rfl) (by rfl) (vals (x.2.take 0)) MN.out SR.out TH.out (vals_one _) ?_)
          clear y0 y1 y2 y3
          rw [setCells_drew]
          go_wp2_with fail
          go_roundw
          case rel =>
            refine ⟨k + 1, by omega, by go_num, ?_, ?_, ?_⟩
            · exact (Chg.setCells gk (.inl (.inl rfl)) _ _ C3.out).drew
            · show Bks _ gk _ _
              rw [take_snoc HX.out, torn_snoc, TL.out, Nat.zero_add, HN.out]
              exact (B3.out.part (fun i hi => (torn_blk ks _ 0 K.out.ok.kept (fun y hy => K.out.ok.ws y (List.mem_of_mem_take hy)) i hi).1) EL.out.2.1 EL.out.2.2.1 (by omega)).same rfl
            · show _ = _
              exact (heap_setCells gk _ _ w3 gs K.out.ks.symm).trans G3.out
          case measure => simp [intOf]; omega
        · by_cases v2 : v = 0
          · subst v2
            have HN : Hid (kn ks k = 0) := kn_le0 HV.out (by omega)
            have VT : Hid ((vals (x.2.take 0)).length = 0) := by show _ = _; rw [vals_length, List.length_take]; have := EL.out.2.2.1; omega
            have SR : Hid (∀ j v, (vals (x.2.take 0))[j]? = some v → w3.cell? ((⟨wr.heap.size, 1, none⟩ : Addr).add j) = some v) := fun j v hv => by
              rw [Addr.add_mid]
              refine y2 j v ?_
              simp only [vals, List.getElem?_map, List.getElem?_take] at hv ⊢
              split at hv
              · exact hv
              · cases hv
            have TH : Hid (w3.there gk (x.1 * 64) (vals (x.2.take 0)).length) := fun j hj => y3 j (by have := VT.out; omega)
            have MN : Hid ((vals (x.2.take 0)).length = Nat.min 0 0) := by show _ = _; rw [VT.out]; exact (Nat.min_self _).symm
            go_wp2_with fail
            go_region_held3 (fun w' => w'.cell? ⟨D, 0, none⟩ = some (.slice (some ⟨gk, 0, none⟩) s.n ck) ∧ w'.cell? ⟨wr.heap.size, 0, none⟩ = some (.int .i64 x.1) ∧ w'.rangeAt wr.heap.size 1 (vals x.2) ∧ w'.there gk (x.1 * 64) 64)
              (first | exact ⟨y0, y1, y2, y3⟩ | (refine store_keeps2 ?_ gkD hN; assumption))
              (refine step_copy_mid _ (by rfl) (.tmp 42) (.tmp 45) (by rfl) gk (x.1 * 64) 0 64 ⟨wr.heap.size, 1, none⟩ 0 64 (by rfl) (by rfl) (vals (x.2.take 0)) MN.out SR.out TH.out (vals_one _) ?_)
            clear y0 y1 y2 y3
            rw [setCells_drew]
            go_wp2_with fail
            go_roundw
            case rel =>
              refine ⟨k + 1, by omega, by go_num, ?_, ?_, ?_⟩
              · exact (Chg.setCells gk (.inl (.inl rfl)) _ _ C3.out).drew
              · show Bks _ gk _ _
                rw [take_snoc HX.out, torn_snoc, TL.out, Nat.zero_add, HN.out]
                exact (B3.out.part (fun i hi => (torn_blk ks _ 0 K.out.ok.kept (fun y hy => K.out.ok.ws y (List.mem_of_mem_take hy)) i hi).1) EL.out.2.1 EL.out.2.2.1 (by omega)).same rfl
              · show _ = _
                exact (heap_setCells gk _ _ w3 gs K.out.ks.symm).trans G3.out
            case measure => simp [intOf]; omega
          · by_cases v3 : v < 64
            · obtain ⟨n, rfl⟩ : ∃ n : Nat, v = (n : Int) := ⟨v.toNat, by omega⟩
              have n1 : 0 < n := by omega
              have n2 : n < 64 := by omega
              have n3 : n ≤ 64 := by omega
              have HN : Hid (kn ks k = n) := kn_mid HV.out (by omega)
              have hcb := cut_block n n3
              have VT : Hid ((vals (x.2.take n)).length = n) := by show _ = _; rw [vals_length, List.length_take]; have := EL.out.2.2.1; omega
              have SR : Hid (∀ j v, (vals (x.2.take n))[j]? = some v → w3.cell? ((⟨wr.heap.size, 1, none⟩ : Addr).add j) = some v) := fun j v hv => by
                rw [Addr.add_mid]
                refine y2 j v ?_
                simp only [vals, List.getElem?_map, List.getElem?_take] at hv ⊢
                split at hv
                · exact hv
                · cases hv
              have TH : Hid (w3.there gk (x.1 * 64) (vals (x.2.take n)).length) := fun j hj => y3 j (by have := VT.out; omega)
              have MN : Hid ((vals (x.2.take n)).length = Nat.min n n) := by show _ = _; rw [VT.out]; exact (Nat.min_self _).symm
              go_wp2_with fail
              go_region_held3 (fun w' => w'.cell? ⟨D, 0, none⟩ = some (.slice (some ⟨gk, 0, none⟩) s.n ck) ∧ w'.cell? ⟨wr.heap.size, 0, none⟩ = some (.int .i64 x.1) ∧ w'.rangeAt wr.heap.size 1 (vals x.2) ∧ w'.there gk (x.1 * 64) 64)
                (first | exact ⟨y0, y1, y2, y3⟩ | (refine store_keeps2 ?_ gkD hN; assumption))
                (refine step_copy_mid _ (by rfl) (.tmp 42) (.tmp 45) (by rfl) gk (x.1 * 64) n 64 ⟨wr.heap.size, 1, none⟩ n 64 (by rfl) (by rfl) (vals (x.2.take n)) MN.out SR.out TH.out (vals_one _) ?_)
              clear y0 y1 y2 y3
              rw [setCells_drew]
              go_wp2_with fail
              go_roundw
              case rel =>
                refine ⟨k + 1, by omega, by go_num, ?_, ?_, ?_⟩
                · exact (Chg.setCells gk (.inl (.inl rfl)) _ _ C3.out).drew
                · show Bks _ gk _ _
                  rw [take_snoc HX.out, torn_snoc, TL.out, Nat.zero_add, HN.out]
                  exact (B3.out.part (fun i hi => (torn_blk ks _ 0 K.out.ok.kept (fun y hy => K.out.ok.ws y (List.mem_of_mem_take hy)) i hi).1) EL.out.2.1 EL.out.2.2.1 (by omega)).same rfl
                · show _ = _
                  exact (heap_setCells gk _ _ w3 gs K.out.ks.symm).trans G3.out
              case measure => simp [intOf]; omega
            · by_cases v4 : v = 64
              · subst v4
                have HN : Hid (kn ks k = 64) := kn_ge HV.out (by omega)
                have VT : Hid ((vals (x.2.take 64)).length = 64) := by show _ = _; rw [vals_length, List.length_take]; have := EL.out.2.2.1; omega
                have SR : Hid (∀ j v, (vals (x.2.take 64))[j]? = some v → w3.cell? ((⟨wr.heap.size, 1, none⟩ : Addr).add j) = some v) := fun j v hv => by
                  rw [Addr.add_mid]
                  refine y2 j v ?_
                  simp only [vals, List.getElem?_map, List.getElem?_take] at hv ⊢
                  split at hv
                  · exact hv
                  · cases hv
                have TH : Hid (w3.there gk (x.1 * 64) (vals (x.2.take 64)).length) := fun j hj => y3 j (by have := VT.out; omega)
                have MN : Hid ((vals (x.2.take 64)).length = Nat.min 64 64) := by show _ = _; rw [VT.out]; exact (Nat.min_self _).symm
                go_wp2_with fail
                go_region_held3 (fun w' => w'.cell? ⟨D, 0, none⟩ = some (.slice (some ⟨gk, 0, none⟩) s.n ck) ∧ w'.cell? ⟨wr.heap.size, 0, none⟩ = some (.int .i64 x.1) ∧ w'.rangeAt wr.heap.size 1 (vals x.2) ∧ w'.there gk (x.1 * 64) 64)
                  (first | exact ⟨y0, y1, y2, y3⟩ | (refine store_keeps2 ?_ gkD hN; assumption))
                  (refine step_copy_mid _ (by rfl) (.tmp 42) (.tmp 45) (by rfl) gk (x.1 * 64) 64 64 ⟨wr.heap.size, 1, none⟩ 64 64 (by rfl) (by rfl) (vals (x.2.take 64)) MN.out SR.out TH.out (vals_one _) ?_)
                clear y0 y1 y2 y3
                rw [setCells_drew]
                go_wp2_with fail
                go_roundw
                case rel =>
                  refine ⟨k + 1, by omega, by go_num, ?_, ?_, ?_⟩
                  · exact (Chg.setCells gk (.inl (.inl rfl)) _ _ C3.out).drew
                  · show Bks _ gk _ _
                    rw [take_snoc HX.out, torn_snoc, TL.out, Nat.zero_add, HN.out]
                    exact (B3.out.part (fun i hi => (torn_blk ks _ 0 K.out.ok.kept (fun y hy => K.out.ok.ws y (List.mem_of_mem_take hy)) i hi).1) EL.out.2.1 EL.out.2.2.1 (by omega)).same rfl
                  · show _ = _
                    exact (heap_setCells gk _ _ w3 gs K.out.ks.symm).trans G3.out
                case measure => simp [intOf]; omega
              · have v5 : 64 < v := by omega
                have HN : Hid (kn ks k = 64) := kn_ge HV.out (by omega)
                have VT : Hid ((vals (x.2.take 64)).length = 64) := by show _ = _; rw [vals_length, List.length_take]; have := EL.out.2.2.1; omega
                have SR : Hid (∀ j v, (vals (x.2.take 64))[j]? = some v → w3.cell? ((⟨wr.heap.size, 1, none⟩ : Addr).add j) = some v) := fun j v hv => by
                  rw [Addr.add_mid]
                  refine y2 j v ?_
                  simp only [vals, List.getElem?_map, List.getElem?_take] at hv ⊢
                  split at hv
                  · exact hv
                  · cases hv
                have TH : Hid (w3.there gk (x.1 * 64) (vals (x.2.take 64)).length) := fun j hj => y3 j (by have := VT.out; omega)
                have MN : Hid ((vals (x.2.take 64)).length = Nat.min 64 64) := by show _ = _; rw [VT.out]; exact (Nat.min_self _).symm
                go_wp2_with fail
                go_region_held3 (fun w' => w'.cell? ⟨D, 0, none⟩ = some (.slice (some ⟨gk, 0, none⟩) s.n ck) ∧ w'.cell? ⟨wr.heap.size, 0, none⟩ = some (.int .i64 x.1) ∧ w'.rangeAt wr.heap.size 1 (vals x.2) ∧ w'.there gk (x.1 * 64) 64)
                  (first | exact ⟨y0, y1, y2, y3⟩ | (refine store_keeps2 ?_ gkD hN; assumption))
                  (refine step_copy_mid _ (by rfl) (.tmp 42) (.tmp 45) (by rfl) gk (x.1 * 64) 64 64 ⟨wr.heap.size, 1, none⟩ 64 64 (by rfl) (by rfl) (vals (x.2.take 64)) MN.out SR.out TH.out (vals_one _) ?_)
                clear y0 y1 y2 y3
                rw [setCells_drew]
                go_wp2_with fail
                go_roundw
                case rel =>
                  refine ⟨k + 1, by omega, by go_num, ?_, ?_, ?_⟩
                  · exact (Chg.setCells gk (.inl (.inl rfl)) _ _ C3.out).drew
                  · show Bks _ gk _ _
                    rw [take_snoc HX.out, torn_snoc, TL.out, Nat.zero_add, HN.out]
                    exact (B3.out.part (fun i hi => (torn_blk ks _ 0 K.out.ok.kept (fun y hy => K.out.ok.ws y (List.mem_of_mem_take hy)) i hi).1) EL.out.2.1 EL.out.2.2.1 (by omega)).same rfl
                  · show _ = _
                    exact (heap_setCells gk _ _ w3 gs K.out.ks.symm).trans G3.out
                case measure => simp [intOf]; omega
      · obtain rfl : k = mm := by omega
        have TT : Hid (torn s.kept ks 0 (s.ws.take k) = torn s.kept ks 0 s.ws) := (torn_take ks s.ws s.kept k (by rw [HM.out, Q.out.length, ← K.out.len])).symm
        rw [TT.out] at HB
        have OB : Hid (∀ i, i < s.n → Blk (torn s.kept ks 0 s.ws i)) := torn_blk ks s.ws 0 K.out.ok.kept K.out.ok.ws
        have OT : Hid (over (over s.kept s.ws) (s.ws.map (fun y => (y.1, torn s.kept ks 0 s.ws y.1))) = torn s.kept ks 0 s.ws) := over_torn s.kept s.ws ks
        generalize hKE : torn s.kept ks 0 s.ws = K' at *
        have HKE := hide hKE
        clear hKE
        have eD : Hid (wr.heap[D]? = w.heap[D]?) := HC.out.block D K.out.ltD (fun e => by rcases e with e | e; exact K.out.k1 e.symm; exact K.out.s1 e.symm)
        have z2 : wr.cell? ⟨D, 2, none⟩ = some (.slice av m cv) := (World.cell?_of_block (a := ⟨D, 2, none⟩) eD.out).trans K.out.c2
        have B0 : Hid (Bks wr gs s.n (over s.kept s.ws)) := K.out.shown.same HG.out
        clear HG TT eD
        go_wp2_with fail
        go_loopw [53] (fun i w2 => ∃ k : Nat, k ≤ m ∧ i = .int .i64 k ∧ Hid (Chg (fun j => j = gk ∨ j = gs) w w2) ∧ Hid (Bks w2 gk s.n K') ∧ Hid (Bks w2 gs s.n (over (over s.kept s.ws) ((s.ws.take k).map (fun y => (y.1, K' y.1)))))) (fun i _ => m - (intOf i).toNat)
        case atStart => exact ⟨0, by omega, rfl, HC, HB, B0⟩
        case round =>
          clear HC HB B0 z2
          obtain ⟨k, hk, rfl, HC, HB, HG⟩ := hrel
          by_cases hlt : k < m
          · obtain ⟨gw, cp', ev, _, ltw⟩ := K.out.ws.form (by omega)
            obtain ⟨rfl, rfl⟩ : av = some ⟨gw, 0, none⟩ ∧ cv = cp' := by simpa using ev
            obtain ⟨x, hx⟩ : ∃ x, s.ws[k]? = some x := ⟨_, List.getElem?_eq_getElem (by rw [← K.out.len]; omega)⟩
            have HX := hide hx
            have EL := hide (elem_at K.out HC.out hx)
            have WL := wcell_length EL.out.2.2.1
            have LD := ldw EL.out.1 WL
            have hzv := zero_write
            have hst := store_elem x WL
            have i3 : (k : Int) < (m : Int) := by omega
            have i4 : (0 : Int) ≤ (k : Int) := by omega
            clear hx ev
            have eD : Hid (wr.heap[D]? = w.heap[D]?) := HC.out.block D K.out.ltD (fun e => by rcases e with e | e; exact K.out.k1 e.symm; exact K.out.s1 e.symm)
            have ltk : Hid (gk < wr.heap.size) := Nat.lt_of_lt_of_le K.out.ltk HC.out.size
            have lts : Hid (gs < wr.heap.size) := Nat.lt_of_lt_of_le K.out.lts HC.out.size
            have ltD : Hid (D < wr.heap.size) := Nat.lt_of_lt_of_le K.out.ltD HC.out.size
            obtain ⟨w3, e3⟩ : ∃ w3, w3 = wr.alloc (.cells (wcell x).toArray 74) := ⟨_, rfl⟩
            have VC := hide (var_cells e3)
            have o3 : Hid (∀ j, j < wr.heap.size → w3.heap[j]? = wr.heap[j]?) := fun j hj => by rw [e3]; exact heap_push_lt _ hj
            have C3 : Hid (Chg (fun j => j = gk ∨ j = gs) w w3) := by rw [e3]; exact HC.out.alloc _
            have B3 : Hid (Bks w3 gk s.n K') := HB.out.same (o3.out gk ltk.out)
            have G3 : Hid (Bks w3 gs s.n (over (over s.kept s.ws) ((s.ws.take k).map (fun y => (y.1, K' y.1))))) := HG.out.same (o3.out gs lts.out)
            have y0 : w3.cell? ⟨D, 1, none⟩ = some (.slice (some ⟨gs, 0, none⟩) s.n cs) := (World.cell?_of_block (a := ⟨D, 1, none⟩) ((o3.out D ltD.out).trans eD.out)).trans K.out.c1
            have y0' : w3.cell? ⟨D, 0, none⟩ = some (.slice (some ⟨gk, 0, none⟩) s.n ck) := (World.cell?_of_block (a := ⟨D, 0, none⟩) ((o3.out D ltD.out).trans eD.out)).trans K.out.c0
            have y1 := VC.out.1
            have y2 : w3.rangeAt gk (x.1 * 64) (vals (K' x.1)) := B3.out.cells x.1 EL.out.2.1
            have y3 : w3.there gs (x.1 * 64) 64 := G3.out.there x.1 EL.out.2.1
            have gsD : gs ≠ D := K.out.s1
            have gks : gk ≠ gs := K.out.ks
            have hN : wr.heap.size ≠ gs := by have := lts.out; omega
            have hst3 : (storeCells ⟨wr.heap.size, 0, none⟩ (wcell x)).run Try.prog (wr.alloc (.cells zwr 74)) = .ok () w3 := by rw [hst, e3]
            have hu72 := Try.underlying72
            have BX : Hid (Blk (K' x.1)) := OB.out x.1 EL.out.2.1
            have VL : (vals (K' x.1)).length = 64 := by rw [vals_length]; exact BX.out.1
            have hi72 : (Try.prog.info? 72).map (·.size) = some (vals (K' x.1)).length := by rw [VL]; exact binfo_size
            have hone := vals_one (K' x.1)
            have b1 : (0 : Int) ≤ (x.1 : Int) := by omega
            have b2 : (x.1 : Int) < (s.n : Int) := by have := EL.out.2.1; omega
            clear e3 hst
            go_wp2_with fail
            clear LD hzv hst3
            go_region_held3 (fun w' => w'.cell? ⟨D, 1, none⟩ = some (.slice (some ⟨gs, 0, none⟩) s.n cs) ∧ w'.cell? ⟨D, 0, none⟩ = some (.slice (some ⟨gk, 0, none⟩) s.n ck) ∧ w'.cell? ⟨wr.heap.size, 0, none⟩ = some (.int .i64 x.1) ∧ w'.rangeAt gk (x.1 * 64) (vals (K' x.1)) ∧ w'.there gs (x.1 * 64) 64)
              (first | exact ⟨y0, y0', y1, y2, y3⟩ | (refine store_keeps3 ?_ gsD hN gks; assumption))
              (fail)
            clear y0 y0' y1 y2 y3
            rw [setCells_drew]
            go_wp2_with fail
            go_roundw
            case rel =>
              refine ⟨k + 1, by omega, by go_num, ?_, ?_, ?_⟩
              · exact (Chg.setCells gs (.inl (.inr rfl)) _ _ C3.out).drew
              · exact B3.out.same (heap_setCells gs _ _ w3 gk gks)
              · show Bks _ gs _ _
                rw [take_snoc HX.out, List.map_append, List.map_cons, List.map_nil, over_snoc]
                exact (G3.out.set (fun i hi => (over_blk _ K.out.ok.shown (fun y hy => by
                  obtain ⟨z, hz, rfl⟩ := List.mem_map.1 hy
                  exact OB.out z.1 (K.out.ok.ws z (List.mem_of_mem_take hz)).1) i hi).1) EL.out.2.1 BX.out.1).same rfl
            case measure => simp [intOf]; omega
          · obtain rfl : k = m := by omega
            have eD : Hid (wr.heap[D]? = w.heap[D]?) := HC.out.block D K.out.ltD (fun e => by rcases e with e | e; exact K.out.k1 e.symm; exact K.out.s1 e.symm)
            have z2 : wr.cell? ⟨D, 2, none⟩ = some (.slice av k cv) := (World.cell?_of_block (a := ⟨D, 2, none⟩) eD.out).trans K.out.c2
            have f2 : wr.frozen? ⟨D, 2, none⟩ = false := (World.frozen?_of_block (a := ⟨D, 2, none⟩) eD.out).trans (K.out.f 2)
            have TK : Hid (s.ws.take k = s.ws) := by show _ = _; rw [K.out.len]; exact List.take_length
            rw [TK.out, OT.out] at HG
            have FI := hide (K.out.fin HC.out HB.out HG.out OB.out)
            go_wp2_with fail
            refine bodyPost_end (results_none rfl _ _ _) rfl ?_
            rw [HKE.out]
            exact ⟨rfl, (HC.out.mono (L' := Own D gk gs (.slice av k cv)) (fun j _ hj => by rcases hj with hj | hj; exact .inr (.inl hj); exact .inr (.inr (.inl hj)))).setCell (p := ⟨D, 2, none⟩) (.inl (.inl rfl)) _, FI.out⟩
end Go.Proofs.Ytfkclebngldjmaa
