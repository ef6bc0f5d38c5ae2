/- The landed disk's Sync and Read. No condition. -/
import Derived.Test.YtfkclebngldjmaaDiskBlock
namespace Go.Proofs.Ytfkclebngldjmaa
open Go.ChangeShapes Go.WideShapes Go.ChangeAt Go.RowKit B8 Dm
set_option linter.unusedVariables false

/-- the rows of what is kept and shown have turned, and then nothing waits -/
theorem Dk.fin {w wr : World} {D gk ck gs cs m cv : Nat} {av : Option Addr} {s : Ds} {K : Nat → List Int} (h : Dk w D gk ck gs cs av m cv s) (hc : Chg (fun k => k = gk ∨ k = gs) w wr) (hk : Bks wr gk s.n K) (hs : Bks wr gs s.n K) (hb : ∀ i, i < s.n → Blk (K i)) :
    Dk (wr.setCell ⟨D, 2, none⟩ (.slice none 0 0)) D gk ck gs cs none 0 0 { s with kept := K, ws := [] } := by
  have eD : wr.heap[D]? = w.heap[D]? := hc.block D h.ltD (fun e => by rcases e with e | e; exact h.k1 e.symm; exact h.s1 e.symm)
  have c : ∀ o, wr.cell? ⟨D, o, none⟩ = w.cell? ⟨D, o, none⟩ := fun o => World.cell?_of_block (a := ⟨D, o, none⟩) eD
  have o : ∀ k, k ≠ D → (wr.setCell ⟨D, 2, none⟩ (.slice none 0 0)).heap[k]? = wr.heap[k]? := fun k hk => Below.heap_setCell _ _ _ _ hk
  refine ⟨?_, ?_, World.cell?_setCell_same _ _ _ ((c 2).trans h.c2), ?_, ?_, fun o => ?_, hk.same (o gk h.k1), hs.same (o gs h.s1), rfl, World.ownsRow_nil _ _ _ _, h.kcap, h.scap, h.k1, h.s1, h.ks, by simp [Value.ownBlock], by simp [Value.ownBlock], by simp [Value.ownBlock], ⟨h.ok.lo, h.ok.hi, hb, fun x hx => by simp at hx, h.ok.left0, h.ok.left1⟩⟩
  · rw [World.cell?_setCell_other _ _ _ _ (by simp), c]; exact h.c0
  · rw [World.cell?_setCell_other _ _ _ _ (by simp), c]; exact h.c1
  · rw [World.cell?_setCell_other _ _ _ _ (by simp), c]; exact h.c3
  · rw [World.cell?_setCell_other _ _ _ _ (by simp), c]; exact h.c4
  · rw [World.frozen?_setCell, World.frozen?_of_block (w := w) (w' := wr) (a := ⟨D, o, none⟩) eD]; exact h.f o
/-- a write that is loaded goes into a new variable -/
theorem store_elem (x : Nat × List Int) (hl : (wcell x).length = 65) (w : World) : (storeCells ⟨w.heap.size, 0, none⟩ (wcell x)).run Try.prog (w.alloc (.cells zwr 74)) = .ok () (w.alloc (.cells (wcell x).toArray 74)) := by
  have := store_new (wcell x).toArray (by simp [hl]) (all_oneCell_toArray (wcell_one x)) w
  simpa using this
/-- what is known of the i-th write that waits, where no row but those of what is kept and shown has turned -/
theorem elem_at {w wr : World} {D gk ck gs cs m cv gw : Nat} {s : Ds} (h : Dk w D gk ck gs cs (some ⟨gw, 0, none⟩) m cv s) (hc : Chg (fun k => k = gk ∨ k = gs) w wr) {i : Nat} {x : Nat × List Int} (hx : s.ws[i]? = some x) :
    wr.rangeAt gw (i * 65) (wcell x) ∧ x.1 < s.n ∧ Blk x.2 := by
  have hm := List.mem_of_getElem? hx
  have e : wr.heap[gw]? = w.heap[gw]? := hc.block gw (h.ws.lt gw rfl).2 (fun e => by rcases e with e | e; exact h.v2 (by rw [← e]; rfl); exact h.v3 (by rw [← e]; rfl))
  exact ⟨rangeAt_same (row_at h.ws (fun y hy => (h.ok.ws y hy).2.1) hx) e, (h.ok.ws x hm).1, (h.ok.ws x hm).2⟩
/-- the variable's cells -/
theorem var_cells {wr w2 : World} {x : Nat × List Int} (e2 : w2 = wr.alloc (.cells (wcell x).toArray 74)) : w2.cell? ⟨wr.heap.size, 0, none⟩ = some (.int .i64 x.1) ∧ w2.rangeAt wr.heap.size 1 (vals x.2) := by
  have g : w2.heap[wr.heap.size]? = some (.cells (wcell x).toArray 74 (0, 0)) := by rw [e2]; exact heap_alloc_new wr _
  refine ⟨by rw [cell_of_row w2 _ 0 _ _ _ g]; simp [wcell], fun j v hv => ?_⟩
  rw [cell_of_row w2 _ (1 + j) _ _ _ g]
  simp [wcell, Nat.add_comm 1 j]
  exact hv
theorem take_snoc {α : Type} {l : List α} {i : Nat} {x : α} (h : l[i]? = some x) : l.take (i + 1) = l.take i ++ [x] := by
  rw [List.take_add_one, h]; rfl
/-- what the store of a block leaves, the variable's number too -/
theorem store_keeps2 {W : World} {D g N o o' n j : Nat} {v u : Value} {xs ys : List Value} (h : W.cell? ⟨D, j, none⟩ = some v ∧ W.cell? ⟨N, 0, none⟩ = some u ∧ W.rangeAt N 1 xs ∧ W.there g o n) (h1 : g ≠ D) (h2 : N ≠ g) : (W.setCells g o' ys).cell? ⟨D, j, none⟩ = some v ∧ (W.setCells g o' ys).cell? ⟨N, 0, none⟩ = some u ∧ (W.setCells g o' ys).rangeAt N 1 xs ∧ (W.setCells g o' ys).there g o n :=
  ⟨(World.cell?_setCells_out _ _ _ _ _ (fun e => absurd e.symm h1)).trans h.1, (World.cell?_setCells_out _ _ _ _ _ (fun e => absurd e h2)).trans h.2.1, World.rangeAt_setCells_apart h.2.2.1 _ _ _ (.inl h2), World.there_setCells h.2.2.2 _ _ _⟩
attribute [local go_sem ↓] ld65_from ld65_cells

set_option maxRecDepth 100000 in
set_option maxHeartbeats 1000000 in
theorem sync_main {w : World} {D gk ck gs cs m cv : Nat} {av : Option Addr} {s : Ds} (h : Dk w D gk ck gs cs av m cv s) (hu : s.down = false) (hm : m < 4000000000000) :
    Calls Try.prog 19 #[.pointer (some ⟨D, 0, none⟩)] w fun e w' => e = .returned (.int .i64 (hitE s)) ∧ Chg (Own D gk gs (.slice av m cv)) w w' ∧ ((hitE s ≠ 0 ∧ Dk w' D gk ck gs cs av m cv (hitS s)) ∨ (hitE s = 0 ∧ Dk w' D gk ck gs cs none 0 0 { hitS s with kept := over s.kept s.ws, ws := [] })) := by
  have C := hide (ready_any h.c4)
  have HA : Hid (armE s = 0) := by show _ = _; unfold armE; rw [hu]; rfl
  rw [HA.out] at C
  have C2 := hide (count_any h hu)
  clear h HA
  by_cases h0 : hitE s = 0
  · rw [h0] at C2
    have HS : Hid ((hitS s).n = s.n ∧ (hitS s).kept = s.kept ∧ (hitS s).ws = s.ws) := by
      show _ ∧ _
      unfold hitS
      split <;> exact ⟨rfl, rfl, rfl⟩
    go_enter Try.func19, Try.ntmps19
    go_wp2_with fail
    refine C.out.mono ?_
    rintro e w1 ⟨rfl, rfl⟩
    go_wp2_with fail
    refine C2.out.mono ?_
    rintro e w2 ⟨rfl, hk, hc⟩
    have K := hide hk
    have CH := hide hc
    have c2 := hk.c2
    have hml := hide hk.len
    clear hk hc
    go_wp2_with fail
    go_loopw [22] (fun i wr => ∃ k : Nat, k ≤ m ∧ i = .int .i64 k ∧ Hid (Chg (fun j => j = gk ∨ j = gs) w2 wr) ∧ Hid (Bks wr gk (hitS s).n (over (hitS s).kept ((hitS s).ws.take k))) ∧ Hid (wr.heap[gs]? = w2.heap[gs]?)) (fun i _ => m - (intOf i).toNat)
    case atStart => exact ⟨0, by omega, rfl, Chg.refl _ _, K.out.kept, rfl⟩
    case round =>
      obtain ⟨k, hk, rfl, HC, HB, HG⟩ := hrel
      by_cases hlt : k < m
      · obtain ⟨gw, cp', ev, _, ltw⟩ := K.out.ws.form (by omega)
        obtain ⟨rfl, rfl⟩ : av = some ⟨gw, 0, none⟩ ∧ cv = cp' := by simpa using ev
        obtain ⟨x, hx⟩ : ∃ x, (hitS s).ws[k]? = some x := ⟨_, List.getElem?_eq_getElem (by rw [← hml.out]; exact hlt)⟩
        have HX := hide hx
        have EL := hide (elem_at K.out HC.out hx)
        have WL := wcell_length EL.out.2.2.1
        have LD := ldw EL.out.1 WL
        have hzv := zero_write
        have hst := store_elem x WL
        have i1 : (k : Int) < (m : Int) := by omega
        have i2 : (0 : Int) ≤ (k : Int) := by omega
        clear hx ev
        go_wp2_with fail
        clear LD hzv hst
        have eD : Hid (wr.heap[D]? = w2.heap[D]?) := HC.out.block D K.out.ltD (fun e => by rcases e with e | e; exact K.out.k1 e.symm; exact K.out.s1 e.symm)
        have ltk : Hid (gk < wr.heap.size) := Nat.lt_of_lt_of_le K.out.ltk HC.out.size
        have ltD : Hid (D < wr.heap.size) := Nat.lt_of_lt_of_le K.out.ltD HC.out.size
        obtain ⟨w3, e3⟩ : ∃ w3, w3 = wr.alloc (.cells (wcell x).toArray 74) := ⟨_, rfl⟩
        have VC := hide (var_cells e3)
        rw [← e3]
        have o3 : Hid (∀ j, j < wr.heap.size → w3.heap[j]? = wr.heap[j]?) := fun j hj => by rw [e3]; exact heap_push_lt _ hj
        have C3 : Hid (Chg (fun j => j = gk ∨ j = gs) w2 w3) := by rw [e3]; exact HC.out.alloc _
        have B3 : Hid (Bks w3 gk (hitS s).n (over (hitS s).kept ((hitS s).ws.take k))) := HB.out.same (o3.out gk ltk.out)
        have G3 : Hid (w3.heap[gs]? = w2.heap[gs]?) := (o3.out gs (Nat.lt_of_lt_of_le K.out.lts HC.out.size)).trans HG.out
        have y0 : w3.cell? ⟨D, 0, none⟩ = some (.slice (some ⟨gk, 0, none⟩) (hitS s).n ck) := (World.cell?_of_block (a := ⟨D, 0, none⟩) ((o3.out D ltD.out).trans eD.out)).trans K.out.c0
        have y1 := VC.out.1
        have y2 := VC.out.2
        have y3 : w3.there gk (x.1 * 64) 64 := B3.out.there x.1 EL.out.2.1
        have gkD : gk ≠ D := K.out.k1
        have hN : wr.heap.size ≠ gk := by have := ltk.out; omega
        clear e3
        have hu72 := Try.underlying72
        have VL : (vals x.2).length = 64 := by rw [vals_length]; exact EL.out.2.2.1
        have hi72 : (Try.prog.info? 72).map (·.size) = some (vals x.2).length := by rw [VL]; exact binfo_size
        have hone := vals_one x.2
        have b1 : (0 : Int) ≤ (x.1 : Int) := by omega
        have b2 : (x.1 : Int) < ((hitS s).n : Int) := by have := EL.out.2.1; omega
        go_region_held3 (fun w' => w'.cell? ⟨D, 0, none⟩ = some (.slice (some ⟨gk, 0, none⟩) (hitS s).n ck) ∧ w'.cell? ⟨wr.heap.size, 0, none⟩ = some (.int .i64 x.1) ∧ w'.rangeAt wr.heap.size 1 (vals x.2) ∧ w'.there gk (x.1 * 64) 64)
          (first | exact ⟨y0, y1, y2, y3⟩ | (refine store_keeps2 ?_ gkD hN; assumption))
          (fail)
        clear y0 y1 y2 y3
        rw [setCells_drew]
        go_wp2_with fail
        go_roundw
        case rel =>
          refine ⟨k + 1, by omega, by go_num, ?_, ?_, ?_⟩
          · exact (Chg.setCells gk (.inl (.inl rfl)) _ _ C3.out).drew
          · show Bks _ gk _ _
            rw [take_snoc HX.out, over_snoc]
            exact (B3.out.set (fun i hi => (over_blk _ K.out.ok.kept (fun y hy => (K.out.ok.ws y (List.mem_of_mem_take hy)).2) i hi).1) EL.out.2.1 EL.out.2.2.1).same rfl
          · show _ = _
            exact (heap_setCells gk _ _ w3 gs K.out.ks.symm).trans G3.out
        case measure => simp [intOf]; omega
      · obtain rfl : k = m := by omega
        have eD : Hid (wr.heap[D]? = w2.heap[D]?) := HC.out.block D K.out.ltD (fun e => by rcases e with e | e; exact K.out.k1 e.symm; exact K.out.s1 e.symm)
        have z2 : wr.cell? ⟨D, 2, none⟩ = some (.slice av k cv) := (World.cell?_of_block (a := ⟨D, 2, none⟩) eD.out).trans K.out.c2
        have f2 : wr.frozen? ⟨D, 2, none⟩ = false := (World.frozen?_of_block (a := ⟨D, 2, none⟩) eD.out).trans (K.out.f 2)
        have TK : Hid ((hitS s).ws.take k = (hitS s).ws) := by show _ = _; rw [hml.out]; exact List.take_length
        rw [TK.out] at HB
        have FI := hide (K.out.fin HC.out HB.out (K.out.shown.same HG.out) K.out.ok.shown)
        go_wp2_with fail
        go_ret
        rw [h0]
        refine ⟨rfl, ?_, .inr ⟨rfl, ?_⟩⟩
        · exact ((CH.out.mono (L' := Own D gk gs (.slice av k cv)) (fun j _ hj => .inl hj)).trans HC.out (fun j _ hj => by rcases hj with hj | hj; exact .inr (.inl hj); exact .inr (.inr (.inl hj)))).setCell (p := ⟨D, 2, none⟩) (.inl (.inl rfl)) _
        · have := FI.out
          rw [HS.out.2.1, HS.out.2.2] at this
          exact this
  · have hx : (hitE s == 0) = false := by simpa using h0
    have hx2 : (hitE s = 0) = False := by simpa using h0
    have HE : Hid (hitE s ≠ 0) := h0
    generalize hitE s = r at *
    clear h0
    go_enter Try.func19, Try.ntmps19
    go_wp2_with fail
    refine C.out.mono ?_
    rintro e w1 ⟨rfl, rfl⟩
    go_wp2_with fail
    refine C2.out.mono ?_
    rintro e w2 ⟨rfl, hk, hc⟩
    have K := hide hk
    have CH := hide hc
    clear hk hc
    go_wp2_with fail
    go_ret
    exact ⟨rfl, CH.out.mono (fun j _ hj => .inl hj), .inl ⟨HE.out, K.out⟩⟩
theorem sync_any {w : World} {D : Nat} {s : Ds} {L : Nat → Prop} (h : Dsk w D s L) (hr : s.ws.length < 4000000000000) :
    Calls Try.prog 19 #[.pointer (some ⟨D, 0, none⟩)] w fun e w' => e = .returned (.int .i64 (syncE s)) ∧ Mv w D L (syncS s) w' := by
  obtain ⟨gk, ck, gs, cs, av, m, cv, h, hl⟩ := h
  cases hu : s.down with
  | true =>
    have C := hide (ready_any h.c4)
    have HA : Hid (armE s = 40) := by show _ = _; unfold armE; rw [hu]; rfl
    have e1 : Hid (syncE s = 40) := by show _ = _; unfold syncE; rw [hu]; rfl
    have e2 : Hid (syncS s = s) := by show _ = _; unfold syncS; rw [hu]; rfl
    have H := hide h
    have HLL := hide hl
    clear h hl hu
    go_enter Try.func19, Try.ntmps19
    go_wp2_with fail
    refine C.out.mono ?_
    rintro e w1 ⟨rfl, rfl⟩
    rw [HA.out]
    go_wp2_with fail
    go_ret
    rw [e1.out, e2.out]
    exact ⟨rfl, Chg.refl _ _, gk, ck, gs, cs, av, m, cv, H.out, fun k hk => .inl (HLL.out k hk)⟩
  | false =>
    refine (sync_main h hu (by rw [h.len]; exact hr)).mono ?_
    rintro e w' ⟨rfl, hc, hk⟩
    have e1 : syncE s = hitE s := by unfold syncE; rw [hu]; rfl
    rw [e1]
    refine ⟨rfl, hc.mono (fun k _ hk => hl k hk), ?_⟩
    rcases hk with ⟨h0, hk⟩ | ⟨h0, hk⟩
    · have e2 : syncS s = hitS s := by unfold syncS; rw [hu]; simp [h0]
      rw [e2]
      exact ⟨gk, ck, gs, cs, av, m, cv, hk, fun k hj => .inl (hl k hj)⟩
    · have e2 : syncS s = { hitS s with kept := over s.kept s.ws, ws := [] } := by unfold syncS; rw [hu]; simp [h0]
      rw [e2]
      refine ⟨gk, ck, gs, cs, none, 0, 0, hk, fun k hj => .inl ?_⟩
      rcases hj with rfl | rfl | rfl | hj
      · exact hl _ (.inl rfl)
      · exact hl _ (.inr (.inl rfl))
      · exact hl _ (.inr (.inr (.inl rfl)))
      · simp [Value.ownBlock] at hj
end Go.Proofs.Ytfkclebngldjmaa
