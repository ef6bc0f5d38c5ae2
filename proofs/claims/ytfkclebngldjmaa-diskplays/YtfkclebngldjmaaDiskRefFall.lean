/- The document's fall, Sync and Crash. No condition. -/
import Derived.Test.YtfkclebngldjmaaDiskRefWrite
namespace Go.Proofs.Ytfkclebngldjmaa
open Go.ChangeShapes Go.WideShapes Go.ChangeAt Go.RowKit B8 Dm
set_option linter.unusedVariables false

theorem upd_zero (K : Nat → List Int) (i : Nat) (bs : List Int) : upd K (i, tornB (K i) bs 0) = K := torn1_zero K (i, bs)
theorem torn_get {old new : List Int} (hl : old.length = new.length) {n : Nat} (hn : n ≤ new.length) (q : Nat) : (tornB old new n)[q]? = if q < n then new[q]? else old[q]? := by
  unfold tornB
  by_cases hq : q < n
  · rw [List.getElem?_append_left (by simp; omega), if_pos hq, List.getElem?_take, if_pos hq]
  · rw [List.getElem?_append_right (by simp; omega), if_neg hq, List.getElem?_drop]
    congr 1
    simp
    omega
theorem addr_block {a b : Addr} (h : a.block ≠ b.block) : a ≠ b := fun e => h (by rw [e])
theorem addr_off {a b : Addr} (h : a.off ≠ b.off) : a ≠ b := fun e => h (by rw [e])
/-- one byte more of a block is written -/
theorem Bks.byte {w : World} {g N : Nat} {K : Nat → List Int} {i j : Nat} {bs : List Int} (h : Bks w g N (upd K (i, tornB (K i) bs j))) (hK : ∀ i, i < N → (K i).length = 64) (hi : i < N) (hb : bs.length = 64) (hj : j < 64) :
    Bks (w.setCell ⟨g, i * 64 + j, none⟩ (.int .u8 (bs[j]?.getD 0))) g N (upd K (i, tornB (K i) bs (j + 1))) := by
  have hlen : ∀ p, p < N → ∀ n, n ≤ 64 → (upd K (i, tornB (K i) bs n) p).length = 64 := fun p hp n hn => by
    unfold upd
    split
    · unfold tornB; have := hK i hi; simp; omega
    · exact hK p hp
  refine ⟨fun p hp q v hv => ?_, fun p hp q hq => ?_⟩
  · have hq : q < 64 := by
      have := (List.getElem?_eq_some_iff.1 hv).1
      rw [vals_length, hlen p hp (j + 1) (by omega)] at this
      exact this
    by_cases e : p = i
    · subst e
      have e1 : ∀ n, upd K (p, tornB (K p) bs n) p = tornB (K p) bs n := fun n => by simp [upd]
      rw [e1] at hv
      simp only [vals, List.getElem?_map] at hv
      rw [torn_get (by rw [hK p hp, hb]) (by omega)] at hv
      by_cases eq : q = j
      · subst eq
        obtain ⟨u, hu⟩ := Option.isSome_iff_exists.1 (h.there p hp q hq).1
        rw [World.cell?_setCell_same _ _ _ hu]
        rw [if_pos (by omega)] at hv
        rw [← hv]
        have : q < bs.length := by omega
        simp [this]
      · rw [World.cell?_setCell_other _ _ _ _ (addr_off (show p * 64 + j ≠ p * 64 + q by omega))]
        refine h.cells p hp q v ?_
        rw [e1]
        simp only [vals, List.getElem?_map]
        rw [torn_get (by rw [hK p hp, hb]) (by omega), ← hv]
        by_cases h5 : q < j
        · rw [if_pos h5, if_pos (by omega)]
        · rw [if_neg h5, if_neg (by omega)]
    · have e1 : ∀ n, upd K (i, tornB (K i) bs n) p = K p := fun n => by simp [upd, e]
      rw [World.cell?_setCell_other _ _ _ _ (addr_off (show i * 64 + j ≠ p * 64 + q by omega))]
      refine h.cells p hp q v ?_
      rw [e1] at hv ⊢
      exact hv
  · obtain ⟨h1, h2⟩ := h.there p hp q hq
    refine ⟨?_, by rw [World.frozen?_setCell]; exact h2⟩
    obtain ⟨u, hu⟩ := Option.isSome_iff_exists.1 h1
    by_cases e : (⟨g, i * 64 + j, none⟩ : Addr) = ⟨g, p * 64 + q, none⟩
    · rw [e, World.cell?_setCell_same _ _ _ hu]; rfl
    · rw [World.cell?_setCell_other _ _ _ _ e, hu]; rfl
theorem byte_keeps {W : World} {D N g o j : Nat} {a b c v : Value} (h : W.cell? ⟨D, 0, none⟩ = some a ∧ W.cell? ⟨N, 0, none⟩ = some b ∧ W.cell? ⟨N, 1 + j, none⟩ = some c) (h1 : g ≠ D) (h2 : N ≠ g) : (W.setCell ⟨g, o, none⟩ v).cell? ⟨D, 0, none⟩ = some a ∧ (W.setCell ⟨g, o, none⟩ v).cell? ⟨N, 0, none⟩ = some b ∧ (W.setCell ⟨g, o, none⟩ v).cell? ⟨N, 1 + j, none⟩ = some c := by
  have h2' : g ≠ N := fun e => h2 e.symm
  refine ⟨?_, ?_, ?_⟩
  · rw [World.cell?_setCell_other _ _ _ _ (addr_block h1)]; exact h.1
  · rw [World.cell?_setCell_other _ _ _ _ (addr_block h2')]; exact h.2.1
  · rw [World.cell?_setCell_other _ _ _ _ (addr_block h2')]; exact h.2.2
theorem rstore_elem (x : Nat × List Int) (hl : (wcell x).length = 65) (w : World) : (storeCells ⟨w.heap.size, 0, none⟩ (wcell x)).run Try.prog (w.alloc (.cells zwr 82)) = .ok () (w.alloc (.cells (wcell x).toArray 82)) := by
  have := rstore_new (wcell x).toArray (by simp [hl]) (all_oneCell_toArray (wcell_one x)) w
  simpa using this
theorem relem_at {w wr : World} {D gk ck m cv gw : Nat} {s : Ds} (h : Rk w D gk ck (some ⟨gw, 0, none⟩) m cv s) (hc : Chg (· = gk) w wr) {i : Nat} {x : Nat × List Int} (hx : s.ws[i]? = some x) :
    wr.rangeAt gw (i * 65) (wcell x) ∧ x.1 < s.n ∧ Blk x.2 := by
  have hm := List.mem_of_getElem? hx
  have e : wr.heap[gw]? = w.heap[gw]? := hc.block gw (h.ws.lt gw rfl).2 (fun e => h.v2 (by rw [← e]; rfl))
  exact ⟨rangeAt_same (row_at h.ws (fun y hy => (h.ok.ws y hy).2.1) hx) e, (h.ok.ws x hm).1, (h.ok.ws x hm).2⟩
theorem rvar_cells {wr w2 : World} {x : Nat × List Int} (e2 : w2 = wr.alloc (.cells (wcell x).toArray 82)) : w2.cell? ⟨wr.heap.size, 0, none⟩ = some (.int .i64 x.1) ∧ w2.rangeAt wr.heap.size 1 (vals x.2) := by
  have g : w2.heap[wr.heap.size]? = some (.cells (wcell x).toArray 82 (0, 0)) := by rw [e2]; exact heap_alloc_new wr _
  refine ⟨by rw [cell_of_row w2 _ 0 _ _ _ g]; simp [wcell], fun j v hv => ?_⟩
  rw [cell_of_row w2 _ (1 + j) _ _ _ g]
  simp [wcell, Nat.add_comm 1 j]
  exact hv
attribute [local go_sem ↓] ld65_from ld65_cells

set_option maxRecDepth 100000 in
set_option maxHeartbeats 2000000 in
theorem rfall_main {w : World} {D gk ck m cv : Nat} {av : Option Addr} {s : Ds} (h : Rk w D gk ck av m cv s) (hm : m < 4000000000000) {ka : Option Addr} {kl kc : Nat} {ks : List Int} (q : I8.Sq w ka kl kc ks) (hq : 0 < kl → ∀ b off, ka = some ⟨b, off, none⟩ → b ≠ gk) (hkl : kl ≤ 140737488355328) (all : Bool) (ks' : List Int) (hks : ks' = if all then List.replicate m 64 else ks) :
    Calls Try.prog 49 #[.pointer (some ⟨D, 0, none⟩), .slice ka kl kc, .bool all] w fun e w' => e = .returned (.tuple #[]) ∧ Chg (ROwn D gk (.slice av m cv)) w w' ∧ Rk w' D gk ck none 0 0 { s with kept := torn s.kept ks' 0 s.ws, ws := [] } := by
  have K := hide h
  have Q := hide q
  have HQ := hide hq
  have HKS := hide hks
  clear h q hq hks
  go_enter Try.func49, Try.ntmps49
  go_wp2_with fail
  go_loopw [6] (fun i wr => ∃ k : Nat, k ≤ m ∧ i = .int .i64 k ∧ Hid (Chg (· = gk) w wr) ∧ Hid (Bks wr gk s.n (torn s.kept ks' 0 (s.ws.take k)))) (fun i _ => m - (intOf i).toNat)
  case atStart => exact ⟨0, by omega, rfl, Chg.refl _ _, K.out.kept⟩
  case round =>
    obtain ⟨k, hk, rfl, HC, HB⟩ := hrel
    have eD : Hid (wr.heap[D]? = w.heap[D]?) := HC.out.block D K.out.ltD (fun e => K.out.k1 e.symm)
    have z1 : wr.cell? ⟨D, 1, none⟩ = some (.slice av m cv) := (World.cell?_of_block (a := ⟨D, 1, none⟩) eD.out).trans K.out.c1
    by_cases hlt : k < m
    · obtain ⟨gw, cp', ev, _, ltw⟩ := K.out.ws.form (by omega)
      obtain ⟨rfl, rfl⟩ : av = some ⟨gw, 0, none⟩ ∧ cv = cp' := by simpa using ev
      obtain ⟨x, hx⟩ : ∃ x, s.ws[k]? = some x := ⟨_, List.getElem?_eq_getElem (by rw [← K.out.len]; omega)⟩
      have HX := hide hx
      have EL := hide (relem_at K.out HC.out hx)
      have WL := wcell_length EL.out.2.2.1
      have LD := ldw EL.out.1 WL
      have hzv := rzero_write
      have hst := rstore_elem x WL
      have TL : Hid ((s.ws.take k).length = k) := by show _ = _; have := K.out.len; simp; omega
      have i3 : (k : Int) < (m : Int) := by omega
      have i4 : (0 : Int) ≤ (k : Int) := by omega
      clear hx ev
      have ltk : Hid (gk < wr.heap.size) := Nat.lt_of_lt_of_le K.out.ltk HC.out.size
      have ltD : Hid (D < wr.heap.size) := Nat.lt_of_lt_of_le K.out.ltD HC.out.size
      obtain ⟨w3, e3⟩ : ∃ w3, w3 = wr.alloc (.cells (wcell x).toArray 82) := ⟨_, rfl⟩
      have VC := hide (rvar_cells e3)
      have NW : Hid (wr.heap.size < w3.heap.size) := by rw [e3]; simp [Hid]
      have o3 : Hid (∀ j, j < wr.heap.size → w3.heap[j]? = wr.heap[j]?) := fun j hj => by rw [e3]; exact heap_push_lt _ hj
      have C3 : Hid (Chg (· = gk) w w3) := by rw [e3]; exact HC.out.alloc _
      have B3 : Hid (Bks w3 gk s.n (torn s.kept ks' 0 (s.ws.take k))) := HB.out.same (o3.out gk ltk.out)
      have OKK : Hid (∀ i, i < s.n → (torn s.kept ks' 0 (s.ws.take k) i).length = 64) := fun i hi => (torn_blk ks' _ 0 K.out.ok.kept (fun y hy => K.out.ok.ws y (List.mem_of_mem_take hy)) i hi).1
      generalize hKK : torn s.kept ks' 0 (s.ws.take k) = KK at B3 OKK
      have HKK := hide hKK
      clear hKK
      have y0 : w3.cell? ⟨D, 0, none⟩ = some (.slice (some ⟨gk, 0, none⟩) s.n ck) := (World.cell?_of_block (a := ⟨D, 0, none⟩) ((o3.out D ltD.out).trans eD.out)).trans K.out.c0
      have y1 := VC.out.1
      have y2 := VC.out.2
      have gkD : gk ≠ D := K.out.k1
      have hN : wr.heap.size ≠ gk := by have := ltk.out; omega
      have b1 : (0 : Int) ≤ (x.1 : Int) := by omega
      have b2 : (x.1 : Int) < (s.n : Int) := by have := EL.out.2.1; omega
      have hst3 : (storeCells ⟨wr.heap.size, 0, none⟩ (wcell x)).run Try.prog (wr.alloc (.cells zwr 82)) = .ok () w3 := by rw [hst, e3]
      have hl65 : (ld65 ⟨gw, k * 65, none⟩).run Try.prog wr = .ok (wcell x).toArray wr := LD
      clear e3 hst LD
      cases all with
      | true =>
        obtain ⟨nn, HN0⟩ : ∃ nn : Nat, Hid (nn = 64) := ⟨64, rfl⟩
        have HN : Hid (nn = min (64 : Int).toNat 64) := HN0.out
        have KN : Hid (kn ks' k = nn) := by
          show _ = _
          rw [HKS.out, HN0.out]
          unfold kn
          simp [hlt]
        go_wp2_with fail
        clear hl65 hzv hst3 z1
        obtain ⟨No, hNo⟩ : ∃ No, No = wr.heap.size := ⟨_, rfl⟩
        rw [← hNo] at y1 y2 hN NW ltD ⊢
        clear hNo
        go_loopw [9] (fun i wq => ∃ j : Nat, j ≤ nn ∧ i = .int .i64 j ∧ Hid (Chg (· = gk) w3 wq) ∧ Hid (Bks wq gk s.n (upd KK (x.1, tornB (KK x.1) x.2 j)))) (fun i _ => nn - (intOf i).toNat)
        case atStart => exact ⟨0, by omega, rfl, Chg.refl _ _, by show Bks _ gk s.n (upd KK (x.1, tornB (KK x.1) x.2 0)); rw [upd_zero]; exact B3.out⟩
        case round =>
          obtain ⟨j, hj, rfl, JC, JB⟩ := hrel
          by_cases hjl : j < nn
          · have j1 : (j : Int) < 64 := by have := HN.out; omega
            have j2 : (j : Int) < 64 := by have := HN.out; omega
            have j3 : (0 : Int) ≤ (j : Int) := by omega
            have eN : Hid (wr.heap[No]? = w3.heap[No]?) := JC.out.block _ NW.out hN
            have eD3 : Hid (wr.heap[D]? = w3.heap[D]?) := JC.out.block D (Nat.lt_of_lt_of_le ltD.out (by have := NW.out; omega)) (fun e => gkD e.symm)
            have x0 : wr.cell? ⟨D, 0, none⟩ = some (.slice (some ⟨gk, 0, none⟩) s.n ck) := (World.cell?_of_block (a := ⟨D, 0, none⟩) eD3.out).trans y0
            have x1 : wr.cell? ⟨No, 0, none⟩ = some (.int .i64 x.1) := (World.cell?_of_block (a := ⟨No, 0, none⟩) eN.out).trans y1
            have x2 : wr.cell? ⟨No, 1 + j, none⟩ = some (.int .u8 (x.2[j]?.getD 0)) := (World.cell?_of_block (a := ⟨No, 1 + j, none⟩) eN.out).trans (y2 j _ (by have := EL.out.2.2.1; simp [vals, show j < x.2.length by omega]))
            have x3 := hide (JB.out.there x.1 EL.out.2.1 j (by omega))
            obtain ⟨u5, x5⟩ := Option.isSome_iff_exists.1 x3.out.1
            have x6 := x3.out.2
            go_wp2_with fail
            go_region_held3 (fun u => u.cell? ⟨D, 0, none⟩ = some (.slice (some ⟨gk, 0, none⟩) s.n ck) ∧ u.cell? ⟨No, 0, none⟩ = some (.int .i64 x.1) ∧ u.cell? ⟨No, 1 + j, none⟩ = some (.int .u8 (x.2[j]?.getD 0)))
              (first | exact ⟨x0, x1, x2⟩ | (refine byte_keeps ?_ gkD hN; assumption))
              (fail)
            clear x0 x1 x2 x5 x6
            go_wp2_with fail
            go_roundw
            case rel => exact ⟨j + 1, by omega, by go_num, (JC.out.drew).setCell (p := ⟨gk, x.1 * 64 + j, none⟩) (.inl rfl) _, (Bks.byte (w := wr.drew) (JB.out.same rfl) OKK.out EL.out.2.1 EL.out.2.2.1 (by omega))⟩
            case measure => simp [intOf]; omega
          · obtain rfl : j = nn := by omega
            have CF : Hid (Chg (· = gk) w wr) := C3.out.trans JC.out (fun k _ hk => hk)
            have BF : Hid (Bks wr gk s.n (torn s.kept ks' 0 (s.ws.take (k + 1)))) := by
              show Bks _ gk _ _
              rw [take_snoc HX.out, torn_snoc, TL.out, Nat.zero_add, KN.out, HKK.out]
              exact JB.out
            by_cases j5 : (j : Int) < 64
            · exact absurd j5 (by have := HN.out; omega)
            · go_wp2_with fail
              go_roundw
              case rel => exact ⟨k + 1, by omega, by go_num, CF, BF⟩
              case measure => simp [intOf]; omega
      | false =>
        by_cases hkk : k < kl
        · have i5 : (k : Int) < (kl : Int) := by omega
          obtain ⟨kb, koff, ek, hkc⟩ := Q.out.cells (by omega)
          subst ek
          have kcell : wr.cell? ⟨kb, koff + k, none⟩ = some (.int .i64 (ks[k]?.getD 0)) := (World.cell?_of_block (a := ⟨kb, koff + k, none⟩) (HC.out.block kb (World.block_lt_of_cell? w _ (hkc k (by omega))) (HQ.out (by omega) kb koff rfl))).trans (hkc k (by omega))
          have kcell3 : w3.cell? ⟨kb, koff + k, none⟩ = some (.int .i64 (ks[k]?.getD 0)) := (World.cell?_of_block (a := ⟨kb, koff + k, none⟩) (o3.out kb (World.block_lt_of_cell? wr _ kcell))).trans kcell
          clear hkc kcell
          obtain ⟨nn, HN0⟩ : ∃ nn : Nat, Hid (nn = kn ks k) := ⟨_, rfl⟩
          generalize hv : ks[k]?.getD 0 = v at kcell3
          have HN : Hid (nn = min v.toNat 64) := by show _ = _; rw [HN0.out]; unfold kn; rw [hv]
          have KN : Hid (kn ks' k = nn) := by show _ = _; rw [HKS.out, HN0.out]; rfl
          clear hv
          go_wp2_with fail
          clear hl65 hzv hst3 z1
          obtain ⟨No, hNo⟩ : ∃ No, No = wr.heap.size := ⟨_, rfl⟩
          rw [← hNo] at y1 y2 hN NW ltD ⊢
          clear hNo
          go_loopw [9] (fun i wq => ∃ j : Nat, j ≤ nn ∧ i = .int .i64 j ∧ Hid (Chg (· = gk) w3 wq) ∧ Hid (Bks wq gk s.n (upd KK (x.1, tornB (KK x.1) x.2 j)))) (fun i _ => nn - (intOf i).toNat)
          case atStart => exact ⟨0, by omega, rfl, Chg.refl _ _, by show Bks _ gk s.n (upd KK (x.1, tornB (KK x.1) x.2 0)); rw [upd_zero]; exact B3.out⟩
          case round =>
            obtain ⟨j, hj, rfl, JC, JB⟩ := hrel
            by_cases hjl : j < nn
            · have j1 : (j : Int) < v := by have := HN.out; omega
              have j2 : (j : Int) < 64 := by have := HN.out; omega
              have j3 : (0 : Int) ≤ (j : Int) := by omega
              have eN : Hid (wr.heap[No]? = w3.heap[No]?) := JC.out.block _ NW.out hN
              have eD3 : Hid (wr.heap[D]? = w3.heap[D]?) := JC.out.block D (Nat.lt_of_lt_of_le ltD.out (by have := NW.out; omega)) (fun e => gkD e.symm)
              have x0 : wr.cell? ⟨D, 0, none⟩ = some (.slice (some ⟨gk, 0, none⟩) s.n ck) := (World.cell?_of_block (a := ⟨D, 0, none⟩) eD3.out).trans y0
              have x1 : wr.cell? ⟨No, 0, none⟩ = some (.int .i64 x.1) := (World.cell?_of_block (a := ⟨No, 0, none⟩) eN.out).trans y1
              have x2 : wr.cell? ⟨No, 1 + j, none⟩ = some (.int .u8 (x.2[j]?.getD 0)) := (World.cell?_of_block (a := ⟨No, 1 + j, none⟩) eN.out).trans (y2 j _ (by have := EL.out.2.2.1; simp [vals, show j < x.2.length by omega]))
              have x3 := hide (JB.out.there x.1 EL.out.2.1 j (by omega))
              obtain ⟨u5, x5⟩ := Option.isSome_iff_exists.1 x3.out.1
              have x6 := x3.out.2
              go_wp2_with fail
              go_region_held3 (fun u => u.cell? ⟨D, 0, none⟩ = some (.slice (some ⟨gk, 0, none⟩) s.n ck) ∧ u.cell? ⟨No, 0, none⟩ = some (.int .i64 x.1) ∧ u.cell? ⟨No, 1 + j, none⟩ = some (.int .u8 (x.2[j]?.getD 0)))
                (first | exact ⟨x0, x1, x2⟩ | (refine byte_keeps ?_ gkD hN; assumption))
                (fail)
              clear x0 x1 x2 x5 x6
              go_wp2_with fail
              go_roundw
              case rel => exact ⟨j + 1, by omega, by go_num, (JC.out.drew).setCell (p := ⟨gk, x.1 * 64 + j, none⟩) (.inl rfl) _, (Bks.byte (w := wr.drew) (JB.out.same rfl) OKK.out EL.out.2.1 EL.out.2.2.1 (by omega))⟩
              case measure => simp [intOf]; omega
            · obtain rfl : j = nn := by omega
              have CF : Hid (Chg (· = gk) w wr) := C3.out.trans JC.out (fun k _ hk => hk)
              have BF : Hid (Bks wr gk s.n (torn s.kept ks' 0 (s.ws.take (k + 1)))) := by
                show Bks _ gk _ _
                rw [take_snoc HX.out, torn_snoc, TL.out, Nat.zero_add, KN.out, HKK.out]
                exact JB.out
              by_cases j5 : (j : Int) < v
              · have j6 : ¬ ((j : Int) < 64) := by have := HN.out; omega
                go_wp2_with fail
                go_roundw
                case rel => exact ⟨k + 1, by omega, by go_num, CF, BF⟩
                case measure => simp [intOf]; omega
              · go_wp2_with fail
                go_roundw
                case rel => exact ⟨k + 1, by omega, by go_num, CF, BF⟩
                case measure => simp [intOf]; omega
        · have i5 : ¬ ((k : Int) < (kl : Int)) := by omega
          obtain ⟨nn, HN0⟩ : ∃ nn : Nat, Hid (nn = 0) := ⟨0, rfl⟩
          have HN : Hid (nn = min (0 : Int).toNat 64) := HN0.out
          have KN : Hid (kn ks' k = nn) := by show _ = _; rw [HKS.out, HN0.out]; exact kn_past (show ks.length ≤ k by rw [Q.out.length]; omega)
          go_wp2_with fail
          clear hl65 hzv hst3 z1
          obtain ⟨No, hNo⟩ : ∃ No, No = wr.heap.size := ⟨_, rfl⟩
          rw [← hNo] at y1 y2 hN NW ltD ⊢
          clear hNo
          go_loopw [9] (fun i wq => ∃ j : Nat, j ≤ nn ∧ i = .int .i64 j ∧ Hid (Chg (· = gk) w3 wq) ∧ Hid (Bks wq gk s.n (upd KK (x.1, tornB (KK x.1) x.2 j)))) (fun i _ => nn - (intOf i).toNat)
          case atStart => exact ⟨0, by omega, rfl, Chg.refl _ _, by show Bks _ gk s.n (upd KK (x.1, tornB (KK x.1) x.2 0)); rw [upd_zero]; exact B3.out⟩
          case round =>
            obtain ⟨j, hj, rfl, JC, JB⟩ := hrel
            by_cases hjl : j < nn
            · exact absurd hjl (by have := HN.out; omega)
            · obtain rfl : j = nn := by omega
              have CF : Hid (Chg (· = gk) w wr) := C3.out.trans JC.out (fun k _ hk => hk)
              have BF : Hid (Bks wr gk s.n (torn s.kept ks' 0 (s.ws.take (k + 1)))) := by
                show Bks _ gk _ _
                rw [take_snoc HX.out, torn_snoc, TL.out, Nat.zero_add, KN.out, HKK.out]
                exact JB.out
              by_cases j5 : (j : Int) < 0
              · exact absurd j5 (by have := HN.out; omega)
              · go_wp2_with fail
                go_roundw
                case rel => exact ⟨k + 1, by omega, by go_num, CF, BF⟩
                case measure => simp [intOf]; omega
    · obtain rfl : k = m := by omega
      have TK : Hid (s.ws.take k = s.ws) := by show _ = _; rw [K.out.len]; exact List.take_length
      rw [TK.out] at HB
      have FI := hide (K.out.fin HC.out HB.out (torn_blk ks' s.ws 0 K.out.ok.kept K.out.ok.ws))
      have f1 : wr.frozen? ⟨D, 1, none⟩ = false := (World.frozen?_of_block (a := ⟨D, 1, none⟩) eD.out).trans (K.out.f 1)
      go_wp2_with fail
      refine bodyPost_end (results_none rfl _ _ _) rfl ?_
      exact ⟨rfl, (HC.out.mono (L' := ROwn D gk (.slice av k cv)) (fun j _ hj => .inr (.inl hj))).setCell (p := ⟨D, 1, none⟩) (.inl (.inl rfl)) _, FI.out⟩
/-- where all is kept -/
theorem torn_all {n : Nat} (keep : List Int) : ∀ (ws : List (Nat × List Int)) (K : Nat → List Int) (i : Nat), (∀ j, i ≤ j → j < i + ws.length → kn keep j = 64) → (∀ x ∈ ws, x.1 < n ∧ x.2.length = 64) → (∀ i, i < n → (K i).length = 64) → torn K keep i ws = over K ws
  | [], _, _, _, _, _ => rfl
  | x :: r, K, i, h, hw, hK => by
    show torn (torn1 K x (kn keep i)) keep (i + 1) r = over (upd K x) r
    have e : torn1 K x (kn keep i) = upd K x := by
      rw [h i (Nat.le_refl _) (by simp)]
      unfold torn1
      have h1 := (hw x (by simp)).2
      have h2 := hK x.1 (hw x (by simp)).1
      have : tornB (K x.1) x.2 64 = x.2 := by unfold tornB; rw [List.take_of_length_le (by omega), List.drop_eq_nil_of_le (by omega)]; simp
      rw [this]
    rw [e]
    refine torn_all keep r (upd K x) (i + 1) (fun j h1 h2 => h j (by omega) (by simp; omega)) (fun y hy => hw y (by simp [hy])) (fun p hp => ?_)
    unfold upd
    split
    · exact (hw x (by simp)).2
    · exact hK p hp
theorem hitS_kept (s : Ds) : (hitS s).kept = s.kept ∧ (hitS s).ws = s.ws := by unfold hitS; split <;> exact ⟨rfl, rfl⟩
theorem kn_rep {m j : Nat} (h : j < m) : kn (List.replicate m 64) j = 64 := by unfold kn; simp [h]
section
variable {w : World} {D : Nat} {s : Ds} {L : Nat → Prop}
theorem rcrash_any (h : Rsk w D s L) (hr : s.ws.length < 4000000000000) {ka : Option Addr} {kl kc : Nat} {ks : List Int} (q : I8.Sq w ka kl kc ks) (hq : 0 < kl → ∀ b off, ka = some ⟨b, off, none⟩ → ¬ L b) (hkl : kl ≤ 140737488355328) :
    Calls Try.prog 32 #[.pointer (some ⟨D, 0, none⟩), .slice ka kl kc] w fun e w' => e = .returned (.tuple #[]) ∧ Rv w D L (crashS s ks) w' := by
  obtain ⟨gk, ck, av, m, cv, h, hl⟩ := h
  have c3 := h.c3
  have f3 := h.f 3
  have hc := (Chg.refl L w).setCell (p := ⟨D, 3, none⟩) (.inl (hl D (.inl rfl))) (.bool true)
  have T := hide (rfall_main (h.setD true) (by rw [h.len]; exact hr) (sqI_chg q hc hq) (fun h0 b off e e2 => hq h0 b off e (by rw [e2]; exact hl gk (.inr (.inl rfl)))) hkl false ks rfl)
  have HC := hide hc
  have HL := hide hl
  clear h hl q hq hc
  go_enter Try.func32, Try.ntmps32
  go_wp2_with fail
  refine T.out.mono ?_
  rintro e w1 ⟨rfl, hc1, hk1⟩
  have C1 := hide hc1
  have K1 := hide hk1
  clear hc1 hk1
  go_wp2_with fail
  refine bodyPost_end (results_none rfl _ _ _) rfl ?_
  refine ⟨rfl, HC.out.trans C1.out (fun k _ hk => HL.out k hk), gk, ck, none, 0, 0, K1.out, fun k hk => .inl ?_⟩
  rcases hk with rfl | rfl | hk
  · exact HL.out _ (.inl rfl)
  · exact HL.out _ (.inr (.inl rfl))
  · simp [Value.ownBlock] at hk
theorem rsync_any (h : Rsk w D s L) (hr : s.ws.length < 4000000000000) :
    Calls Try.prog 30 #[.pointer (some ⟨D, 0, none⟩)] w fun e w' => e = .returned (.int .i64 (syncE s)) ∧ Rv w D L (syncS s) w' := by
  obtain ⟨gk, ck, av, m, cv, h, hl⟩ := h
  have c3 := h.c3
  have HL := hide hl
  have H := hide h
  have HR := hide hr
  cases hu : s.down with
  | true =>
    rw [hu] at c3
    have e1 : Hid (syncE s = 40) := by show _ = _; unfold syncE; rw [hu]; rfl
    have e2 : Hid (syncS s = s) := by show _ = _; unfold syncS; rw [hu]; rfl
    clear h hl hu hr
    go_enter Try.func30, Try.ntmps30
    go_wp2_with fail
    go_ret
    rw [e1.out, e2.out]
    exact ⟨rfl, Chg.refl _ _, gk, ck, av, m, cv, H.out, fun k hk => .inl (HL.out k hk)⟩
  | false =>
    rw [hu] at c3
    have HP := hide (hit_pair s hu)
    have e1 : Hid (syncE s = hitE s) := by show _ = _; unfold syncE; rw [hu]; rfl
    have C := hide (rhit_any h hu)
    have HU := hide hu
    clear h hl hu hr
    rcases HP.out with ⟨hd, he⟩ | ⟨hd, he⟩
    · have e2 : Hid (syncS s = hitS s) := by show _ = _; unfold syncS; rw [if_neg (by rw [HU.out]; simp), if_pos (by rw [he]; simp)]
      have HE := hide he
      rw [hd] at C
      clear hd he HP
      go_enter Try.func30, Try.ntmps30
      go_wp2_with fail
      refine C.out.mono ?_
      rintro e w1 ⟨rfl, hk, hc⟩
      have K1 := hide hk
      have C1 := hide hc
      clear hk hc
      go_wp2_with fail
      go_ret
      rw [e1.out, e2.out, HE.out]
      exact ⟨rfl, C1.out.mono (fun k _ hk => HL.out k (.inl hk)), gk, ck, av, m, cv, K1.out, fun k hk => .inl (HL.out k hk)⟩
    · have e2 : Hid (syncS s = { hitS s with kept := over s.kept s.ws, ws := [] }) := by show _ = _; unfold syncS; rw [if_neg (by rw [HU.out]; simp), if_neg (by rw [he]; simp)]
      have HE := hide he
      have HS := hide (hitS_kept s)
      rw [hd] at C
      clear hd he HP
      go_enter Try.func30, Try.ntmps30
      go_wp2_with fail
      refine C.out.mono ?_
      rintro e w1 ⟨rfl, hk, hc⟩
      have C1 := hide hc
      have T := hide (rfall_main hk (by rw [H.out.len]; exact HR.out) (sqI_nil w1) (fun h0 => absurd h0 (by omega)) (by omega) true (List.replicate m 64) rfl)
      have TA : Hid (torn (hitS s).kept (List.replicate m 64) 0 (hitS s).ws = over (hitS s).kept (hitS s).ws) := torn_all (n := (hitS s).n) _ _ _ 0 (fun j _ hj => kn_rep (by have := hk.len; omega)) (fun x hx => ⟨(hk.ok.ws x hx).1, (hk.ok.ws x hx).2.1⟩) (fun i hi => (hk.ok.kept i hi).1)
      rw [TA.out] at T
      clear hk hc
      go_wp2_with fail
      refine T.out.mono ?_
      rintro e w2 ⟨rfl, hc2, hk2⟩
      have K2 := hide hk2
      have C2 := hide hc2
      clear hk2 hc2
      go_wp2_with fail
      go_ret
      rw [e1.out, e2.out, HE.out]
      refine ⟨rfl, (C1.out.mono (L' := L) (fun k _ hk => HL.out k (.inl hk))).trans C2.out (fun k _ hk => HL.out k hk), gk, ck, none, 0, 0, ?_, fun k hk => .inl ?_⟩
      · have := K2.out
        rw [HS.out.1, HS.out.2] at this
        exact this
      · rcases hk with rfl | rfl | hk
        · exact HL.out _ (.inl rfl)
        · exact HL.out _ (.inr (.inl rfl))
        · simp [Value.ownBlock] at hk
end
end Go.Proofs.Ytfkclebngldjmaa
