/- The document's Write. No condition but that there is memory for what waits. -/
import Derived.Test.YtfkclebngldjmaaDiskRef
namespace Go.Proofs.Ytfkclebngldjmaa
open Go.ChangeShapes Go.WideShapes Go.ChangeAt Go.RowKit B8 Dm
set_option linter.unusedVariables false

theorem rwinfo : (Try.prog.info? 82).map (fun i => (i.zero, i.size, i.bytes)) = some (some (.agg zwr), 65, 72) := by kernel_rfl
theorem rzero_write (w : World) : (zeroValue 82).run Try.prog w = .ok (.agg zwr) w := by
  obtain ⟨i, hi, hz, hs, hb⟩ := info_parts rwinfo
  simp [zeroValue, typeInfo, hi, hz]
theorem rstore_new (cells : Array Value) (hs : cells.size = 65) (h1 : cells.all (·.oneCell') = true) (w : World) : (storeCells ⟨w.heap.size, 0, none⟩ cells.toList).run Try.prog (w.alloc (.cells zwr 82)) = .ok () (w.alloc (.cells cells 82)) := by
  have := run_storeCells_from (P := Try.prog) w.heap.size 82 cells.toList 0 zwr (w.alloc (.cells zwr 82)) (heap_alloc_new w _) (by rw [zwr_size]; simp [hs]) (fun v hv => (Array.all_eq_true_iff_forall_mem.1 h1) v (by simpa using hv))
  rw [this]
  simp [setRow_alloc]
theorem rcopy_new {w : World} {ad : Addr} {cp : Nat} {bs : List Int} (at_ : Nat) (q : Sq w (some ad) 64 cp bs) (ty : TypeId) :
    (Builtin.copy_ #[46, 46] ty #[.slice (some ⟨w.heap.size, 1, none⟩) 64 64, .slice (some ad) 64 cp]).run Try.prog (w.alloc (.cells (awr at_) 82)) = .ok (goInt 64) (w.alloc (.cells (wcell (at_, bs)).toArray 82)) := by
  obtain ⟨i, hi, hz, hsz, hb⟩ := info_parts info
  have hl : (vals bs).length = 64 := by rw [vals_length, q.length]
  have q' := q.below (below_alloc (Below.refl _ _) (.cells (awr at_) 82))
  have := run_copy_row (P := Try.prog) (w.alloc (.cells (awr at_) 82)) 46 46 ty 5 w.heap.size 1 64 64 ad 64 cp (awr at_) 82 (vals bs) Try.underlying46 (by rw [hi, Option.map_some, hsz]) (heap_alloc_new w _) (by rw [hl]; rfl) (q'.news ad rfl) (by rw [hl, awr_size]; omega) (vals_one _)
  rw [this, hl]
  have e : ((awr at_).toList.take 1 ++ vals bs ++ (awr at_).toList.drop (1 + 64)).toArray = (wcell (at_, bs)).toArray := by simp [awr, wcell]
  rw [e, setRow_alloc]
  rfl
/-- a list of one write, made at one time -/
def bslR (parts : Array (Nat × Value)) : Sem Value := Instr.buildSlice 36 1 parts
theorem bslR_eq (parts : Array (Nat × Value)) : Instr.buildSlice 36 1 parts = bslR parts := rfl
theorem bslR_run (x : Nat × List Int) (hl : (wcell x).length = 65) (w : World) : (bslR #[(0, .agg (wcell x).toArray)]).run Try.prog w = .ok (.slice (some ⟨w.heap.size, 0, none⟩) 1 1) (w.alloc (.cells (wcell x).toArray 82)) := by
  obtain ⟨i0, hi, hz0, hz1, hz2⟩ := info_parts rwinfo
  exact build_one 36 82 i0 (.agg zwr) 65 Try.underlying36 hi hz0 hz1 (by omega) (by omega) _ (by simp [hl]) w
attribute [local go_sem ↓] ld65_from ld65_cells bslR_eq
/-- behind the append, the list's field is set -/
theorem rwrite_done {w w3 : World} {D gk ck m cv g cap at_ : Nat} {av : Option Addr} {s : Ds} {bs : List Int} (h : Rk w D gk ck av m cv s) (ha : at_ < s.n) (hb : Blk bs)
    (hc : Chg (fun k => (Value.slice av m cv).ownBlock = some k) w w3) (hown : w3.ownsRow 0 82 65 (.slice (some ⟨g, 0, none⟩) (m + 1) cap) (m + 1) (wcells s.ws ++ wcell (at_, bs))) (hg : (Value.slice av m cv).ownBlock = some g ∨ w.heap.size ≤ g) :
    Rk (w3.setCell ⟨D, 1, none⟩ (.slice (some ⟨g, 0, none⟩) (m + 1) cap)) D gk ck (some ⟨g, 0, none⟩) (m + 1) cap { s with ws := s.ws ++ [(at_, bs)] } ∧
    Chg (ROwn D gk (.slice av m cv)) w (w3.setCell ⟨D, 1, none⟩ (.slice (some ⟨g, 0, none⟩) (m + 1) cap)) := by
  have eD : w3.heap[D]? = w.heap[D]? := hc.block D h.ltD (fun e => h.v1 e)
  have ek : w3.heap[gk]? = w.heap[gk]? := hc.block gk h.ltk (fun e => h.v2 e)
  have gD : g ≠ D := fun e => by subst e; rcases hg with hg | hg; exact h.v1 hg; have := h.ltD; omega
  have gK : g ≠ gk := fun e => by subst e; rcases hg with hg | hg; exact h.v2 hg; have := h.ltk; omega
  have c : ∀ o, w3.cell? ⟨D, o, none⟩ = w.cell? ⟨D, o, none⟩ := fun o => World.cell?_of_block (a := ⟨D, o, none⟩) eD
  have o4 : ∀ k, k ≠ D → (w3.setCell ⟨D, 1, none⟩ (.slice (some ⟨g, 0, none⟩) (m + 1) cap)).heap[k]? = w3.heap[k]? := fun k hk => Below.heap_setCell _ _ _ _ hk
  refine ⟨⟨?_, ?_, ?_, ?_, fun o => ?_, ?_, ?_, ?_, h.k1, ?_, ?_, push_ok h.ok ha hb⟩, ?_⟩
  · rw [World.cell?_setCell_other _ _ _ _ (by simp), c]; exact h.c0
  · exact World.cell?_setCell_same _ _ _ ((c 1).trans h.c1)
  · rw [World.cell?_setCell_other _ _ _ _ (by simp), c]; exact h.c2
  · rw [World.cell?_setCell_other _ _ _ _ (by simp), c]; exact h.c3
  · rw [World.frozen?_setCell, World.frozen?_of_block (w := w) (w' := w3) (a := ⟨D, o, none⟩) eD]; exact h.f o
  · exact (h.kept.same ek).same (o4 gk h.k1)
  · show m + 1 = (s.ws ++ [(at_, bs)]).length
    rw [List.length_append, ← h.len]; rfl
  · show World.ownsRow _ 0 82 65 _ (m + 1) (wcells (s.ws ++ [(at_, bs)]))
    rw [wcells_snoc]
    refine row_same hown (fun k hk => ?_)
    obtain rfl : g = k := by simpa [Value.ownBlock] using hk
    exact o4 g gD
  · simpa [Value.ownBlock] using gD
  · simpa [Value.ownBlock] using gK
  · exact (hc.mono (fun k _ hk => .inr (.inr hk))).setCell (p := ⟨D, 1, none⟩) (.inl (.inl rfl)) _
theorem hit_pair (s : Ds) (hu : s.down = false) : (hitS s).down = true ∧ hitE s = 40 ∨ (hitS s).down = false ∧ hitE s = 0 := by
  unfold hitS hitE
  by_cases h0 : s.left = 0
  · rw [if_pos h0, if_pos h0]; exact .inr ⟨hu, rfl⟩
  · rw [if_neg h0, if_neg h0]
    by_cases h1 : s.left - 1 = 0
    · rw [if_pos h1]; exact .inl ⟨by simp [h1], rfl⟩
    · rw [if_neg h1]; exact .inr ⟨by simp [h1], rfl⟩

set_option maxRecDepth 100000 in
set_option maxHeartbeats 1000000 in
theorem rwrite_main {w : World} {D gk ck m cv : Nat} {av : Option Addr} {s : Ds} (h : Rk w D gk ck av m cv s) (at_ : Nat) (ha : at_ < s.n) (hu : s.down = false) {ad : Addr} {cp : Nat} {bs : List Int} (q : Sq w (some ad) 64 cp bs) (hr : m < 3000000000000) :
    Calls Try.prog 37 #[.pointer (some ⟨D, 0, none⟩), .int .i64 at_, .slice (some ad) 64 cp] w fun e w' => ∃ s1 v', s1 = { s with ws := s.ws ++ [(at_, bs)] } ∧ e = .returned (.int .i64 (hitE s1)) ∧ Chg (ROwn D gk (.slice av m cv)) w w' ∧ ∃ av' m' cv', v' = Value.slice av' m' cv' ∧ Rk w' D gk ck av' m' cv' (hitS s1) ∧ (∀ k, v'.ownBlock = some k → (Value.slice av m cv).ownBlock = some k ∨ w.heap.size ≤ k) := by
  obtain ⟨i0, hi, hz0, hz1, hz2⟩ := info_parts rwinfo
  have H := hide h
  have hzv := rzero_write
  have hzn := zwr_ne
  have hzs := zwr_set at_
  have hst := rstore_new (awr at_) (awr_size _) (awr_one _)
  have hcp := rcopy_new at_ q
  have hsz := awr_size at_
  have HB : Hid (Blk bs) := ⟨q.length, q.wf⟩
  have WL : (wcell (at_, bs)).length = 65 := wcell_length q.length
  have W1 := wcell_one (at_, bs)
  have c0 := h.c0
  have c1 := h.c1
  have c3 := h.c3
  rw [hu] at c3
  have f1 := h.f 1
  have LT : Hid (D < w.heap.size) := h.ltD
  have HU : Hid (s.down = false) := hu
  have a1 : ¬ ((at_ : Int) < 0) := by omega
  have a2 : (at_ : Int) < (s.n : Int) := by omega
  clear h q hu
  go_enter Try.func37, Try.ntmps37
  go_wp2_with fail
  clear hzv hzn hzs hst hcp
  obtain ⟨w2, e2⟩ : ∃ w2, w2 = w.alloc (.cells (wcell (at_, bs)).toArray 82) := ⟨_, rfl⟩
  rw [← e2]
  have B2 : Hid (Below w.heap.size w w2) := by rw [e2]; exact below_alloc (Below.refl _ _) _
  have G2 : Hid (w2.heap[w.heap.size]? = some (.cells (wcell (at_, bs)).toArray 82 (0, 0))) := by rw [e2]; exact heap_alloc_new w _
  have S2 : Hid (w2.heap.size = w.heap.size + 1) := by rw [e2]; simp [Hid]
  clear e2
  have d1 : w2.cell? ⟨D, 1, none⟩ = some (.slice av m cv) := (B2.out.cell (p := ⟨D, 1, none⟩) LT.out).trans c1
  have g1 : w2.frozen? ⟨D, 1, none⟩ = false := (B2.out.frozen (p := ⟨D, 1, none⟩) LT.out).trans f1
  have r2 : w2.rangeAt w.heap.size 0 (wcell (at_, bs)) := fun j v hv => by rw [Nat.zero_add, cell_of_row w2 _ j _ _ _ G2.out]; simpa using hv
  have hbs := bslR_run (at_, bs) WL
  have NE : Hid (∀ k, (Value.slice av m cv).ownBlock = some k → k < w.heap.size ∧ k ≠ D) := fun k hk => ⟨(H.out.ws.lt k hk).2, fun e => H.out.v1 (e ▸ hk)⟩
  have RW : Hid (∀ u, Below w.heap.size w u → u.ownsRow 0 82 65 (.slice av m cv) m (wcells s.ws)) := fun u hb => row_same H.out.ws (fun k hk => hb.block k (NE.out k hk).1)
  have LT2 : Hid (D < w2.heap.size) := Nat.lt_of_lt_of_le LT.out B2.out.size
  have L2' : (ld65 ⟨w.heap.size, 0, none⟩).run Try.prog w2.drew = .ok (wcell (at_, bs)).toArray w2.drew := ldw (by simpa using r2) WL
  have d1a : (w2.alloc (.cells (wcell (at_, bs)).toArray 82)).cell? ⟨D, 1, none⟩ = some (.slice av m cv) := (World.cell?_alloc_lt w2 _ _ LT2.out).trans d1
  clear r2 c0 c1 c3
  go_cut [] (fun w4 => ∃ (g cap : Nat) (w3 : World), w4 = (w3.setCell ⟨D, 1, none⟩ (.slice (some ⟨g, 0, none⟩) (m + 1) cap)) ∧ Hid (w3.ownsRow 0 82 65 (.slice (some ⟨g, 0, none⟩) (m + 1) cap) (m + 1) (wcells s.ws ++ wcell (at_, bs))) ∧ Hid ((w2.alloc (.cells (wcell (at_, bs)).toArray 82)).drew.grownBy w3 (Value.slice av m cv).ownBlock) ∧ Hid ((Value.slice av m cv).ownBlock = some g ∨ g = (w2.alloc (.cells (wcell (at_, bs)).toArray 82)).drew.heap.size))
  case first =>
    go_region_law (refine step_append_where _ (by rfl) (.tmp 36) (.tmp 38) 36 (by rfl) 0 82 i0 (.agg zwr) 65 72 Try.underlying36 hi hz0 hz1 hz2 (by rfl) (by omega) av m cv (by rfl) (wcells s.ws) (RW.out _ (below_alloc B2.out.drew _)) ⟨w2.heap.size, 0, none⟩ 1 1 (by rfl) (wcell (at_, bs)) (by rw [WL]) (World.news_of_block (heap_alloc_new w2.drew _)) W1 (by omega) (by unfold maxLen; omega) (by omega) (by omega) ?_; intro g cap w3 hown hgrow hat; have d3 : w3.cell? ⟨D, 1, none⟩ = some (.slice av m cv) := hgrow.cell ((World.cell?_alloc_lt w2.drew _ _ LT2.out).trans d1) (fun e => (NE.out D e.symm).2 rfl); have g3 : w3.frozen? ⟨D, 1, none⟩ = false := (hgrow.frozen_far ⟨D, 1, none⟩ (by simp; exact Nat.lt_succ_of_lt LT2.out) (fun e => (NE.out D e.symm).2 rfl)).trans ((World.frozen?_alloc_past _ _ _ LT2.out).trans g1); have HO := hide hown; have HG := hide hgrow; have HA := hide hat; clear hown hgrow hat)
    all_goals (go_wp2_with fail; go_meet; case rel => exact ⟨g, cap, w3, rfl, HO, HG, HA⟩)
  case rest =>
    obtain ⟨g, cap, w3, rfl, HO, HG, HA⟩ := hcut
    have CW : Hid (Chg (fun k => (Value.slice av m cv).ownBlock = some k) w w3) := ((Chg.of_below B2.out _).alloc _).drew.grown HG.out (fun k hk => .inl hk)
    have GG : Hid ((Value.slice av m cv).ownBlock = some g ∨ w.heap.size ≤ g) := by
      rcases HA.out with h | h
      · exact .inl h
      · exact .inr (by rw [h]; have := B2.out.size; simp; omega)
    have WD := hide (rwrite_done H.out ha HB.out CW.out HO.out GG.out)
    obtain ⟨w4, e4⟩ : ∃ w4, w4 = w3.setCell ⟨D, 1, none⟩ (.slice (some ⟨g, 0, none⟩) (m + 1) cap) := ⟨_, rfl⟩
    rw [← e4] at WD ⊢
    clear e4 hbs L2' d1a d1 g1 f1
    have C6 := hide (rhit_any WD.out.1 HU.out)
    have HP := hide (hit_pair { s with ws := s.ws ++ [(at_, bs)] } HU.out)
    go_wp2_with fail
    refine C6.out.mono ?_
    rintro e w6 ⟨rfl, hk6, hc6⟩
    have K6 := hide hk6
    have D6 := hide hc6
    clear hk6 hc6
    have FIN : Hid (Chg (ROwn D gk (.slice av m cv)) w w6 ∧ ∀ k, (Value.slice (some ⟨g, 0, none⟩) (m + 1) cap).ownBlock = some k → (Value.slice av m cv).ownBlock = some k ∨ w.heap.size ≤ k) := ⟨WD.out.2.trans D6.out (fun k _ hk => .inl hk), fun k hk => (show g = k by simpa [Value.ownBlock] using hk) ▸ GG.out⟩
    rcases HP.out with ⟨hd, he⟩ | ⟨hd, he⟩
    · have HE := hide he
      rw [hd]
      clear hd he
      go_wp2_with fail
      go_ret
      exact ⟨_, _, rfl, by rw [HE.out]; rfl, FIN.out.1, _, _, _, rfl, K6.out, FIN.out.2⟩
    · have HE := hide he
      rw [hd]
      clear hd he
      go_wp2_with fail
      go_ret
      exact ⟨_, _, rfl, by rw [HE.out]; rfl, FIN.out.1, _, _, _, rfl, K6.out, FIN.out.2⟩

theorem rwrite_any {w : World} {D : Nat} {s : Ds} {L : Nat → Prop} (h : Rsk w D s L) (at_ : Int) {a : Option Addr} {n cp : Nat} {bs : List Int} (q : Sq w a n cp bs) (hr : s.ws.length < 3000000000000) :
    Calls Try.prog 37 #[.pointer (some ⟨D, 0, none⟩), .int .i64 at_, .slice a n cp] w fun e w' => e = .returned (.int .i64 (writeE s at_ bs)) ∧ Rv w D L (writeS s at_ bs) w' := by
  obtain ⟨gk, ck, av, m, cv, h, hl⟩ := h
  have HL : Hid (bs.length = n) := q.length
  by_cases h0 : reachE s at_ = 0
  · obtain ⟨hu, at', rfl, ha⟩ := reach_at h0
    by_cases h1 : n = 64
    · subst h1
      obtain ⟨b, off, e, _⟩ := q.cells (by omega)
      subst e
      refine (rwrite_main h at' ha hu q (by rw [h.len]; exact hr)).mono ?_
      rintro e w' ⟨s1, v', rfl, rfl, hc, av', m', cv', rfl, hk, hv⟩
      have e1 : writeE s at' bs = hitE { s with ws := s.ws ++ [(at', bs)] } := by unfold writeE; rw [h0, HL.out]; rfl
      have e2 : writeS s at' bs = hitS { s with ws := s.ws ++ [(at', bs)] } := by unfold writeS; rw [h0, HL.out]; rfl
      rw [e1, e2]
      refine ⟨rfl, hc.mono (fun k _ hk => hl k hk), gk, ck, av', m', cv', hk, fun k hj => ?_⟩
      rcases hj with rfl | rfl | hj
      · exact .inl (hl _ (.inl rfl))
      · exact .inl (hl _ (.inr (.inl rfl)))
      · rcases hv k hj with h2 | h2
        · exact .inl (hl _ (.inr (.inr h2)))
        · exact .inr h2
    · have e1 : Hid (writeE s at' bs = 1) := by show _ = _; unfold writeE; rw [h0, HL.out]; simp [h1]
      have e2 : Hid (writeS s at' bs = s) := by show _ = _; unfold writeS; rw [h0, HL.out]; simp [h1]
      have hx : ((n : Int) == 64) = false := by simp; omega
      have hx2 : ((n : Int) = 64) = False := by simp; omega
      have H := hide h
      have HLL := hide hl
      have c0 := h.c0
      have c3 := h.c3
      rw [hu] at c3
      have a1 : ¬ ((at' : Int) < 0) := by omega
      have a2 : (at' : Int) < (s.n : Int) := by omega
      clear h q h0 hr hl h1 hu
      go_enter Try.func37, Try.ntmps37
      go_wp2_with fail
      go_ret
      rw [e1.out, e2.out]
      exact ⟨rfl, Chg.refl _ _, gk, ck, av, m, cv, H.out, fun k hk => .inl (HLL.out k hk)⟩
  · have e1 : Hid (writeE s at_ bs = reachE s at_) := by show _ = _; unfold writeE; rw [if_pos h0]
    have e2 : Hid (writeS s at_ bs = s) := by show _ = _; unfold writeS; rw [if_pos h0]
    have H := hide h
    have HLL := hide hl
    have c0 := h.c0
    have c3 := h.c3
    have FI : Hid (Rv w D L s w) := ⟨Chg.refl _ _, gk, ck, av, m, cv, h, fun k hk => .inl (hl k hk)⟩
    cases hd : s.down with
    | true =>
      rw [hd] at c3
      have e3 : Hid (reachE s at_ = 40) := by show _ = _; unfold reachE; rw [hd]; rfl
      clear h q h0 hr hl hd
      go_enter Try.func37, Try.ntmps37
      go_wp2_with fail
      go_ret
      rw [e1.out, e2.out, e3.out]
      exact ⟨rfl, FI.out⟩
    | false =>
      rw [hd] at c3
      have e3 : Hid (reachE s at_ = 41) := by
        show _ = _
        unfold reachE at h0 ⊢
        rw [hd] at h0 ⊢
        simp at h0 ⊢
        omega
      by_cases a1 : at_ < 0
      · clear h q h0 hr hl hd
        go_enter Try.func37, Try.ntmps37
        go_wp2_with fail
        go_ret
        rw [e1.out, e2.out, e3.out]
        exact ⟨rfl, FI.out⟩
      · have a2 : (s.n : Int) ≤ at_ := by
          unfold reachE at h0
          rw [hd] at h0
          simp at h0
          omega
        clear h q h0 hr hl hd
        go_enter Try.func37, Try.ntmps37
        go_wp2_with fail
        go_ret
        rw [e1.out, e2.out, e3.out]
        exact ⟨rfl, FI.out⟩
end Go.Proofs.Ytfkclebngldjmaa
