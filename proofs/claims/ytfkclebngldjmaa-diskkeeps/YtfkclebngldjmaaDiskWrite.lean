/- The landed disk's Write. No condition but that there is memory for what waits. -/
import Derived.Test.YtfkclebngldjmaaDiskNew
import Derived.Test.YtfkclebngldjmaaWireRow
import Derived.Laws.CopyOwn
import Derived.Test.YtfkclebngldjmaaAppendWide
import Derived.Test.YtfkclebngldjmaaBuildOne
import Derived.Deep.RegionHeld3
import Derived.Deep.AppendLies
import Derived.Deep.DeepCutAuto
namespace Go.Proofs.Ytfkclebngldjmaa
open Go.ChangeShapes Go.WideShapes Go.ChangeAt Go.RowKit B8 Dm
set_option linter.unusedVariables false

/-- a write of zeros, as cells -/
def zwr : Array Value := (Value.int .i64 0 :: List.replicate 64 (Value.int .u8 0)).toArray
theorem winfo : (Try.prog.info? 74).map (fun i => (i.zero, i.size, i.bytes)) = some (some (.agg zwr), 65, 72) := by kernel_rfl
theorem zero_write (w : World) : (zeroValue 74).run Try.prog w = .ok (.agg zwr) w := by
  obtain ⟨i, hi, hz, hs, hb⟩ := info_parts winfo
  simp [zeroValue, typeInfo, hi, hz]
theorem zwr_ne : (zwr = #[]) = False := by simp [zwr]
/-- a write with its place, its bytes still zeros -/
def awr (at_ : Int) : Array Value := (Value.int .i64 at_ :: List.replicate 64 (Value.int .u8 0)).toArray
theorem zwr_set (at_ : Int) : zwr.setIfInBounds 0 (.int .i64 at_) = awr at_ := by simp [zwr, awr]
theorem awr_size (at_ : Int) : (awr at_).size = 65 := by simp [awr]
theorem zwr_size : zwr.size = 65 := by simp [zwr]
theorem awr_one (at_ : Int) : (awr at_).all (·.oneCell') = true := by
  refine Array.all_eq_true_iff_forall_mem.2 (fun v hv => ?_)
  simp only [awr, List.mem_toArray, List.mem_cons] at hv
  rcases hv with rfl | hv
  · rfl
  · rw [List.eq_of_mem_replicate hv]; rfl
theorem store_new (cells : Array Value) (hs : cells.size = 65) (h1 : cells.all (·.oneCell') = true) (w : World) : (storeCells ⟨w.heap.size, 0, none⟩ cells.toList).run Try.prog (w.alloc (.cells zwr 74)) = .ok () (w.alloc (.cells cells 74)) := by
  have := run_storeCells_from (P := Try.prog) w.heap.size 74 cells.toList 0 zwr (w.alloc (.cells zwr 74)) (heap_alloc_new w _) (by rw [zwr_size]; simp [hs]) (fun v hv => (Array.all_eq_true_iff_forall_mem.1 h1) v (by simpa using hv))
  rw [this]
  simp [setRow_alloc]
/-- the bytes go into the write that was made -/
theorem copy_new {w : World} {ad : Addr} {cp : Nat} {bs : List Int} (at_ : Nat) (q : Sq w (some ad) 64 cp bs) (ty : TypeId) :
    (Builtin.copy_ #[46, 46] ty #[.slice (some ⟨w.heap.size, 1, none⟩) 64 64, .slice (some ad) 64 cp]).run Try.prog (w.alloc (.cells (awr at_) 74)) = .ok (goInt 64) (w.alloc (.cells (wcell (at_, bs)).toArray 74)) := by
  obtain ⟨i, hi, hz, hsz, hb⟩ := info_parts info
  have hl : (vals bs).length = 64 := by rw [vals_length, q.length]
  have q' := q.below (below_alloc (Below.refl _ _) (.cells (awr at_) 74))
  have := run_copy_row (P := Try.prog) (w.alloc (.cells (awr at_) 74)) 46 46 ty 5 w.heap.size 1 64 64 ad 64 cp (awr at_) 74 (vals bs) Try.underlying46 (by rw [hi, Option.map_some, hsz]) (heap_alloc_new w _) (by rw [hl]; rfl) (q'.news ad rfl) (by rw [hl, awr_size]; omega) (vals_one _)
  rw [this, hl]
  have e : ((awr at_).toList.take 1 ++ vals bs ++ (awr at_).toList.drop (1 + 64)).toArray = (wcell (at_, bs)).toArray := by simp [awr, wcell]
  rw [e, setRow_alloc]
  rfl

/-- behind the append, the list's field and the shown block are set -/
theorem write_done {w w3 : World} {D gk ck gs cs m cv g cap at_ : Nat} {av : Option Addr} {s : Ds} {bs : List Int} (h : Dk w D gk ck gs cs av m cv s) (ha : at_ < s.n) (hb : Blk bs)
    (hc : Chg (fun k => (Value.slice av m cv).ownBlock = some k) w w3) (hown : w3.ownsRow 0 74 65 (.slice (some ⟨g, 0, none⟩) (m + 1) cap) (m + 1) (wcells s.ws ++ wcell (at_, bs))) (hg : (Value.slice av m cv).ownBlock = some g ∨ w.heap.size ≤ g) :
    w3.cell? ⟨D, 1, none⟩ = some (.slice (some ⟨gs, 0, none⟩) s.n cs) ∧ w3.there gs (at_ * 64) 64 ∧
    Dk ((w3.setCell ⟨D, 2, none⟩ (.slice (some ⟨g, 0, none⟩) (m + 1) cap)).setCells gs (at_ * 64) (vals bs)) D gk ck gs cs (some ⟨g, 0, none⟩) (m + 1) cap { s with ws := s.ws ++ [(at_, bs)] } ∧
    Chg (Own D gk gs (.slice av m cv)) w ((w3.setCell ⟨D, 2, none⟩ (.slice (some ⟨g, 0, none⟩) (m + 1) cap)).setCells gs (at_ * 64) (vals bs)) := by
  have eD : w3.heap[D]? = w.heap[D]? := hc.block D h.ltD (fun e => h.v1 e)
  have ek : w3.heap[gk]? = w.heap[gk]? := hc.block gk h.ltk (fun e => h.v2 e)
  have es : w3.heap[gs]? = w.heap[gs]? := hc.block gs h.lts (fun e => h.v3 e)
  have gD : g ≠ D := fun e => by subst e; rcases hg with hg | hg; exact h.v1 hg; have := h.ltD; omega
  have gK : g ≠ gk := fun e => by subst e; rcases hg with hg | hg; exact h.v2 hg; have := h.ltk; omega
  have gS : g ≠ gs := fun e => by subst e; rcases hg with hg | hg; exact h.v3 hg; have := h.lts; omega
  have c : ∀ o, w3.cell? ⟨D, o, none⟩ = w.cell? ⟨D, o, none⟩ := fun o => World.cell?_of_block (a := ⟨D, o, none⟩) eD
  have sh := (h.shown.same es)
  let w4 := w3.setCell ⟨D, 2, none⟩ (.slice (some ⟨g, 0, none⟩) (m + 1) cap)
  have o4 : ∀ k, k ≠ D → w4.heap[k]? = w3.heap[k]? := fun k hk => Below.heap_setCell _ _ _ _ hk
  have o5 : ∀ k, k ≠ gs → (w4.setCells gs (at_ * 64) (vals bs)).heap[k]? = w4.heap[k]? := fun k hk => heap_setCells gs _ _ w4 k hk
  have c5 : ∀ o, (w4.setCells gs (at_ * 64) (vals bs)).cell? ⟨D, o, none⟩ = w4.cell? ⟨D, o, none⟩ := fun o => World.cell?_of_block (a := ⟨D, o, none⟩) (o5 D h.s1.symm)
  refine ⟨(c 1).trans h.c1, sh.there at_ ha, ⟨?_, ?_, ?_, ?_, ?_, fun o => ?_, ?_, ?_, ?_, ?_, h.kcap, h.scap, h.k1, h.s1, h.ks, ?_, ?_, ?_, push_ok h.ok ha hb⟩, ?_⟩
  · rw [c5, World.cell?_setCell_other _ _ _ _ (by simp), c]; exact h.c0
  · rw [c5, World.cell?_setCell_other _ _ _ _ (by simp), c]; exact h.c1
  · rw [c5]; exact World.cell?_setCell_same _ _ _ ((c 2).trans h.c2)
  · rw [c5, World.cell?_setCell_other _ _ _ _ (by simp), c]; exact h.c3
  · rw [c5, World.cell?_setCell_other _ _ _ _ (by simp), c]; exact h.c4
  · rw [World.frozen?_setCells, World.frozen?_setCell, World.frozen?_of_block (w := w) (w' := w3) (a := ⟨D, o, none⟩) eD]; exact h.f o
  · exact ((h.kept.same ek).same (o4 gk h.k1)).same (o5 gk h.ks)
  · show Bks _ gs s.n (over s.kept (s.ws ++ [(at_, bs)]))
    rw [over_snoc]
    exact (sh.same (o4 gs h.s1)).set (fun i hi => (h.ok.shown i hi).1) ha hb.1
  · show m + 1 = (s.ws ++ [(at_, bs)]).length
    rw [List.length_append, ← h.len]; rfl
  · show World.ownsRow _ 0 74 65 _ (m + 1) (wcells (s.ws ++ [(at_, bs)]))
    rw [wcells_snoc]
    refine row_same hown (fun k hk => ?_)
    obtain rfl : g = k := by simpa [Value.ownBlock] using hk
    exact (o5 g gS).trans (o4 g gD)
  · simpa [Value.ownBlock] using gD
  · simpa [Value.ownBlock] using gK
  · simpa [Value.ownBlock] using gS
  · exact Chg.setCells gs (.inl (.inr (.inr (.inl rfl)))) _ _ ((hc.mono (fun k _ hk => .inr (.inr (.inr hk)))).setCell (p := ⟨D, 2, none⟩) (.inl (.inl rfl)) _)
/-- 65 cells, loaded at one time -/
def ld65 (a : Addr) : Sem (Array Value) := loadCellsFrom a 0 65 #[]
theorem ld65_from (a : Addr) : loadCellsFrom a 0 65 #[] = ld65 a := rfl
theorem ld65_cells (a : Addr) : loadCells a 65 = ld65 a := rfl
/-- a write, loaded whole -/
theorem ldw {w : World} {N o : Nat} {x : Nat × List Int} (h : w.rangeAt N o (wcell x)) (hl : (wcell x).length = 65) : (ld65 ⟨N, o, none⟩).run Try.prog w = .ok (wcell x).toArray w := by
  have := run_loadCells_list (P := Try.prog) w ⟨N, o, none⟩ (wcell x) (fun j v hv => by rw [Addr.add_mid]; exact h j v hv)
  rw [hl] at this
  exact this
/-- a list of one write, made at one time -/
def bslW (parts : Array (Nat × Value)) : Sem Value := Instr.buildSlice 63 1 parts
theorem bslW_eq (parts : Array (Nat × Value)) : Instr.buildSlice 63 1 parts = bslW parts := rfl
theorem bslW_run (x : Nat × List Int) (hl : (wcell x).length = 65) (w : World) : (bslW #[(0, .agg (wcell x).toArray)]).run Try.prog w = .ok (.slice (some ⟨w.heap.size, 0, none⟩) 1 1) (w.alloc (.cells (wcell x).toArray 74)) := by
  obtain ⟨i0, hi, hz0, hz1, hz2⟩ := info_parts winfo
  exact build_one 63 74 i0 (.agg zwr) 65 Try.underlying63 hi hz0 hz1 (by omega) (by omega) _ (by simp [hl]) w
attribute [local go_sem ↓] ld65_from ld65_cells bslW_eq
/-- what the store of a block leaves -/
theorem store_keeps {W : World} {D gs N o o' n : Nat} {v : Value} {xs ys : List Value} (h : W.cell? ⟨D, 1, none⟩ = some v ∧ W.rangeAt N 1 xs ∧ W.there gs o n) (h1 : gs ≠ D) (h2 : N ≠ gs) : (W.setCells gs o' ys).cell? ⟨D, 1, none⟩ = some v ∧ (W.setCells gs o' ys).rangeAt N 1 xs ∧ (W.setCells gs o' ys).there gs o n :=
  ⟨(World.cell?_setCells_out _ _ _ _ _ (fun e => absurd e.symm h1)).trans h.1, World.rangeAt_setCells_apart h.2.1 _ _ _ (.inl h2), World.there_setCells h.2.2 _ _ _⟩
theorem setCells_drew (b : Nat) : ∀ (vs : List Value) (o : Nat) (w : World), w.drew.setCells b o vs = (w.setCells b o vs).drew
  | [], _, _ => rfl
  | v :: r, o, w => by rw [World.setCells, World.setCells]; exact setCells_drew b r (o + 1) (w.setCell ⟨b, o, none⟩ v)
theorem Dk.drew {w : World} {D gk ck gs cs m cv : Nat} {av : Option Addr} {s : Ds} (h : Dk w D gk ck gs cs av m cv s) : Dk w.drew D gk ck gs cs av m cv s := h.same (fun _ _ => rfl)
theorem winfo_size : (Try.prog.info? 74).map (·.size) = some 65 := by kernel_rfl
theorem binfo_size : (Try.prog.info? 72).map (·.size) = some 64 := by kernel_rfl

set_option maxRecDepth 100000 in
set_option maxHeartbeats 1000000 in
theorem write_main {w : World} {D gk ck gs cs m cv : Nat} {av : Option Addr} {s : Ds} (h : Dk w D gk ck gs cs av m cv s) (at_ : Nat) (ha : at_ < s.n) (hu : s.down = false) {ad : Addr} {cp : Nat} {bs : List Int} (q : Sq w (some ad) 64 cp bs) (hr : m < 3000000000000) :
    Calls Try.prog 22 #[.pointer (some ⟨D, 0, none⟩), .int .i64 at_, .slice (some ad) 64 cp] w fun e w' => ∃ s1 v', s1 = { s with ws := s.ws ++ [(at_, bs)] } ∧ e = .returned (.int .i64 (hitE s1)) ∧ Chg (Own D gk gs (.slice av m cv)) w w' ∧ ∃ av' m' cv', v' = Value.slice av' m' cv' ∧ Dk w' D gk ck gs cs av' m' cv' (hitS s1) ∧ (∀ k, v'.ownBlock = some k → (Value.slice av m cv).ownBlock = some k ∨ w.heap.size ≤ k) := by
  obtain ⟨i0, hi, hz0, hz1, hz2⟩ := info_parts winfo
  have HE : Hid (reachE s at_ = 0) := by show _ = _; unfold reachE; rw [hu]; simp; omega
  have C := hide (reach_any h at_)
  rw [HE.out] at C
  have H := hide h
  have Q := hide q
  have hzv := zero_write
  have hzn := zwr_ne
  have hzs := zwr_set at_
  have hst := store_new (awr at_) (awr_size _) (awr_one _)
  have hcp := copy_new at_ q
  have hsz := awr_size at_
  have HB : Hid (Blk bs) := ⟨q.length, q.wf⟩
  have WL : (wcell (at_, bs)).length = 65 := wcell_length q.length
  have W1 := wcell_one (at_, bs)
  have c2 := h.c2
  have f2 := h.f 2
  have LT : Hid (D < w.heap.size) := h.ltD
  have HU : Hid (s.down = false) := hu
  clear h q hu HE
  go_enter Try.func22, Try.ntmps22
  go_wp2_with fail
  refine C.out.mono ?_
  rintro e w1 ⟨rfl, rfl⟩
  go_wp2_with fail
  clear hzv hzn hzs hst hcp
  have hu74 := Try.underlying74
  have hi74 : (Try.prog.info? 74).map (·.size) = some (wcell (at_, bs)).length := by rw [WL]; exact winfo_size
  obtain ⟨w2, e2⟩ : ∃ w2, w2 = w1.alloc (.cells (wcell (at_, bs)).toArray 74) := ⟨_, rfl⟩
  rw [← e2]
  have B2 : Hid (Below w1.heap.size w1 w2) := by rw [e2]; exact below_alloc (Below.refl _ _) _
  have G2 : Hid (w2.heap[w1.heap.size]? = some (.cells (wcell (at_, bs)).toArray 74 (0, 0))) := by rw [e2]; exact heap_alloc_new w1 _
  have S2 : Hid (w2.heap.size = w1.heap.size + 1) := by rw [e2]; simp [Hid]
  clear e2
  have d2 : w2.cell? ⟨D, 2, none⟩ = some (.slice av m cv) := (B2.out.cell (p := ⟨D, 2, none⟩) LT.out).trans c2
  have g2 : w2.frozen? ⟨D, 2, none⟩ = false := (B2.out.frozen (p := ⟨D, 2, none⟩) LT.out).trans f2
  have r2 : w2.rangeAt w1.heap.size 0 (wcell (at_, bs)) := fun j v hv => by rw [Nat.zero_add, cell_of_row w2 _ j _ _ _ G2.out]; simpa using hv
  have L2 := ldw r2 WL
  have hbs := bslW_run (at_, bs) WL
  have NE : Hid (∀ k, (Value.slice av m cv).ownBlock = some k → k < w1.heap.size ∧ k ≠ D) := fun k hk => ⟨(H.out.ws.lt k hk).2, fun e => H.out.v1 (e ▸ hk)⟩
  have RW : Hid (∀ u, Below w1.heap.size w1 u → u.ownsRow 0 74 65 (.slice av m cv) m (wcells s.ws)) := fun u hb => row_same H.out.ws (fun k hk => hb.block k (NE.out k hk).1)
  have LT2 : Hid (D < w2.heap.size) := Nat.lt_of_lt_of_le LT.out B2.out.size
  have NW : Hid (w1.heap.size < w2.heap.size) := by show _ < _; rw [S2.out]; omega
  have L2' : (ld65 ⟨w1.heap.size, 0, none⟩).run Try.prog w2.drew = .ok (wcell (at_, bs)).toArray w2.drew := ldw (by simpa using r2) WL
  have d2a : (w2.alloc (.cells (wcell (at_, bs)).toArray 74)).cell? ⟨D, 2, none⟩ = some (.slice av m cv) := (World.cell?_alloc_lt w2 _ _ LT2.out).trans d2
  clear r2 L2
  go_cut [] (fun w4 => ∃ (g cap : Nat) (w3 : World), w4 = (w3.setCell ⟨D, 2, none⟩ (.slice (some ⟨g, 0, none⟩) (m + 1) cap)) ∧ Hid (w3.ownsRow 0 74 65 (.slice (some ⟨g, 0, none⟩) (m + 1) cap) (m + 1) (wcells s.ws ++ wcell (at_, bs))) ∧ Hid ((w2.alloc (.cells (wcell (at_, bs)).toArray 74)).drew.grownBy w3 (Value.slice av m cv).ownBlock) ∧ Hid ((Value.slice av m cv).ownBlock = some g ∨ g = (w2.alloc (.cells (wcell (at_, bs)).toArray 74)).drew.heap.size))
  case first =>
    go_region_law (refine step_append_where _ (by rfl) (.tmp 28) (.tmp 30) 63 (by rfl) 0 74 i0 (.agg zwr) 65 72 Try.underlying63 hi hz0 hz1 hz2 (by rfl) (by omega) av m cv (by rfl) (wcells s.ws) (RW.out _ (below_alloc B2.out.drew _)) ⟨w2.heap.size, 0, none⟩ 1 1 (by rfl) (wcell (at_, bs)) (by rw [WL]) (World.news_of_block (heap_alloc_new w2.drew _)) W1 (by omega) (by unfold maxLen; omega) (by omega) (by omega) ?_; intro g cap w3 hown hgrow hat; have d3 : w3.cell? ⟨D, 2, none⟩ = some (.slice av m cv) := hgrow.cell ((World.cell?_alloc_lt w2.drew _ _ LT2.out).trans d2) (fun e => (NE.out D e.symm).2 rfl); have g3 : w3.frozen? ⟨D, 2, none⟩ = false := (hgrow.frozen_far ⟨D, 2, none⟩ (by simp; exact Nat.lt_succ_of_lt LT2.out) (fun e => (NE.out D e.symm).2 rfl)).trans ((World.frozen?_alloc_past _ _ _ LT2.out).trans g2); have HO := hide hown; have HG := hide hgrow; have HA := hide hat; clear hown hgrow hat)
    all_goals (go_wp2_with fail; go_meet; case rel => exact ⟨g, cap, w3, rfl, HO, HG, HA⟩)
  case rest =>
    obtain ⟨g, cap, w3, rfl, HO, HG, HA⟩ := hcut
    have CW : Hid (Chg (fun k => (Value.slice av m cv).ownBlock = some k) w1 w3) := ((Chg.of_below B2.out _).alloc _).drew.grown HG.out (fun k hk => .inl hk)
    have GG : Hid ((Value.slice av m cv).ownBlock = some g ∨ w1.heap.size ≤ g) := by
      rcases HA.out with h | h
      · exact .inl h
      · exact .inr (by rw [h]; have := B2.out.size; simp; omega)
    have WD := hide (write_done H.out ha HB.out CW.out HO.out GG.out)
    have gsD : gs ≠ D := H.out.s1
    have ltS : Hid (gs < w1.heap.size) := H.out.lts
    have G3 : Hid (w3.heap[w1.heap.size]? = some (.cells (wcell (at_, bs)).toArray 74 (0, 0))) := by
      refine (HG.out.block _ ?_ ?_).trans ?_
      · have := NW.out; simp; omega
      · intro e
        have := (NE.out _ e.symm).1
        omega
      · exact (heap_push_lt _ NW.out).trans G2.out
    obtain ⟨w4, e4⟩ : ∃ w4, w4 = w3.setCell ⟨D, 2, none⟩ (.slice (some ⟨g, 0, none⟩) (m + 1) cap) := ⟨_, rfl⟩
    rw [← e4] at WD ⊢
    have o4 : Hid (∀ k, k ≠ D → w4.heap[k]? = w3.heap[k]?) := fun k hk => by rw [e4]; exact Below.heap_setCell _ _ _ _ hk
    have x1 : w4.cell? ⟨D, 1, none⟩ = some (.slice (some ⟨gs, 0, none⟩) s.n cs) := by rw [e4, World.cell?_setCell_other _ _ _ _ (by simp)]; exact WD.out.1
    have x2 : w4.rangeAt w1.heap.size 1 (vals bs) := fun j v hv => by
      rw [cell_of_row w4 _ (1 + j) _ _ _ ((o4.out _ (by have := LT.out; omega)).trans G3.out)]
      simp [wcell, Nat.add_comm 1 j]
      exact hv
    have x3 : w4.there gs (at_ * 64) 64 := there_same WD.out.2.1 (o4.out gs gsD)
    have KD := hide WD.out.2.2
    have hN : w1.heap.size ≠ gs := by have := ltS.out; omega
    clear e4 WD hbs L2' d2a d2 g2 hu74 hi74 c2 f2
    have hu72 := Try.underlying72
    have VL : (vals bs).length = 64 := by rw [vals_length]; exact HB.out.1
    have hi72 : (Try.prog.info? 72).map (·.size) = some (vals bs).length := by rw [VL]; exact binfo_size
    have hone := vals_one bs
    have b1 : (0 : Int) ≤ (at_ : Int) := by omega
    have b2 : (at_ : Int) < (s.n : Int) := by omega
    go_wp2_with fail
    go_region_held3 (fun w' => w'.cell? ⟨D, 1, none⟩ = some (.slice (some ⟨gs, 0, none⟩) s.n cs) ∧ w'.rangeAt w1.heap.size 1 (vals bs) ∧ w'.there gs (at_ * 64) 64)
      (first | exact ⟨x1, x2, x3⟩ | (refine store_keeps ?_ gsD hN; assumption))
      (fail)
    clear x1 x2 x3
    rw [setCells_drew]
    have K5 := hide KD.out.1.drew
    have C5 := hide KD.out.2.drew
    have C6 := hide (count_any K5.out HU.out)
    clear KD
    obtain ⟨w5, e5⟩ : ∃ w5, w5 = (w4.setCells gs (at_ * 64) (vals bs)).drew := ⟨_, rfl⟩
    rw [← e5] at K5 C5 C6 ⊢
    clear e5
    go_wp2_with fail
    refine C6.out.mono ?_
    rintro e w6 ⟨rfl, hk6, hc6⟩
    have K6 := hide hk6
    have D6 := hide hc6
    clear hk6 hc6
    go_wp2_with fail
    go_ret
    refine ⟨_, _, rfl, rfl, C5.out.trans D6.out (fun k _ hk => .inl hk), _, _, _, rfl, K6.out, fun k hk => ?_⟩
    obtain rfl : g = k := by simpa [Value.ownBlock] using hk
    exact GG.out

theorem write_any {w : World} {D : Nat} {s : Ds} {L : Nat → Prop} (h : Dsk w D s L) (at_ : Int) {a : Option Addr} {n cp : Nat} {bs : List Int} (q : Sq w a n cp bs) (hr : s.ws.length < 3000000000000) :
    Calls Try.prog 22 #[.pointer (some ⟨D, 0, none⟩), .int .i64 at_, .slice a n cp] w fun e w' => e = .returned (.int .i64 (writeE s at_ bs)) ∧ Mv w D L (writeS s at_ bs) w' := by
  obtain ⟨gk, ck, gs, cs, av, m, cv, h, hl⟩ := h
  have C := hide (reach_any h at_)
  have HL : Hid (bs.length = n) := q.length
  by_cases h0 : reachE s at_ = 0
  · by_cases h1 : n = 64
    · subst h1
      obtain ⟨at', rfl⟩ : ∃ k : Nat, at_ = (k : Int) := by
        unfold reachE at h0
        split at h0
        · omega
        · split at h0
          · omega
          · exact ⟨at_.toNat, by omega⟩
      have hu : s.down = false := by
        unfold reachE at h0
        split at h0
        · omega
        · rename_i hd
          cases hq : s.down with
          | true => exact absurd hq hd
          | false => rfl
      have ha : at' < s.n := by
        unfold reachE at h0
        rw [hu] at h0
        simp at h0
        omega
      obtain ⟨b, off, e, _⟩ := q.cells (by omega)
      subst e
      refine (write_main h at' ha hu q (by rw [h.len]; exact hr)).mono ?_
      rintro e w' ⟨s1, v', rfl, rfl, hc, av', m', cv', rfl, hk, hv⟩
      have e1 : writeE s at' bs = hitE { s with ws := s.ws ++ [(at', bs)] } := by unfold writeE; rw [h0, HL.out]; rfl
      have e2 : writeS s at' bs = hitS { s with ws := s.ws ++ [(at', bs)] } := by unfold writeS; rw [h0, HL.out]; rfl
      rw [e1, e2]
      refine ⟨rfl, hc.mono (fun k _ hk => hl k hk), gk, ck, gs, cs, av', m', cv', hk, fun k hj => ?_⟩
      rcases hj with rfl | rfl | rfl | hj
      · exact .inl (hl _ (.inl rfl))
      · exact .inl (hl _ (.inr (.inl rfl)))
      · exact .inl (hl _ (.inr (.inr (.inl rfl))))
      · rcases hv k hj with h2 | h2
        · exact .inl (hl _ (.inr (.inr (.inr h2))))
        · exact .inr h2
    · have e1 : Hid (writeE s at_ bs = 1) := by show _ = _; unfold writeE; rw [h0, HL.out]; simp [h1]
      have e2 : Hid (writeS s at_ bs = s) := by show _ = _; unfold writeS; rw [h0, HL.out]; simp [h1]
      rw [h0] at C
      have hx : ((n : Int) == 64) = false := by simp; omega
      have hx2 : ((n : Int) = 64) = False := by simp; omega
      have H := hide h
      have HLL := hide hl
      clear h q h0 hr hl h1
      go_enter Try.func22, Try.ntmps22
      go_wp2_with fail
      refine C.out.mono ?_
      rintro e w1 ⟨rfl, rfl⟩
      go_wp2_with fail
      go_ret
      rw [e1.out, e2.out]
      exact ⟨rfl, Chg.refl _ _, gk, ck, gs, cs, av, m, cv, H.out, fun k hk => .inl (HLL.out k hk)⟩
  · have e1 : Hid (writeE s at_ bs = reachE s at_) := by show _ = _; unfold writeE; rw [if_pos h0]
    have e2 : Hid (writeS s at_ bs = s) := by show _ = _; unfold writeS; rw [if_pos h0]
    have hx : (reachE s at_ == 0) = false := by simpa using h0
    have hx2 : (reachE s at_ = 0) = False := by simpa using h0
    have H := hide h
    have HLL := hide hl
    generalize reachE s at_ = r at *
    clear h q h0 hr hl
    go_enter Try.func22, Try.ntmps22
    go_wp2_with fail
    refine C.out.mono ?_
    rintro e w1 ⟨rfl, rfl⟩
    go_wp2_with fail
    go_ret
    rw [e1.out, e2.out]
    exact ⟨rfl, Chg.refl _ _, gk, ck, gs, cs, av, m, cv, H.out, fun k hk => .inl (HLL.out k hk)⟩
end Go.Proofs.Ytfkclebngldjmaa
