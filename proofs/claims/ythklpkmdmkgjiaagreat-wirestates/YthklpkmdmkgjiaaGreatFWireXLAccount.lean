/- What the document's walk reads of a list of accounts. No condition but the size. -/
import Derived.Test.YthklpkmdmkgjiaaGreatJS
import Derived.Test.YthklpkmdmkgjiaaGreatFWireDocAcc
import Derived.Test.YthklpkmdmkgjiaaGreatJA
import Derived.Deep.DeepCutAuto
import Derived.Laws.CopyOwn
import Derived.Deep.AppendLies
namespace Go.Proofs.YthklpkmdmkgjiaaGreat
open Go.ChangeShapes Go.WideShapes Go.ChangeAt Go.RowKit B8 Cm Wm
set_option linter.unusedVariables false

/-- the rows that were read so far, as cells -/
def Xra (u : World) (P : Nat → Prop) (rows : List (List Value)) (xs : List Acc) : Prop := rows.length = xs.length ∧ ∀ (i : Nat) (row : List Value) (x : Acc), rows[i]? = some row → xs[i]? = some x → AccC u P (fun q => row[q]?) x
theorem Xra.same {u u' : World} {P P' : Nat → Prop} {rows : List (List Value)} {xs : List Acc} (h : Xra u P rows xs) (hk : ∀ x ∈ xs, AccK x) (hb : ∀ b, P b → P' b ∧ u'.heap[b]? = u.heap[b]?) : Xra u' P' rows xs :=
  ⟨h.1, fun i r x hr hx => (h.2 i r x hr hx).same (fun _ _ => rfl) (hk x (List.mem_of_getElem? hx)) hb⟩
theorem Xra.snoc {u : World} {P : Nat → Prop} {rows : List (List Value)} {xs : List Acc} (h : Xra u P rows xs) {row : List Value} {x : Acc} (hv : AccC u P (fun q => row[q]?) x) : Xra u P (rows ++ [row]) (xs ++ [x]) := by
  refine ⟨by simp [h.1], fun i r y hr hy => ?_⟩
  by_cases hi : i < rows.length
  · rw [List.getElem?_append_left hi] at hr
    rw [List.getElem?_append_left (by rw [← h.1]; exact hi)] at hy
    exact h.2 i r y hr hy
  · rw [List.getElem?_append_right (by omega)] at hr
    rw [List.getElem?_append_right (by rw [← h.1]; omega), ← h.1] at hy
    have h0 : i - rows.length = 0 := by have := (List.getElem?_eq_some_iff.1 hr).1; simp at this; omega
    rw [h0] at hr hy
    obtain rfl : row = r := by simpa using hr
    obtain rfl : x = y := by simpa using hy
    exact hv
theorem xrow_acc {w : World} {N o : Nat} (h : ∀ j, j < 10 → ∃ v, w.cell? ⟨N, o + j, none⟩ = some v ∧ v.oneCell' = true) : ∃ cs : List Value, cs.length = 10 ∧ (∀ j v, cs[j]? = some v → w.cell? ⟨N, o + j, none⟩ = some v) ∧ ∀ v ∈ cs, v.oneCell' = true := by
  have hc : ∀ j, j < 10 → ((List.range 10).map fun j => (w.cell? ⟨N, o + j, none⟩).getD undef)[j]? = w.cell? ⟨N, o + j, none⟩ := fun j hj => by
    obtain ⟨v, h1, _⟩ := h j hj
    rw [List.getElem?_map, List.getElem?_range hj, h1]
    simp [h1]
  refine ⟨(List.range 10).map fun j => (w.cell? ⟨N, o + j, none⟩).getD undef, by simp, fun j v hv => ?_, fun v hv => ?_⟩
  · have hj : j < 10 := by have := (List.getElem?_eq_some_iff.1 hv).1; simpa using this
    rw [hc j hj] at hv
    exact hv
  · obtain ⟨j, hj, rfl⟩ := List.mem_map.1 hv
    obtain ⟨v, h1, h2⟩ := h j (List.mem_range.1 hj)
    rw [h1]
    exact h2
theorem row_is {w : World} {N o : Nat} {cs : List Value} (hl : cs.length = 10) (hc : ∀ j v, cs[j]? = some v → w.cell? ⟨N, o + j, none⟩ = some v) (h : ∀ j, j < 10 → ∃ v, w.cell? ⟨N, o + j, none⟩ = some v ∧ v.oneCell' = true) (q : Nat) (hq : q < 10) : cs[q]? = w.cell? ⟨N, o + q, none⟩ := by
  rw [List.getElem?_eq_getElem (by omega)]
  exact (hc q _ (List.getElem?_eq_getElem (by omega))).symm
theorem la_of_rows {w : World} {B0 T j cv : Nat} {av : Option Addr} {P Q : Nat → Prop} {rows : List (List Value)} {xs : List Acc} (h : w.ownsRow B0 T 10 (.slice av j cv) j rows.flatten) (hrl : ∀ r ∈ rows, r.length = 10) (hx : Xra w Q rows xs) (hk : ∀ x ∈ xs, AccK x) (hQ : ∀ k, Q k → P k) (hl : xs.length = j) (hP : ∀ k, (Value.slice av j cv).ownBlock = some k → P k) : La w P av j cv xs := by
  rcases h.2 with ⟨e1, e2⟩ | ⟨g, cp, cur, e1, _, _, hjc, _⟩
  · obtain ⟨rfl, rfl, rfl⟩ : av = none ∧ j = 0 ∧ cv = 0 := by simpa using e1
    exact ⟨hl, Nat.le_refl _, fun _ => rfl, fun h0 => absurd h0 (by omega)⟩
  · obtain ⟨rfl, rfl⟩ : av = some ⟨g, 0, none⟩ ∧ cv = cp := by simpa using e1
    refine ⟨hl, hjc, (fun e => by cases e), fun _ => ⟨g, 0, rfl, hP g rfl, fun i x hxs => ?_⟩⟩
    have hi : i < rows.length := by rw [hx.1]; exact (List.getElem?_eq_some_iff.1 hxs).1
    have kx := hk x (List.mem_of_getElem? hxs)
    have r2 := hx.2 i _ x (List.getElem?_eq_getElem hi) hxs
    refine r2.same (fun q hq => ?_) kx (fun b hb => ⟨hQ b hb, rfl⟩)
    obtain ⟨v, hv, _⟩ := r2.cell kx q hq
    have hv : rows[i][q]? = some v := hv
    have := h.cells (g := g) rfl (i * 10 + q) v (by rw [flatten_at rows hrl i _ (List.getElem?_eq_getElem hi) q hq]; exact hv)
    rw [Addr.add_mid, Nat.zero_add] at this
    show w.cell? ⟨g, 0 + i * 10 + q, none⟩ = rows[i][q]?
    rw [Nat.zero_add, this, hv]
theorem xinfo_accounts : (Tryz.prog.info? 94).map (fun i => (i.zero, i.size, i.bytes)) = some (some (.agg #[.string ⟨#[]⟩, .int .i64 0, .int .i64 0, .int .i64 0, .int .i64 0, .slice none 0 0, .int .i64 0, .int .i64 0, .int .i64 0, .int .i64 0]), 10, 104) := by kernel_rfl
/-- what reading a list at the cell p of M brings about -/
def XLAccount (B W R : Nat) (a : Option Addr) (n cp : Nat) (bs : List Int) (s : St) (w : World) (M p : Nat) (u : World) : Prop :=
  XS u B W R a n cp bs (listA bs (accA bs) s).s ∧ ((listA bs (accA bs) s).s.err = 0 → ∃ ad k c, u.cell? ⟨M, p, none⟩ = some (.slice ad k c) ∧ La u (OutB B (Rown W R) M u) ad k c (listA bs (accA bs) s).v) ∧ Stp (Rown W R) M p (p + 1) w u
/-- the walk stands behind j of them -/
structure XLoopAccount (B W R : Nat) (a : Option Addr) (n cp : Nat) (bs : List Int) (s : St) (w : World) (M p j : Nat) (av : Option Addr) (cv : Nat) (rows : List (List Value)) (u : World) : Prop where
  x : XS u B W R a n cp bs (timesA (accA bs) j (countA bs 1024 s).s).s
  c : u.cell? ⟨M, p, none⟩ = some (.slice av j cv)
  f : u.frozen? ⟨M, p, none⟩ = false
  own : u.ownsRow w.heap.size 94 10 (.slice av j cv) j rows.flatten
  rl : rows.length = j ∧ ∀ r ∈ rows, r.length = 10
  r : (timesA (accA bs) j (countA bs 1024 s).s).s.err = 0 → Xra u (Qr w.heap.size (Value.slice av j cv).ownBlock u) rows (timesA (accA bs) j (countA bs 1024 s).s).v
  st : Stp (Rown W R) M p (p + 1) w u

set_option maxRecDepth 100000 in
set_option maxHeartbeats 4000000 in
theorem xlist_accounts {B W R : Nat} {a : Option Addr} {n cp : Nat} {bs : List Int} {s : St} {w : World} {M p : Nat} (h : XS w B W R a n cp bs s) (hF : Far W R a M) (hc : ∃ av nv cv, w.cell? ⟨M, p, none⟩ = some (.slice av nv cv)) (hz : w.frozen? ⟨M, p, none⟩ = false) :
    Calls Tryz.prog 48 #[.pointer (some ⟨W, 0, none⟩), .pointer (some ⟨M, p, none⟩)] w fun e w' => e = .returned (.tuple #[]) ∧ XLAccount B W R a n cp bs s w M p w' := by
  obtain ⟨i0, hi, hz0, hz1, hz2⟩ := info_parts xinfo_accounts
  obtain ⟨av0, nv0, cv0, hc⟩ := hc
  have CM := hide (xmany_any (nv0 : Int) h)
  have HF := hide hF
  have HZ := hide hz
  have HC := hide hc
  have ltM : Hid (M < w.heap.size) := World.block_lt_of_cell? w _ hc
  have WR : Hid (W < w.heap.size ∧ R < w.heap.size) := h.lt
  have AP : Hid (∀ b off, a = some ⟨b, off, none⟩ → b < w.heap.size) := fun b off e => (h.ap b off e).2
  have LO : Hid (B ≤ w.heap.size) := h.low
  have CL : Hid ((countA bs 1024 s).v ≤ 1024) := by show _ ≤ _; have := countA_le bs 1024 s; omega
  clear h hF hz
  go_enter Tryz.func48, Tryz.ntmps48
  go_wp2_with fail
  refine CM.out.mono ?_
  rintro e w1 ⟨rfl, hx1, hs1⟩
  have c1 := hx1.c1
  have eM := hs1.block M ltM.out (far_own HF.out w)
  have cM : w1.cell? ⟨M, p, none⟩ = some (.slice av0 nv0 cv0) := (World.cell?_of_block (w := w) (a := ⟨M, p, none⟩) eM).trans HC.out
  have fM : w1.frozen? ⟨M, p, none⟩ = false := (World.frozen?_of_block (w := w) (a := ⟨M, p, none⟩) eM).trans HZ.out
  have L0 : Hid (XLoopAccount B W R a n cp bs s w M p 0 none 0 [] (w1.setCell ⟨M, p, none⟩ (.slice none 0 0))) :=
    ⟨hx1.store HF.out _, World.cell?_setCell_same _ _ _ cM, by rw [World.frozen?_setCell]; exact fM, World.ownsRow_nil _ _ _ _, ⟨rfl, fun r hr => by simp at hr⟩, fun _ => ⟨rfl, fun i row xs hr => by simp at hr⟩, stp_set hs1 ltM.out (far_own HF.out w) (fun v k hk => hk) _⟩
  obtain ⟨k, ek⟩ : ∃ k, k = (countA bs 1024 s).v := ⟨_, rfl⟩
  rw [← ek]
  have EK := hide ek
  have KL : k ≤ 1024 := by rw [ek]; exact CL.out
  clear hx1 hs1 eM CM hc ek
  go_wp2_with fail
  obtain ⟨w2, e2⟩ : ∃ w2, w2 = w1.setCell ⟨M, p, none⟩ (.slice none 0 0) := ⟨_, rfl⟩
  rw [← e2] at L0 ⊢
  clear e2 c1 cM fM
  go_loopw [6] (fun i wr => ∃ (j : Nat) (av : Option Addr) (cv : Nat) (rows : List (List Value)), j ≤ k ∧ i = .int .i64 j ∧ Hid (XLoopAccount B W R a n cp bs s w M p j av cv rows wr)) (fun i _ => k - (intOf i).toNat)
  case atStart => exact ⟨0, none, 0, [], Nat.zero_le _, rfl, L0⟩
  case round =>
    clear L0
    obtain ⟨j, av, cv, rows, hj, rfl, HX⟩ := hrel
    by_cases hlt : j < k
    · have i1 : (j : Int) < (k : Int) := by omega
      have CM := hide (xmore_any HX.out.x)
      by_cases he : (timesA (accA bs) j (countA bs 1024 s).s).s.err = 0
      · rw [decide_eq_true he] at CM
        have d1 : (wr.alloc (.cells #[.string ⟨#[]⟩, .int .i64 0, .int .i64 0, .int .i64 0, .int .i64 0, .slice none 0 0, .int .i64 0, .int .i64 0, .int .i64 0, .int .i64 0] 94)).cell? ⟨W, 1, none⟩ = some (.pointer (some ⟨R, 0, none⟩)) := (World.cell?_alloc_lt wr _ _ HX.out.x.lt.1).trans HX.out.x.c1
        have hsz := HX.out.st.size
        have FN : Hid (Far W R a wr.heap.size) := ⟨by have := WR.out; omega, by have := WR.out; omega, fun b off e => by have := AP.out b off e; omega⟩
        have XP := hide (xaccount_any (B := wr.heap.size) (M := wr.heap.size) (o := 0) ((HX.out.x.below (below_alloc1 wr (.cells #[.string ⟨#[]⟩, .int .i64 0, .int .i64 0, .int .i64 0, .int .i64 0, .slice none 0 0, .int .i64 0, .int .i64 0, .int .i64 0, .int .i64 0] 94))).base (by simp)) FN.out (by simp) (room_new wr #[.string ⟨#[]⟩, .int .i64 0, .int .i64 0, .int .i64 0, .int .i64 0, .slice none 0 0, .int .i64 0, .int .i64 0, .int .i64 0, .int .i64 0] 94 10 rfl) ⟨none, 0, 0, by rw [cell_of_row _ _ _ _ _ _ (heap_alloc_new wr (.cells #[.string ⟨#[]⟩, .int .i64 0, .int .i64 0, .int .i64 0, .int .i64 0, .slice none 0 0, .int .i64 0, .int .i64 0, .int .i64 0, .int .i64 0] 94))]; rfl⟩)
        have ltw : Hid (w.heap.size ≤ wr.heap.size) := hsz
        have SL : Hid (wr.heap.size < (wr.alloc (.cells #[.string ⟨#[]⟩, .int .i64 0, .int .i64 0, .int .i64 0, .int .i64 0, .slice none 0 0, .int .i64 0, .int .i64 0, .int .i64 0, .int .i64 0] 94)).heap.size) := by show _ < _; simp
        have HER := hide he
        clear hsz he
        go_wp2_with fail
        refine CM.out.mono ?_
        rintro e wx ⟨rfl, rfl⟩
        go_wp2_with fail
        refine XP.out.mono ?_
        rintro e w3 ⟨rfl, hx3, hf3, hce3, hs3⟩
        have c3 := hx3.c1
        obtain ⟨cs, hcl, hcells, hone⟩ := xrow_acc hce3
        obtain ⟨v0, v1, v2, v3, v4, v5, v6, v7, v8, v9, rfl⟩ : ∃ v0 v1 v2 v3 v4 v5 v6 v7 v8 v9, cs = [v0, v1, v2, v3, v4, v5, v6, v7, v8, v9] := by
          match cs, hcl with
          | [v0, v1, v2, v3, v4, v5, v6, v7, v8, v9], _ => exact ⟨_, _, _, _, _, _, _, _, _, _, rfl⟩
        have q0 := hcells 0 v0 rfl
        have q1 := hcells 1 v1 rfl
        have q2 := hcells 2 v2 rfl
        have q3 := hcells 3 v3 rfl
        have q4 := hcells 4 v4 rfl
        have q5 := hcells 5 v5 rfl
        have q6 := hcells 6 v6 rfl
        have q7 := hcells 7 v7 rfl
        have q8 := hcells 8 v8 rfl
        have q9 := hcells 9 v9 rfl
        have hvals : (accA bs (timesA (accA bs) j (countA bs 1024 s).s).s).s.err = 0 → AccC w3 (OutB wx.heap.size (Rown W R) wx.heap.size w3) (fun q => [v0, v1, v2, v3, v4, v5, v6, v7, v8, v9][q]?) (accA bs (timesA (accA bs) j (countA bs 1024 s).s).s).v := fun h0 => (hf3 h0).same (fun q hq => row_is hcl hcells hce3 q hq) (accK_A bs _) (fun b hb => ⟨hb, rfl⟩)
        have hq3 := hs3.inner (rq_below W R (below_alloc1 wx (.cells #[.string ⟨#[]⟩, .int .i64 0, .int .i64 0, .int .i64 0, .int .i64 0, .slice none 0 0, .int .i64 0, .int .i64 0, .int .i64 0, .int .i64 0] 94))) (Nat.le_refl _)
        have eM := hq3.block M (Nat.lt_of_lt_of_le ltM.out ltw.out) (far_own HF.out wx)
        have cM : w3.cell? ⟨M, p, none⟩ = some (.slice av j cv) := (World.cell?_of_block (w := wx) (a := ⟨M, p, none⟩) eM).trans HX.out.c
        have fM : w3.frozen? ⟨M, p, none⟩ = false := (World.frozen?_of_block (w := wx) (a := ⟨M, p, none⟩) eM).trans HX.out.f
        have nR : ∀ k, w.heap.size ≤ k → ¬ Rown W R wx k := fun k hk e => by have := WR.out; rcases e with e | e <;> omega
        have OW := hide (own_same (w' := w3) HX.out.own (fun k hk => hq3.block k (HX.out.own.lt k hk).2 (nR k (HX.out.own.lt k hk).1)))
        have Q3 := hide hq3
        have X3 := hide (hx3.base (B' := B) (Nat.le_trans LO.out (Nat.le_trans ltw.out hq3.size)))
        have VL := hide hvals
        have ONE : Hid (∀ u ∈ [v0, v1, v2, v3, v4, v5, v6, v7, v8, v9], u.oneCell' = true) := hone
        have ltM3 : Hid (M < w3.heap.size) := World.block_lt_of_cell? w3 _ cM
        have NE : Hid (∀ k, (Value.slice av j cv).ownBlock = some k → w.heap.size ≤ k ∧ k < w3.heap.size) := fun k hk => OW.out.lt k hk
        have RA : Hid (∀ u, Below w3.heap.size w3 u → u.ownsRow w.heap.size 94 10 (.slice av j cv) j rows.flatten) := fun u hb => own_same OW.out (fun k hk => hb.block k (NE.out k hk).2)
        have BA : Hid (w.heap.size ≤ w3.heap.size) := Nat.le_trans ltw.out Q3.out.size
        have cMa : (w3.alloc (.cells #[v0, v1, v2, v3, v4, v5, v6, v7, v8, v9] 94)).cell? ⟨M, p, none⟩ = some (.slice av j cv) := (World.cell?_alloc_lt w3 _ _ ltM3.out).trans cM
        clear hx3 hf3 hs3 hcells hvals hone hce3 hcl hq3 eM nR XP CM d1
        go_wp2_with fail
        go_region_law (refine step_append_where _ (by rfl) (.tmp 50) (.tmp 52) 22 (by rfl) w.heap.size 94 i0 (.agg #[.string ⟨#[]⟩, .int .i64 0, .int .i64 0, .int .i64 0, .int .i64 0, .slice none 0 0, .int .i64 0, .int .i64 0, .int .i64 0, .int .i64 0]) 10 104 Tryz.underlying22 hi hz0 hz1 hz2 (by rfl) (by omega) av j cv (by rfl) rows.flatten (RA.out _ (below_alloc (Below.refl _ _).drew _)) ⟨w3.heap.size, 0, none⟩ 1 1 (by rfl) [v0, v1, v2, v3, v4, v5, v6, v7, v8, v9] (by rfl) (World.news_of_block (heap_alloc_new w3.drew _)) ONE.out (by omega) (by unfold maxLen; omega) (by omega) (by simp; exact Nat.le_succ_of_le BA.out) ?_; intro g2 cap2 w4 hown hgrow hat; have c4 : w4.cell? ⟨M, p, none⟩ = some (.slice av j cv) := hgrow.cell ((World.cell?_alloc_lt w3.drew _ _ ltM3.out).trans cM) (fun e => by have := (NE.out M e.symm).1; have := ltM.out; omega); have f4 : w4.frozen? ⟨M, p, none⟩ = false := (hgrow.frozen_far ⟨M, p, none⟩ (by simp; exact Nat.lt_succ_of_lt ltM3.out) (fun e => by have := (NE.out M e.symm).1; have := ltM.out; omega)).trans ((World.frozen?_alloc_past _ _ _ ltM3.out).trans fM); have HO := hide hown; have HG := hide hgrow; have HA := hide hat; clear hown hgrow hat)
        all_goals (
          have LN : Hid (XLoopAccount B W R a n cp bs s w M p (j + 1) (some ⟨g2, 0, none⟩) cap2 (rows ++ [[v0, v1, v2, v3, v4, v5, v6, v7, v8, v9]]) (w4.setCell ⟨M, p, none⟩ (.slice (some ⟨g2, 0, none⟩) (j + 1) cap2))) := by
            have hgt := HO.out.lt g2 rfl
            have nrow : ∀ k, k < w.heap.size → some k ≠ (Value.slice av j cv).ownBlock := fun k hk e => by have := (NE.out k e.symm).1; omega
            have hx4 := ((X3.out.below (below_alloc1 w3 (.cells #[v0, v1, v2, v3, v4, v5, v6, v7, v8, v9] 94))).below (w1 := (w3.alloc (.cells #[v0, v1, v2, v3, v4, v5, v6, v7, v8, v9] 94)).drew) ⟨rfl, rfl, rfl, Nat.le_refl _, fun _ _ => rfl⟩).grown HG.out (nrow W WR.out.1) (nrow R WR.out.2) (fun b off e => nrow b (AP.out b off e))
            refine ⟨?_, World.cell?_setCell_same _ _ _ c4, by rw [World.frozen?_setCell]; exact f4, ?_, ?_, ?_, ?_⟩
            · rw [timesA_snoc]
              exact hx4.store HF.out _
            · rw [List.flatten_append]
              simpa using own_same HO.out (fun k hk => Below.heap_setCell _ ⟨M, p, none⟩ _ k (by have e5 : g2 = k := (by simpa [Value.ownBlock] using hk); show k ≠ M; have := ltM.out; omega))
            · exact ⟨by rw [List.length_append, HX.out.rl.1]; rfl, fun r hr => by
                rcases List.mem_append.1 hr with hr | hr
                · exact HX.out.rl.2 r hr
                · rw [List.mem_singleton.1 hr]; rfl⟩
            · rw [timesA_snoc]
              intro h0
              have h0' : (accA bs (timesA (accA bs) j (countA bs 1024 s).s).s).s.err = 0 := h0
              have ng : ∀ k, k < w3.heap.size → (Value.slice av j cv).ownBlock ≠ some k → g2 ≠ k := fun k hk hne e => by
                rcases HA.out with h | h
                · exact hne (by rw [h, e])
                · simp at h; omega
              have st : ∀ k, k < w3.heap.size → (Value.slice av j cv).ownBlock ≠ some k → w.heap.size ≤ k → (w4.setCell ⟨M, p, none⟩ (.slice (some ⟨g2, 0, none⟩) (j + 1) cap2)).heap[k]? = w3.heap[k]? := fun k hk hne hlo => by
                rw [Below.heap_setCell _ ⟨M, p, none⟩ _ k (by have := ltM.out; show k ≠ M; omega)]
                exact (HG.out.block k (by simp; omega) (fun e => hne e.symm)).trans (heap_alloc_old w3 _ hk)
              have sz : w3.heap.size ≤ (w4.setCell ⟨M, p, none⟩ (.slice (some ⟨g2, 0, none⟩) (j + 1) cap2)).heap.size := by
                simp only [World.setCell, Array.size_modify]; exact Nat.le_trans (by simp) HG.out.size
              refine ((HX.out.r HER.out).same (fun x hx => timesA_all (Q := AccK) _ (fun s => accK_A bs s) _ _ x hx) fun k hk => ?_).snoc ((VL.out h0').same (fun _ _ => rfl) (accK_A bs _) fun k hk => ?_)
              · have hk3 : k < w3.heap.size := Nat.lt_of_lt_of_le hk.2.1 Q3.out.size
                exact ⟨⟨hk.1, Nat.lt_of_lt_of_le hk3 sz, fun e => ng k hk3 hk.2.2 (by simpa [Value.ownBlock] using e)⟩, (st k hk3 hk.2.2 hk.1).trans (Q3.out.block k hk.2.1 (fun e => by have := WR.out; have := hk.1; rcases e with e | e <;> omega))⟩
              · have hlo : wx.heap.size ≤ k := hk.1
                have hk3 : k < w3.heap.size := hk.2.1
                have hw : w.heap.size ≤ k := Nat.le_trans ltw.out hlo
                have hne : (Value.slice av j cv).ownBlock ≠ some k := fun e => by have := (HX.out.own.lt k e).2; omega
                exact ⟨⟨hw, Nat.lt_of_lt_of_le hk3 sz, fun e => ng k hk3 hne (by simpa [Value.ownBlock] using e)⟩, st k hk3 hne hw⟩
            · refine stp_app HX.out.st HF.out ltM.out (HG.out.os.trans Q3.out.os) (HG.out.tape.trans Q3.out.tape) (HG.out.output.trans Q3.out.output) (Nat.le_trans Q3.out.size (Nat.le_trans (by simp) HG.out.size)) (fun k hk hs => ?_) _
              have hk3 : k < w3.heap.size := Nat.lt_of_lt_of_le hk BA.out
              exact (HG.out.block k (by simp; omega) (nrow k hk)).trans ((heap_alloc_old w3 _ hk3).trans (Q3.out.block k (Nat.lt_of_lt_of_le hk ltw.out) hs))
          clear HO HG HA
          go_wp2_with fail
          go_roundw
          case rel => exact ⟨j + 1, _, _, _, by omega, by go_num, LN⟩
          case measure => simp [intOf]; omega)
      · rw [decide_eq_false he] at CM
        have HE := hide he
        clear he
        go_wp2_with fail
        refine CM.out.mono ?_
        rintro e wx ⟨rfl, rfl⟩
        go_wp2_with fail
        refine bodyPost_end (results_none rfl _ _ _) rfl ?_
        have es : (listA bs (accA bs) s).s = (timesA (accA bs) j (countA bs 1024 s).s).s := by
          unfold listA
          rw [← EK.out]
          have := timesA_later (accA bs) (fun s hs => accA_stuck bs s hs) j (countA bs 1024 s).s HE.out (k - j)
          rw [show j + (k - j) = k by omega] at this
          exact this
        refine ⟨rfl, by rw [es]; exact HX.out.x, fun h0 => absurd (by rw [← es]; exact h0) HE.out, HX.out.st⟩
    · obtain rfl : j = k := by omega
      go_wp2_with fail
      refine bodyPost_end (results_none rfl _ _ _) rfl ?_
      have es : listA bs (accA bs) s = timesA (accA bs) j (countA bs 1024 s).s := by unfold listA; rw [← EK.out]
      have hP : ∀ g, (Value.slice av j cv).ownBlock = some g → OutB B (Rown W R) M wr g := fun g hg => by
        have hg2 := HX.out.own.lt g hg
        exact ⟨Nat.le_trans LO.out hg2.1, hg2.2, fun e => by have := WR.out; rcases e with e | e <;> omega, by have := ltM.out; omega⟩
      refine ⟨rfl, by rw [es]; exact HX.out.x, fun h0 => ⟨av, j, cv, HX.out.c, ?_⟩, HX.out.st⟩
      have hr := HX.out.r (by rw [← es]; exact h0)
      rw [← es] at hr
      exact la_of_rows HX.out.own HX.out.rl.2 hr (fun x hx => timesA_all (Q := AccK) _ (fun s => accK_A bs s) _ _ x hx) (fun k hk => ⟨Nat.le_trans LO.out hk.1, hk.2.1, fun e => by have := WR.out; have := hk.1; rcases e with e | e <;> omega, by have := ltM.out; have := hk.1; omega⟩) (by rw [es]; exact timesA_length _ _ _) hP
end Go.Proofs.YthklpkmdmkgjiaaGreat
