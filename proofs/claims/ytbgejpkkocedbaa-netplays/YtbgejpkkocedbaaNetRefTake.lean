/- The document's net: Take. No condition. -/
import Derived.Test.YtbgejpkkocedbaaNetRefCut
import Derived.Test.YtbgejpkkocedbaaNetDeliver
namespace Go.Proofs.Ytbgejpkkocedbaa
open Go.ChangeShapes Go.WideShapes Go.ChangeAt Go.RowKit B8 Nm
set_option linter.unusedVariables false

theorem RMv.around {w w3 w4 w5 : World} {L : RLay} {s0 s : Ns} (h : Rt w L s0) (hb : Below w.heap.size w w3) (m : RMv w3 L s w4) (hb2 : Below w.heap.size w4 w5) (hk : ∀ k, w3.heap.size ≤ k → w5.heap[k]? = w4.heap[k]?) : RMv w L s w5 := by
  obtain ⟨hc, L', h1, h2, h3, h4⟩ := m
  refine ⟨⟨hb2.os.trans (hc.os.trans hb.os), hb2.tape.trans (hc.tape.trans hb.tape), hb2.output.trans (hc.output.trans hb.output), Nat.le_trans hb.size (Nat.le_trans hc.size hb2.size), fun k hk hn => (hb2.block k hk).trans ((hc.block k (Nat.lt_of_lt_of_le hk hb.size) hn).trans (hb.block k hk))⟩, L', h1.same hb2.size (fun k hkk => ?_), h2, fun k hk => (h3 k hk).imp id (fun h => Nat.le_trans hb.size h), fun k hk => (h4 k hk).imp id (fun h => Nat.le_trans hb.size h)⟩
  rcases hkk with hkk | hkk
  · rcases h3 k hkk with h5 | h5
    · exact hb2.block k (h.lt k h5)
    · exact hk k h5
  · rcases h4 k hkk with h5 | h5
    · exact hb2.block k (h.ltR k h5)
    · exact hk k h5
theorem row_form {w : World} {B T sz n : Nat} {v : Value} {xs : List Value} (h : w.ownsRow B T sz v n xs) : ∃ a c, v = .slice a n c := by
  obtain ⟨_, ⟨e1, e2⟩ | ⟨g, cp, cur, e1, _⟩⟩ := h
  · subst e2; exact ⟨none, 0, e1⟩
  · exact ⟨_, cp, e1⟩
/-- the list without its k-th, made anew -/
theorem Rt.taken {wB w6 w7 : World} {L : RLay} {s : Ns} (h : Rt wB L s) {k r : Nat} (hm : L.m = k + 1 + r) {v : Value} {a' : Option Addr} {n' c' : Nat}
    (hg6 : wB.grownBy w6 (Value.slice none 0 0).ownBlock) (hl6 : v.ownBlock = (Value.slice none 0 0).ownBlock ∨ v.ownBlock = some wB.heap.size)
    (hown : w7.ownsRow 0 39 3 (.slice a' n' c') n' ([] ++ (pcells L.l).take (k * 3) ++ (pcells L.l).drop ((k + 1) * 3))) (hn : n' = k + r)
    (hg7 : w6.grownBy w7 v.ownBlock) (hl7 : (Value.slice a' n' c').ownBlock = v.ownBlock ∨ (Value.slice a' n' c').ownBlock = some w6.heap.size) :
    RMv wB L { s with ps := s.ps.eraseIdx k } (w7.setCell ⟨L.N, 1, none⟩ (.slice a' n' c')) ∧ w7.cell? ⟨L.N, 1, none⟩ = some (.slice L.av L.m L.cv) ∧ w7.frozen? ⟨L.N, 1, none⟩ = false := by
  have hl := h.len
  have lv : ∀ q, v.ownBlock = some q → wB.heap.size ≤ q := fun q hq => by
    rcases hl6 with e | e
    · rw [e] at hq; simp [Value.ownBlock] at hq
    · rw [e] at hq; exact Nat.le_of_eq (Option.some.inj hq)
  have la : ∀ q, (Value.slice a' n' c').ownBlock = some q → wB.heap.size ≤ q := fun q hq => by
    rcases hl7 with e | e
    · rw [e] at hq; exact lv q hq
    · rw [e] at hq
      have := Option.some.inj hq
      have := hg6.size
      omega
  have b7 : ∀ q, q < wB.heap.size → w7.heap[q]? = wB.heap[q]? := fun q hq => (hg7.block q (Nat.lt_of_lt_of_le hq hg6.size) (fun e => by have := lv q e.symm; omega)).trans (hg6.block q hq (by simp [Value.ownBlock]))
  have hbel : Chg (fun k => (Value.slice L.av L.m L.cv).ownBlock = some k) wB w7 := ⟨hg7.os.trans hg6.os, hg7.tape.trans hg6.tape, hg7.output.trans hg6.output, Nat.le_trans hg6.size hg7.size, fun q hq _ => b7 q hq⟩
  refine ⟨h.relist hbel (l' := L.l.eraseIdx k) ?_ ?_ ?_ (fun q hq => .inr (la q hq)) (fun p hp => ?_) (fun p hp ad e => ?_) ?_, ?_, ?_⟩
  · rw [erase_cells L.l k (by omega)]
    exact hown
  · rw [hn, List.length_eraseIdx_of_lt (by omega)]; omega
  · rw [h.ps, List.eraseIdx_eq_take_drop_succ, List.eraseIdx_eq_take_drop_succ]
    simp [List.map_take, List.map_drop]
  · have hp2 := List.mem_of_mem_eraseIdx hp
    exact (h.ins p hp2).same hbel.size (fun ad e => b7 _ ((h.ins p hp2).2 ad e))
  · have hp2 := List.mem_of_mem_eraseIdx hp
    exact ⟨.inl ⟨p, hp2, ad, e, rfl⟩, fun e2 => by have := la _ e2; have := (h.ins p hp2).2 ad e; omega⟩
  · exact ⟨h.ok.lo, h.ok.hi, Nat.le_trans (List.length_eraseIdx_le _ _) h.ok.most, fun p hp => h.ok.body p (List.mem_of_mem_eraseIdx hp)⟩
  · rw [World.cell?_of_block (a := ⟨L.N, 1, none⟩) (b7 L.N h.ltN)]; exact h.c1
  · exact (World.frozen?_of_block (a := ⟨L.N, 1, none⟩) (b7 L.N h.ltN)).trans (h.f 1)
set_option maxRecDepth 100000 in
set_option maxHeartbeats 1000000 in
theorem rtake_main {w : World} {L : RLay} {s : Ns} (h : Rt w L s) (k : Nat) (hk : k < s.ps.length) :
    Calls Try.prog 27 #[.pointer (some ⟨L.N, 0, none⟩), .int .i64 k] w fun e w' => ∃ p : Pv, e = .returned (.tuple #[.agg #[.int .i64 p.f, .int .i64 p.t, .slice p.a p.n p.cp], .int .i64 0]) ∧ p.pk = s.ps.getD k zPk ∧ p.In w' ∧ RMv w L { s with ps := s.ps.eraseIdx k } w' := by
  obtain ⟨i0, hi, hz0, hz1, hz2⟩ := info_parts pkinfo
  have hl : L.m = s.ps.length := by rw [h.ps, List.length_map]; exact h.len
  have hms := h.ok.most
  obtain ⟨wA, eA⟩ : ∃ wA, wA = w.alloc (.cells #[.int .i64 0, .int .i64 0, .slice none 0 0] 39) := ⟨_, rfl⟩
  have BA : Hid (Below w.heap.size w wA) := by rw [eA]; exact below_alloc (Below.refl _ _) _
  have RA : Hid (wA.heap[w.heap.size]? = some (.cells #[.int .i64 0, .int .i64 0, .slice none 0 0] 39)) := by rw [eA]; exact heap_alloc_new w _
  have SA : Hid (wA.heap.size = w.heap.size + 1) := by rw [eA]; show _ = _; simp
  have HA := hide (h.below BA.out)
  obtain ⟨g0, p, ea, eo, hp1, hp2, hp3, k0, k1, k2⟩ := HA.out.at (k := k) (by omega)
  have c1 : wA.cell? ⟨L.N, 1, none⟩ = some (.slice (some ⟨g0, 0, none⟩) L.m L.cv) := by rw [← ea]; exact HA.out.c1
  obtain ⟨wB, eB⟩ : ∃ wB, wB = wA.alloc (.cells #[.int .i64 p.f, .int .i64 p.t, .slice p.a p.n p.cp] 39) := ⟨_, rfl⟩
  have BB : Hid (Below w.heap.size w wB) := by rw [eB]; exact below_alloc BA.out _
  have RB : Hid (wB.heap[w.heap.size]? = some (.cells #[.int .i64 0, .int .i64 0, .slice none 0 0] 39)) := by rw [eB]; exact (Below.heap_alloc _ _ _ (by rw [SA.out]; omega)).trans RA.out
  have QB : Hid (wB.heap[w.heap.size + 1]? = some (.cells #[.int .i64 p.f, .int .i64 p.t, .slice p.a p.n p.cp] 39)) := by rw [eB, ← SA.out]; exact heap_alloc_new wA _
  have SB : Hid (wB.heap.size = w.heap.size + 2) := by rw [eB]; show _ = _; simp; rw [SA.out]
  have HB := hide (h.below BB.out)
  have b1 : (0 : Int) ≤ k := by omega
  have b2 : (k : Int) < L.m := by omega
  have b0 : ¬ ((k : Int) < 0) := by omega
  have hlm : L.m ≤ 256 := by omega
  have hcv : L.m ≤ L.cv := by
    obtain ⟨hx, ⟨e1, e2⟩ | ⟨g', cp, cur, e1, e2, e3, e4, e5, e6, e7⟩⟩ := id h.row
    · omega
    · obtain ⟨_, rfl⟩ : L.av = some ⟨g', 0, none⟩ ∧ L.cv = cp := by simpa using e1
      exact e4
  obtain ⟨r, hr⟩ : ∃ r, L.m = k + 1 + r := ⟨L.m - (k + 1), by omega⟩
  have PL : Hid ((pcells L.l).length = L.m * 3) := by show _ = _; rw [pcells_length, h.len]
  have RW : Hid (∀ x : World, Below wB.heap.size wB x → ∀ j u, (pcells L.l)[j]? = some u → x.cell? ⟨g0, j, none⟩ = some u) := fun x hx j u hu => by
    have h1 := HB.out.below hx
    have h2 := h1.row
    rw [ea] at h2
    have hj := (List.getElem?_eq_some_iff.1 hu).1
    rw [PL.out] at hj
    rw [h2.cellAt j hj]
    exact hu
  have H := hide h
  have EA := hide ea
  have HP : Hid (p ∈ L.l ∧ s.ps.getD k zPk = p.pk) := ⟨hp2, by simp [List.getD, hp3]⟩
  have HR := hide hr
  have ER := hide eA
  have EB := hide eB
  have c1B : wB.cell? ⟨L.N, 1, none⟩ = some (.slice (some ⟨g0, 0, none⟩) L.m L.cv) := by rw [← ea]; exact HB.out.c1
  have NN : Hid (L.N ≠ w.heap.size ∧ L.N ≠ wA.heap.size) := ⟨Nat.ne_of_lt h.ltN, Nat.ne_of_lt (Nat.lt_of_lt_of_le h.ltN BA.out.size)⟩
  have t1 : (k : Int) ≤ (L.m : Int) := by omega
  have t2 : (L.m : Int) ≤ (L.cv : Int) := by omega
  have t3 : (k : Int) ≤ (L.cv : Int) := by omega
  have t4 : (0 : Int) ≤ (k : Int) + 1 := by omega
  have t5 : (k : Int) + 1 ≤ (L.m : Int) := by omega
  have t6 : L.m - (k + 1) = r := by omega
  have t7 : k ≤ L.cv := by omega
  clear h hl ea eo hp1 hp2 hp3 hk hms hr
  subst eA
  go_enter Try.func27, Try.ntmps27
  go_upto_region 5 with fail
  rw [← eB]
  clear eB c1 k0 k1 k2
  have LT : Hid (((pcells L.l).take (k * 3)).length = k * 3) := by show _ = _; rw [List.length_take, PL.out]; omega
  have LD : Hid (((pcells L.l).drop ((k + 1) * 3)).length = r * 3) := by show _ = _; rw [List.length_drop, PL.out, HR.out]; omega
  have OT : Hid (∀ u ∈ (pcells L.l).take (k * 3), u.oneCell' = true) := fun u hu => pcells_one _ u (List.mem_of_mem_take hu)
  have OD : Hid (∀ u ∈ (pcells L.l).drop ((k + 1) * 3), u.oneCell' = true) := fun u hu => pcells_one _ u (List.mem_of_mem_drop hu)
  have RT : Hid (∀ x : World, Below wB.heap.size wB x → ∀ j u, ((pcells L.l).take (k * 3))[j]? = some u → x.cell? (Addr.add ⟨g0, 0, none⟩ j) = some u) := fun x hx j u hu => by
    rw [Addr.add_lit, Nat.zero_add]
    rw [List.getElem?_take] at hu
    split at hu
    · exact RW.out x hx j u hu
    · cases hu
  have RD : Hid (∀ x : World, Below wB.heap.size wB x → ∀ j u, ((pcells L.l).drop ((k + 1) * 3))[j]? = some u → x.cell? (Addr.add ⟨g0, (k + 1) * 3, none⟩ j) = some u) := fun x hx j u hu => by
    rw [Addr.add_lit]
    rw [List.getElem?_drop] at hu
    exact RW.out x hx _ u hu
  have RZ : Hid (L.cv = k + 1 → ∀ x : World, ∀ j u, ((pcells L.l).drop ((k + 1) * 3))[j]? = some u → x.cell? (Addr.add ⟨g0, 0, none⟩ j) = some u) := fun hx x j u hu => by
    have h1 := (List.getElem?_eq_some_iff.1 hu).1
    rw [LD.out] at h1
    have := HR.out
    omega
  have hkr : k + r ≤ 256 := by have := HR.out; omega
  by_cases hc1 : L.cv = k + 1
  · have hc2 : (L.cv = k + 1) = True := by simp [hc1]
    have HC := hide hc1
    clear hc1
    go_upto_region 7 with (at_builtin; first | (refine wpList_append_own_at _ rfl (.tmp 27) (.tmp 33) 34 rfl 0 39 i0 (.agg zpk) 3 40 Try.underlying34 hi hz0 hz1 hz2 rfl (by omega) (.slice none 0 0) 0 [] rfl (World.ownsRow_nil _ _ _ _) ⟨g0, 0, none⟩ k L.cv ((pcells L.l).take (k * 3)) rfl LT.out (RT.out _ (Below.refl _ _)) OT.out (by unfold maxLen; omega) (by omega) (by omega) ?_; intro v6 w6 hown6 hgrow6 _ hloc6; have B6 : Hid (Below wB.heap.size wB w6) := (Below.refl _ _).grown hgrow6 (Nat.le_refl _) (fun q hq => by simp [Value.ownBlock] at hq); have c6 : w6.cell? ⟨L.N, 1, none⟩ = some (.slice (some ⟨g0, 0, none⟩) L.m L.cv) := (by rw [← EA.out]; exact (HB.out.below B6.out).c1); have O6 := hide hown6; have G6 := hide hgrow6; have L6 := hide hloc6; clear hown6 hgrow6 hloc6) | (refine wpList_append_own_at _ rfl (.tmp 36) (.tmp 43) 34 rfl 0 39 i0 (.agg zpk) 3 40 Try.underlying34 hi hz0 hz1 hz2 rfl (by omega) v6 (0 + k) ([] ++ (pcells L.l).take (k * 3)) rfl O6.out ⟨g0, 0, none⟩ r (L.cv - (k + 1)) ((pcells L.l).drop ((k + 1) * 3)) rfl LD.out (RZ.out HC.out _) OD.out (by unfold maxLen; omega) (by omega) (by omega) ?_; intro v7 w7 hown7 hgrow7 _ hloc7; obtain ⟨a7, c7, rfl⟩ := row_form hown7; have TK := hide (HB.out.taken HR.out G6.out L6.out hown7 (by omega) hgrow7 hloc7); have d7 := TK.out.2.1; have g7 := TK.out.2.2; clear hown7 hgrow7 hloc7 O6 G6 L6 c6 B6))
    obtain ⟨w8, e8⟩ : ∃ w8, w8 = w7.setCell ⟨L.N, 1, none⟩ (.slice a7 (k + r) c7) := ⟨_, rfl⟩
    have M8 : Hid (RMv wB L { s with ps := s.ps.eraseIdx k } w8) := by rw [e8]; have h1 := TK.out.1; rw [Nat.zero_add] at h1; exact h1
    rw [← e8]
    have far : ∀ q, w.heap.size ≤ q → q < wB.heap.size → w8.heap[q]? = wB.heap[q]? := fun q h1 h2 => M8.out.1.block q h2 (fun hq => by have := H.out.lt q hq; omega)
    have R8 : Hid (w8.heap[w.heap.size]? = some (.cells #[.int .i64 0, .int .i64 0, .slice none 0 0] 39)) := (far _ (Nat.le_refl _) (by rw [SB.out]; omega)).trans RB.out
    have Q8 : Hid (w8.heap[w.heap.size + 1]? = some (.cells #[.int .i64 p.f, .int .i64 p.t, .slice p.a p.n p.cp] 39)) := (far _ (Nat.le_succ _) (by rw [SB.out]; omega)).trans QB.out
    have SZ : Hid ((#[.int .i64 0, .int .i64 0, .slice none 0 0] : Array Value).size = (#[.int .i64 p.f, .int .i64 p.t, .slice p.a p.n p.cp] : Array Value).size) := rfl
    have ON : Hid ((#[.int .i64 p.f, .int .i64 p.t, .slice p.a p.n p.cp] : Array Value).all (·.oneCell') = true) := by show _ = _; simp [Value.oneCell']
    clear e8 d7 g7 TK far
    go_wp2_with (first | (refine wpList_load_row rfl 39 (.tmp 6) rfl (w.heap.size + 1) rfl 39 #[.int .i64 p.f, .int .i64 p.t, .slice p.a p.n p.cp] (0, 0) _ Q8.out Try.underlying39 rfl pksize ?_) | (refine wpList_store_row rfl 39 (.tmp 4) (.tmp 47) rfl w.heap.size #[.int .i64 p.f, .int .i64 p.t, .slice p.a p.n p.cp] rfl rfl 39 #[.int .i64 0, .int .i64 0, .slice none 0 0] R8.out pksize SZ.out ON.out ?_))
    refine bodyPost_ret (v := .tuple #[.agg #[.int .i64 p.f, .int .i64 p.t, .slice p.a p.n p.cp], .int .i64 0]) ?r ?d ?_
    case r => exact results_cell_tmp' rfl _ _ w.heap.size 39 #[.int .i64 p.f, .int .i64 p.t, .slice p.a p.n p.cp] (0, 0) _ (.int .i64 0) rfl rfl (setRow_heap _ _ _ _ _ _ R8.out) Try.underlying39 rfl pksize
    case d => rfl
    exact ⟨p, rfl, HP.out.2.symm, (H.out.ins p HP.out.1).same (by rw [size_setRow]; exact Nat.le_trans BB.out.size M8.out.1.size) (fun ad e => (setRow_other _ _ _ _ (Nat.ne_of_lt ((H.out.ins p HP.out.1).2 ad e))).trans ((M8.out.1.block _ (Nat.lt_of_lt_of_le ((H.out.ins p HP.out.1).2 ad e) BB.out.size) (fun hq => H.out.dis _ hq ⟨p, HP.out.1, ad, e, rfl⟩)).trans (BB.out.block _ ((H.out.ins p HP.out.1).2 ad e)))), M8.out.around H.out BB.out (below_setRow (Below.refl _ _) (Nat.le_refl _) _) (fun q hq => setRow_other _ _ _ _ (by have := SB.out; omega))⟩
  · go_upto_region 7 with (at_builtin; first | (refine wpList_append_own_at _ rfl (.tmp 27) (.tmp 33) 34 rfl 0 39 i0 (.agg zpk) 3 40 Try.underlying34 hi hz0 hz1 hz2 rfl (by omega) (.slice none 0 0) 0 [] rfl (World.ownsRow_nil _ _ _ _) ⟨g0, 0, none⟩ k L.cv ((pcells L.l).take (k * 3)) rfl LT.out (RT.out _ (Below.refl _ _)) OT.out (by unfold maxLen; omega) (by omega) (by omega) ?_; intro v6 w6 hown6 hgrow6 _ hloc6; have B6 : Hid (Below wB.heap.size wB w6) := (Below.refl _ _).grown hgrow6 (Nat.le_refl _) (fun q hq => by simp [Value.ownBlock] at hq); have c6 : w6.cell? ⟨L.N, 1, none⟩ = some (.slice (some ⟨g0, 0, none⟩) L.m L.cv) := (by rw [← EA.out]; exact (HB.out.below B6.out).c1); have O6 := hide hown6; have G6 := hide hgrow6; have L6 := hide hloc6; clear hown6 hgrow6 hloc6) | (refine wpList_append_own_at _ rfl (.tmp 36) (.tmp 43) 34 rfl 0 39 i0 (.agg zpk) 3 40 Try.underlying34 hi hz0 hz1 hz2 rfl (by omega) v6 (0 + k) ([] ++ (pcells L.l).take (k * 3)) rfl O6.out ⟨g0, (k + 1) * 3, none⟩ r (L.cv - (k + 1)) ((pcells L.l).drop ((k + 1) * 3)) rfl LD.out (RD.out _ B6.out) OD.out (by unfold maxLen; omega) (by omega) (by omega) ?_; intro v7 w7 hown7 hgrow7 _ hloc7; obtain ⟨a7, c7, rfl⟩ := row_form hown7; have TK := hide (HB.out.taken HR.out G6.out L6.out hown7 (by omega) hgrow7 hloc7); have d7 := TK.out.2.1; have g7 := TK.out.2.2; clear hown7 hgrow7 hloc7 O6 G6 L6 c6 B6))
    obtain ⟨w8, e8⟩ : ∃ w8, w8 = w7.setCell ⟨L.N, 1, none⟩ (.slice a7 (k + r) c7) := ⟨_, rfl⟩
    have M8 : Hid (RMv wB L { s with ps := s.ps.eraseIdx k } w8) := by rw [e8]; have h1 := TK.out.1; rw [Nat.zero_add] at h1; exact h1
    rw [← e8]
    have far : ∀ q, w.heap.size ≤ q → q < wB.heap.size → w8.heap[q]? = wB.heap[q]? := fun q h1 h2 => M8.out.1.block q h2 (fun hq => by have := H.out.lt q hq; omega)
    have R8 : Hid (w8.heap[w.heap.size]? = some (.cells #[.int .i64 0, .int .i64 0, .slice none 0 0] 39)) := (far _ (Nat.le_refl _) (by rw [SB.out]; omega)).trans RB.out
    have Q8 : Hid (w8.heap[w.heap.size + 1]? = some (.cells #[.int .i64 p.f, .int .i64 p.t, .slice p.a p.n p.cp] 39)) := (far _ (Nat.le_succ _) (by rw [SB.out]; omega)).trans QB.out
    have SZ : Hid ((#[.int .i64 0, .int .i64 0, .slice none 0 0] : Array Value).size = (#[.int .i64 p.f, .int .i64 p.t, .slice p.a p.n p.cp] : Array Value).size) := rfl
    have ON : Hid ((#[.int .i64 p.f, .int .i64 p.t, .slice p.a p.n p.cp] : Array Value).all (·.oneCell') = true) := by show _ = _; simp [Value.oneCell']
    clear e8 d7 g7 TK far
    go_wp2_with (first | (refine wpList_load_row rfl 39 (.tmp 6) rfl (w.heap.size + 1) rfl 39 #[.int .i64 p.f, .int .i64 p.t, .slice p.a p.n p.cp] (0, 0) _ Q8.out Try.underlying39 rfl pksize ?_) | (refine wpList_store_row rfl 39 (.tmp 4) (.tmp 47) rfl w.heap.size #[.int .i64 p.f, .int .i64 p.t, .slice p.a p.n p.cp] rfl rfl 39 #[.int .i64 0, .int .i64 0, .slice none 0 0] R8.out pksize SZ.out ON.out ?_))
    refine bodyPost_ret (v := .tuple #[.agg #[.int .i64 p.f, .int .i64 p.t, .slice p.a p.n p.cp], .int .i64 0]) ?r ?d ?_
    case r => exact results_cell_tmp' rfl _ _ w.heap.size 39 #[.int .i64 p.f, .int .i64 p.t, .slice p.a p.n p.cp] (0, 0) _ (.int .i64 0) rfl rfl (setRow_heap _ _ _ _ _ _ R8.out) Try.underlying39 rfl pksize
    case d => rfl
    exact ⟨p, rfl, HP.out.2.symm, (H.out.ins p HP.out.1).same (by rw [size_setRow]; exact Nat.le_trans BB.out.size M8.out.1.size) (fun ad e => (setRow_other _ _ _ _ (Nat.ne_of_lt ((H.out.ins p HP.out.1).2 ad e))).trans ((M8.out.1.block _ (Nat.lt_of_lt_of_le ((H.out.ins p HP.out.1).2 ad e) BB.out.size) (fun hq => H.out.dis _ hq ⟨p, HP.out.1, ad, e, rfl⟩)).trans (BB.out.block _ ((H.out.ins p HP.out.1).2 ad e)))), M8.out.around H.out BB.out (below_setRow (Below.refl _ _) (Nat.le_refl _) _) (fun q hq => setRow_other _ _ _ _ (by have := SB.out; omega))⟩
set_option maxRecDepth 100000 in
theorem rtake {w : World} {L : RLay} {s : Ns} (h : Rt w L s) (i : Int) :
    Calls Try.prog 27 #[.pointer (some ⟨L.N, 0, none⟩), .int .i64 i] w fun e w' => ∃ p : Pv, e = .returned (.tuple #[.agg #[.int .i64 p.f, .int .i64 p.t, .slice p.a p.n p.cp], .int .i64 (reachE s i)]) ∧ p.pk = takeP s i ∧ p.In w' ∧ RMv w L (takeS s i) w' := by
  have hl : L.m = s.ps.length := by rw [h.ps, List.length_map]; exact h.len
  by_cases h0 : reachE s i = 0
  · obtain ⟨hi0, hi1⟩ := reach_lt h0
    obtain ⟨k, rfl⟩ : ∃ k : Nat, i = (k : Int) := ⟨i.toNat, by omega⟩
    have e1 : takeS s k = { s with ps := s.ps.eraseIdx k } := by unfold takeS; rw [if_pos h0]; rfl
    have e2 : takeP s k = s.ps.getD k zPk := by unfold takeP; rw [if_pos h0]; rfl
    rw [h0, e1, e2]
    exact rtake_main h k (by simpa using hi1)
  · have e0 : reachE s i = 60 := by
      unfold reachE at h0 ⊢
      split at h0
      · rename_i h1; rw [if_pos h1]
      · exact absurd rfl h0
    have hx : i < 0 ∨ (0 ≤ i ∧ (L.m : Int) ≤ i) := by
      unfold reachE at h0
      split at h0
      · omega
      · exact absurd rfl h0
    have e1 : takeS s i = s := by unfold takeS; rw [if_neg h0]
    have e2 : takeP s i = zPk := by unfold takeP; rw [if_neg h0]
    rw [e0, e1, e2]
    have H := hide h
    have BA : Hid (Below w.heap.size w (w.alloc (.cells #[.int .i64 0, .int .i64 0, .slice none 0 0] 39))) := below_alloc (Below.refl _ _) _
    have c1 : (w.alloc (.cells #[.int .i64 0, .int .i64 0, .slice none 0 0] 39)).cell? ⟨L.N, 1, none⟩ = some (.slice L.av L.m L.cv) := (h.below BA.out).c1
    clear h h0 e0 hl e1 e2
    rcases hx with hx | ⟨hx1, hx⟩
    all_goals
      go_enter Try.func27, Try.ntmps27
      go_wp2_with fail
      refine bodyPost_ret (v := .tuple #[.agg #[.int .i64 0, .int .i64 0, .slice none 0 0], .int .i64 60]) ?r ?d ?_
      case r => exact results_cell_tmp' rfl _ _ w.heap.size 39 #[.int .i64 0, .int .i64 0, .slice none 0 0] (0, 0) _ (.int .i64 60) rfl rfl (heap_alloc_new w _) Try.underlying39 rfl pksize
      case d => rfl
      exact ⟨zPv, rfl, rfl, (out_zero w _).ins, RMv.below H.out BA.out⟩
end Go.Proofs.Ytbgejpkkocedbaa
