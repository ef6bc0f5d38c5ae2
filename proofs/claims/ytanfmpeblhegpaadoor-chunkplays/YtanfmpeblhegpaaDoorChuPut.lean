/- Put of a landed box. No condition. -/
import Derived.Test.YtanfmpeblhegpaaDoorChuFits
namespace Go.Proofs.YtanfmpeblhegpaaDoor
open Go.ChangeShapes Go.WideShapes Go.ChangeAt Go.RowKit B8 Ck
set_option linter.unusedVariables false

/-- a box in the midst of Put: its cells and its map -/
structure Bw (w : World) (P : Nat → Prop) (B : Nat) (mo : Option Nat) (of sum : Int) (l : List Qv) : Prop where
  row : w.heap[B]? = some (.cells #[.int .i64 of, .int .u32 sum, .map mo] 48 (0, 0))
  mo : Mo w mo l
  ins : ∀ q ∈ l, q.In w P
section
variable {w w' : World} {P : Nat → Prop} {B : Nat} {mo : Option Nat} {of sum : Int} {l : List Qv}
theorem Bw.lt (h : Bw w P B mo of sum l) : ∀ k, BM B mo k → k < w.heap.size := fun k hk => by
  rcases hk with rfl | hk
  · exact (Array.getElem?_eq_some_iff.1 h.row).1
  · exact h.mo.lt k hk
theorem Bw.below (h : Bw w P B mo of sum l) (hb : Below w.heap.size w w') : Bw w' P B mo of sum l :=
  ⟨(hb.block _ (h.lt B (.inl rfl))).trans h.row, h.mo.same (fun k hk => hb.block _ (h.lt k (.inr hk))), fun q hq => Bi.below (h.ins q hq) hb⟩
theorem Bw.drew (h : Bw w P B mo of sum l) : Bw w.drew P B mo of sum l := ⟨h.row, h.mo.same (fun _ _ => rfl), fun q hq => Bi.same (h.ins q hq) (fun _ _ _ => rfl)⟩
theorem Bw.mB (h : Bw w P B mo of sum l) : mo ≠ some B := fun e => by
  obtain ⟨es, clock, hb⟩ := h.mo.isMap B e
  have := h.row
  rw [hb] at this
  cases this
theorem Bw.noB (h : Bw w P B mo of sum l) : ∀ k, BM B mo k → NoB w k := fun k hk => by
  rcases hk with rfl | hk
  · refine NoB.of_row h.row (fun v hv x e => ?_)
    subst e
    simp at hv
  · obtain ⟨es, clock, hb⟩ := h.mo.isMap k hk
    exact NoB.of_map hb
theorem Bw.c (h : Bw w P B mo of sum l) : w.cell? ⟨B, 0, none⟩ = some (.int .i64 of) ∧ w.cell? ⟨B, 1, none⟩ = some (.int .u32 sum) ∧ w.cell? ⟨B, 2, none⟩ = some (.map mo) ∧ ∀ o, w.frozen? ⟨B, o, none⟩ = false :=
  ⟨by rw [cell_of_row _ _ _ _ _ _ h.row]; rfl, by rw [cell_of_row _ _ _ _ _ _ h.row]; rfl, by rw [cell_of_row _ _ _ _ _ _ h.row]; rfl, fun o => by simp [World.frozen?, h.row]⟩
/-- a new map is laid in -/
theorem Bw.made (h : Bw w P B none of sum l) : Bw ((w.alloc (.map #[] 0)).setCell ⟨B, 2, none⟩ (.map (some w.heap.size))) P B (some w.heap.size) of sum l ∧ Chg (BM B none) w ((w.alloc (.map #[] 0)).setCell ⟨B, 2, none⟩ (.map (some w.heap.size))) := by
  have hB := h.lt B (.inl rfl)
  obtain rfl : l = [] := h.mo
  have hb := below_alloc (Below.refl w.heap.size w) (.map #[] 0)
  refine ⟨⟨put_row ((hb.block B hB).trans h.row), (mq_new w).same (Below.heap_setCell _ _ _ _ (by simp; omega)), fun q hq => absurd hq (by simp)⟩, ((Chg.refl _ _).alloc _).setCell (p := ⟨B, 2, none⟩) (.inl (.inl rfl)) _⟩
/-- what the pieces say of the whole is laid in -/
theorem Bw.said (h : Bw w P B mo of sum l) (of' sum' : Int) : Bw ((w.setCell ⟨B, 0, none⟩ (.int .i64 of')).setCell ⟨B, 1, none⟩ (.int .u32 sum')) P B mo of' sum' l ∧ Chg (BM B mo) w ((w.setCell ⟨B, 0, none⟩ (.int .i64 of')).setCell ⟨B, 1, none⟩ (.int .u32 sum')) := by
  have hc : Chg (fun k => k = B) w ((w.setCell ⟨B, 0, none⟩ (.int .i64 of')).setCell ⟨B, 1, none⟩ (.int .u32 sum')) := ((Chg.refl (fun k => k = B) w).setCell (p := ⟨B, 0, none⟩) (.inl rfl) _).setCell (p := ⟨B, 1, none⟩) (.inl rfl) _
  refine ⟨⟨put_row (put_row h.row), h.mo.same (fun k hk => hc.block k (h.lt k (.inr hk)) (fun e => h.mB (by rw [← e]; exact hk))), fun q hq => Bi.chg (h.ins q hq) hc (fun k hk => .inr (h.noB k (.inl hk)))⟩, hc.mono (fun k _ hk => .inl hk)⟩
/-- one part more -/
theorem Bw.put {mb : Nat} (h : Bw w P B (some mb) of sum l) {q : Qv} (hq : q.In w P) (hn : l.length < maxLen) (hk : (Lit.int .i64 q.k).wf = true) :
    ∃ w', (Instr.mapUpdate 46 (.map (some mb)) (.int .i64 q.k) (.slice q.a q.m q.cp)).run Tryd.prog w = .ok () w' ∧ Bw w' P B (some mb) of sum (vput l q) ∧ Chg (BM B (some mb)) w w' := by
  obtain ⟨w', hr, hm, hg⟩ := mq_put (v := q) h.mo hn hk
  have hc : Chg (fun k => k = mb) w w' := (Chg.refl _ _).grown hg (fun k hk => .inl (Option.some.inj hk).symm)
  refine ⟨w', hr, ⟨(hc.block B (h.lt B (.inl rfl)) (fun e => h.mB (by rw [e]))).trans h.row, hm, fun u hu => ?_⟩, hc.mono (fun k _ hk => .inr (by rw [hk]))⟩
  have hin : u.In w P := by
    rcases mem_vput.1 hu with rfl | ⟨hu, _⟩
    · exact hq
    · exact h.ins u hu
  exact Bi.chg hin hc (fun k hk => .inr (h.noB k (.inr (by rw [hk]))))
end
theorem Mv.behind {w u w' : World} {P : Nat → Prop} {B : Nat} {mo : Option Nat} {s' : Bx} (h : Mv u P B mo s' w') (hb : Below w.heap.size w u) : Mv w P B mo s' w' := by
  obtain ⟨h1, mo', h2, h3⟩ := h
  refine ⟨(Chg.of_below hb _).trans h1 (fun k _ hk => hk), mo', h2, fun k hk => ?_⟩
  rcases h3 k hk with h4 | h4
  · exact .inl h4
  · exact .inr (Nat.le_trans hb.size h4)
theorem piece_apart {w : World} {P : Nat → Prop} {B N : Nat} {mo : Option Nat} {s : Bx} {p : Pv} (h : Bm w P B mo s) (hx : P4 w N p) : ¬ BM B mo N := fun hk => by
  rcases hk with rfl | hk
  · have := hx.2.1
    rw [h.c1] at this
    simp at this
  · obtain ⟨l, hm, _⟩ := h.ex
    obtain ⟨es, clock, hh⟩ := hm.isMap N hk
    have := hx.1
    simp [World.cell?, hh] at this
set_option maxRecDepth 100000 in
set_option maxHeartbeats 2000000 in
theorem put_any {w : World} {P : Nat → Prop} {B : Nat} {mo : Option Nat} {s : Bx} (h : Bm w P B mo s) {p : Pv} (hp : POk w (fun _ => True) p) (hP : ∀ k, w.heap.size ≤ k → P k) :
    Calls Tryd.prog 8 #[.pointer (some ⟨B, 0, none⟩), .agg #[.int .i64 p.k, .int .i64 p.of, .int .u32 p.sum, .slice p.a p.m p.cp]] w fun e w' => e = .returned (.int .i64 (putE s p.pc)) ∧ Mv w P B mo (putS s p.pc) w' := by
  obtain ⟨u, eu⟩ : ∃ u, u = w.alloc (.cells #[.int .i64 p.k, .int .i64 p.of, .int .u32 p.sum, .slice p.a p.m p.cp] 32) := ⟨_, rfl⟩
  have BU : Hid (Below w.heap.size w u) := by rw [eu]; exact below_alloc (Below.refl _ _) _
  have X : Hid (P4 u w.heap.size p) := by rw [eu]; exact p4_new w p
  have H := hide (h.below BU.out)
  have HP := hide (hp.below BU.out)
  have PP : Hid (∀ k, u.heap.size ≤ k → P k) := fun k hk => hP k (Nat.le_trans BU.out.size hk)
  obtain ⟨N, eN⟩ : ∃ N, N = w.heap.size := ⟨_, rfl⟩
  rw [← eN] at X
  have CM := hide (may_any p hp.bi.1.length u)
  have CF : Hid (∀ y, Below u.heap.size u y → Calls Tryd.prog 19 #[.pointer (some ⟨B, 0, none⟩), .agg #[.int .i64 p.k, .int .i64 p.of, .int .u32 p.sum, .slice p.a p.m p.cp]] y fun e w' => e = .returned (.bool (fitsB s p.pc)) ∧ Below y.heap.size y w') := fun y hy => fits_any (H.out.below hy) (HP.out.below hy)
  have EU := hide eu
  have EN := hide eN
  have x0' := X.out.1
  have x1' := X.out.2.1
  have x2' := X.out.2.2.1
  have x3' := X.out.2.2.2
  rw [eu, eN] at x0' x1' x2' x3'
  rw [eu] at CM
  clear h hp eu eN hP
  cases hm : mayB p.pc with
  | false =>
    have e1 : putE s p.pc = 21 := by simp [putE, hm]
    have e2 : putS s p.pc = s := by simp [putS, e1]
    rw [hm] at CM
    rw [e1, e2]
    clear e1 e2 hm
    go_enter Tryd.func8, Tryd.ntmps8
    go_wp2_with fail
    refine CM.out.mono ?_
    rintro e w1 ⟨rfl, hb1⟩
    rw [← EU.out] at hb1
    have B1 := hide hb1
    clear hb1
    go_wp2_with fail
    go_ret
    exact ⟨rfl, (Mv.stay H.out B1.out).behind BU.out⟩
  | true =>
    rw [hm] at CM
    cases hf : fitsB s p.pc with
    | false =>
      have e1 : putE s p.pc = 120 := by simp [putE, hm, hf]
      have e2 : putS s p.pc = s := by simp [putS, e1]
      rw [hf] at CF
      rw [e1, e2]
      clear e1 e2 hm hf
      go_enter Tryd.func8, Tryd.ntmps8
      go_wp2_with fail
      refine CM.out.mono ?_
      rintro e w1 ⟨rfl, hb1⟩
      rw [← EU.out] at hb1
      rw [← EN.out]
      have B1 := hide hb1
      obtain ⟨y0, y1, y2, y3⟩ := X.out.below hb1
      clear hb1 x0' x1' x2' x3'
      go_wp2_with fail
      refine (CF.out _ B1.out).mono ?_
      rintro e w2 ⟨rfl, hb2⟩
      have B2 : Hid (Below u.heap.size u w2) := below_step B1.out hb2
      clear hb2
      go_wp2_with fail
      go_ret
      exact ⟨rfl, (Mv.stay H.out B2.out).behind BU.out⟩
    | true =>
      have e1 : putE s p.pc = 0 := by simp [putE, hm, hf]
      have E2 : Hid (putS s p.pc = ⟨p.of, p.sum, put s.ps p.k p.b⟩) := by show _ = _; simp only [putS, e1, if_true]; rfl
      have OK2 := hide (ok_put H.out.ok (p := p.pc) HP.out.sum)
      have P5 : Hid (p.m ≤ 512) := by
        show _ ≤ _
        have h1 := (may_parts hm).2.2.2.2
        have h2 := HP.out.bi.1.length
        simp only [Pv.pc] at h1
        omega
      rw [hf] at CF
      rw [e1]
      clear e1 hm hf
      go_enter Tryd.func8, Tryd.ntmps8
      go_wp2_with fail
      refine CM.out.mono ?_
      rintro e w1 ⟨rfl, hb1⟩
      rw [← EU.out] at hb1
      rw [← EN.out]
      have B1 := hide hb1
      obtain ⟨y0, y1, y2, y3⟩ := X.out.below hb1
      clear hb1 x0' x1' x2' x3'
      go_wp2_with fail
      refine (CF.out _ B1.out).mono ?_
      rintro e w2 ⟨rfl, hb2⟩
      have B2 : Hid (Below u.heap.size u w2) := below_step B1.out hb2
      have H2 := hide (H.out.below B2.out)
      have X2 := hide (X.out.below B2.out)
      have NA := hide (piece_apart H2.out X2.out)
      have HP2 := hide (HP.out.below B2.out)
      have PP2 : Hid (∀ k, w2.heap.size ≤ k → P k) := fun k hk => PP.out k (Nat.le_trans B2.out.size hk)
      clear hb2 y0 y1 y2 y3
      have c2 := H2.out.c2
      have LN : Hid (s.ps.length ≤ 16) := H2.out.ok.length
      have W2 : Hid (∃ l, Bw w2 P B mo s.of s.sum l ∧ s.ps = l.map Qv.kb) := by
        obtain ⟨l, h1, h2, h3⟩ := H2.out.ex
        exact ⟨l, ⟨H2.out.row, h1, h3⟩, h2⟩
      cases mo with
      | none =>
        have hq := fun w => eql_map_none w none
        simp only [Option.isNone_none] at hq
        have mk : ∀ W : World, (Instr.makeMap 46 none).run Tryd.prog W = .ok (.map (some W.heap.size)) (W.alloc (.map #[] 0)) := fun W => by first | exact run_makeMap W | (simp [Instr.makeMap]; done)
        obtain ⟨l, hw, hps⟩ := W2.out
        have PS := hide hps
        obtain ⟨w3, e3⟩ : ∃ w3, w3 = (w2.alloc (.map #[] 0)).setCell ⟨B, 2, none⟩ (.map (some w2.heap.size)) := ⟨_, rfl⟩
        have MD := hw.made
        rw [← e3] at MD
        have W3 := hide MD.1
        have G3 := hide MD.2
        have X3 : Hid (P4 w3 N p) := X2.out.chg MD.2 NA.out
        have HP3 : Hid (POk w3 (fun _ => True) p) := ⟨HP2.out.bi.chg MD.2 (fun k hk => .inr (H2.out.noB k hk)), HP2.out.room, HP2.out.k, HP2.out.of, HP2.out.sum⟩
        obtain ⟨z0, z1, z2, z3⟩ := X3.out
        have F2 := H2.out.f
        have c2a : (w2.alloc (.map #[] 0)).cell? ⟨B, 2, none⟩ = some (.map none) := by rw [World.cell?_alloc_lt w2 _ _ (World.block_lt_of_cell? _ _ c2)]; exact c2
        have F3 : ∀ o, (w2.alloc (.map #[] 0)).frozen? ⟨B, o, none⟩ = false := fun o => (H2.out.below (below_alloc (Below.refl _ _) _)).f o
        have NB : Hid (¬ BM B (some w2.heap.size) N) := fun hk => by
          rcases hk with hk | hk
          · exact NA.out (.inl hk)
          · have h1 := World.block_lt_of_cell? _ _ X2.out.1
            have h2 : w2.heap.size = N := by simpa using hk
            simp only [h2] at h1
            omega
        rw [e3] at z0 z1 z2 z3
        have E3 := hide e3
        obtain ⟨mb, emb⟩ : ∃ mb, mb = w2.heap.size := ⟨_, rfl⟩
        have EMB := hide emb
        clear e3 hw hps MD
        go_wp2_with fail
        refine (says_any p _).mono ?_
        rintro e w4 ⟨rfl, hb4⟩
        rw [← E3.out] at hb4
        rw [← EMB.out]
        rw [← emb] at W3 NB
        clear emb
        have X4 := hide (X3.out.below hb4)
        have A4 := hide (W3.out.below hb4)
        have HP4 := hide (HP3.out.below hb4)
        have C4 : Hid (Chg (BM B none) w2 w4) := G3.out.trans (Chg.of_below hb4 (BM B none)) (fun k _ hk => hk)
        have PP4 : Hid (∀ k, w4.heap.size ≤ k → P k) := fun k hk => PP2.out k (Nat.le_trans C4.out.size hk)
        obtain ⟨k0, k1, k2, kf⟩ := A4.out.c
        clear hb4 z0 z1 z2 z3 c2
        obtain ⟨w5, e5⟩ : ∃ w5, w5 = (w4.setCell ⟨B, 0, none⟩ (.int .i64 p.of)).setCell ⟨B, 1, none⟩ (.int .u32 p.sum) := ⟨_, rfl⟩
        have S5 := hide (A4.out.said p.of p.sum)
        rw [← e5] at S5
        have E5 := hide e5
        clear e5
        go_wp2_with fail
        rw [← E5.out]
        have A5 := hide S5.out.1
        have X5 : Hid (P4 w5 N p) := X4.out.chg S5.out.2 NB.out
        have Q5 : Hid (Sq w5.drew p.a p.m p.cp p.b) := ((HP4.out.bi.chg S5.out.2 (fun k hk => .inr (A4.out.noB k hk))).same (w' := w5.drew) (fun _ _ _ => rfl)).1
        have PP5 : Hid (∀ k, w5.heap.size ≤ k → P k) := fun k hk => PP4.out k (Nat.le_trans S5.out.2.size hk)
        clear E5 k0 k1 k2 kf
        obtain ⟨z0, z1, z2, z3⟩ := X5.out
        have c2 := A5.out.c.2.2.1
        have KW := hide HP4.out.k
        go_region_held3 (fun v => v.cell? ⟨N, 0, none⟩ = some (.int .i64 p.k) ∧ v.cell? ⟨N, 3, none⟩ = some (.slice p.a p.m p.cp) ∧ v.cell? ⟨B, 2, none⟩ = some (.map (some mb))) (first | go_keep | exact ⟨z0, z3, c2⟩ | exact ⟨d0, d3, d4⟩ | exact ⟨g0, g3, g4⟩) ((first | (go_at_call 21; refine (bclone_big Q5.out (by have := P5.out; omega)).mono ?_; rintro e w7 ⟨a', c', rfl, hb7, hr7⟩; obtain ⟨d0, d1, d2, d3⟩ := X5.out.drew.below hb7; have A7 := A5.out.drew.below hb7; have d4 := A7.c.2.2.1; have PI : Hid (Qv.In w7 P ⟨p.k, a', p.m, c', p.b⟩) := (bi_row Q5.out.length Q5.out.wf hr7 (fun k hk => PP5.out k hk)); obtain ⟨w8, run8, a8, hc8⟩ := A7.put (q := ⟨p.k, a', p.m, c', p.b⟩) PI.out (by have h1 := LN.out; rw [PS.out] at h1; simp at h1; unfold maxLen; omega) KW.out; have A8 := hide a8; have C8 := hide hc8; have B7 := hide hb7; obtain ⟨g0, g1, g2, g3⟩ := (X5.out.drew.below hb7).chg hc8 NB.out; have g4 := a8.c.2.2.1; clear hb7 hr7 a8 hc8 A7)))
        go_wp2_with fail
        go_ret
        rw [E2.out]
        have OK3 := OK2.out
        rw [E2.out] at OK3
        refine ⟨rfl, Mv.behind (w := w) (u := w2) ⟨?_, some mb, ⟨A8.out.row, ⟨_, A8.out.mo, ?_, A8.out.ins⟩, OK3⟩, fun k hk => .inr (by have := EMB.out; simp at hk; omega)⟩ (below_step BU.out B2.out)⟩
        · exact ((C4.out.trans S5.out.2 (fun k hk2 hk => by rcases hk with hk | hk; exact .inl hk; have := EMB.out; simp at hk; omega)).trans ((Chg.of_below ((Below.refl w5.heap.size w5).drew.trans B7.out) (BM B (some mb))).trans C8.out (fun k _ hk => hk)) (fun k hk2 hk => by rcases hk with hk | hk; exact .inl hk; have := EMB.out; simp at hk; omega))
        · rw [vput_kb, ← PS.out]
      | some mb =>
        have hq := fun w => eql_map_none w (some mb)
        simp only [Option.isNone_some] at hq
        obtain ⟨l, hw, hps⟩ := W2.out
        have PS := hide hps
        have W3 := hide hw
        have G3 : Hid (Chg (BM B (some mb)) w2 w2) := Chg.refl _ _
        have X3 := X2
        have HP3 := HP2
        have NB := NA
        obtain ⟨z0, z1, z2, z3⟩ := X3.out
        clear hw hps
        go_wp2_with fail
        refine (says_any p _).mono ?_
        rintro e w4 ⟨rfl, hb4⟩
        have X4 := hide (X3.out.below hb4)
        have A4 := hide (W3.out.below hb4)
        have HP4 := hide (HP3.out.below hb4)
        have C4 : Hid (Chg (BM B (some mb)) w2 w4) := G3.out.trans (Chg.of_below hb4 (BM B (some mb))) (fun k _ hk => hk)
        have PP4 : Hid (∀ k, w4.heap.size ≤ k → P k) := fun k hk => PP2.out k (Nat.le_trans C4.out.size hk)
        obtain ⟨k0, k1, k2, kf⟩ := A4.out.c
        clear hb4 z0 z1 z2 z3 c2
        obtain ⟨w5, e5⟩ : ∃ w5, w5 = (w4.setCell ⟨B, 0, none⟩ (.int .i64 p.of)).setCell ⟨B, 1, none⟩ (.int .u32 p.sum) := ⟨_, rfl⟩
        have S5 := hide (A4.out.said p.of p.sum)
        rw [← e5] at S5
        have E5 := hide e5
        clear e5
        go_wp2_with fail
        rw [← E5.out]
        have A5 := hide S5.out.1
        have X5 : Hid (P4 w5 N p) := X4.out.chg S5.out.2 NB.out
        have Q5 : Hid (Sq w5.drew p.a p.m p.cp p.b) := ((HP4.out.bi.chg S5.out.2 (fun k hk => .inr (A4.out.noB k hk))).same (w' := w5.drew) (fun _ _ _ => rfl)).1
        have PP5 : Hid (∀ k, w5.heap.size ≤ k → P k) := fun k hk => PP4.out k (Nat.le_trans S5.out.2.size hk)
        clear E5 k0 k1 k2 kf
        obtain ⟨z0, z1, z2, z3⟩ := X5.out
        have c2 := A5.out.c.2.2.1
        have KW := hide HP4.out.k
        go_region_held3 (fun v => v.cell? ⟨N, 0, none⟩ = some (.int .i64 p.k) ∧ v.cell? ⟨N, 3, none⟩ = some (.slice p.a p.m p.cp) ∧ v.cell? ⟨B, 2, none⟩ = some (.map (some mb))) (first | go_keep | exact ⟨z0, z3, c2⟩ | exact ⟨d0, d3, d4⟩ | exact ⟨g0, g3, g4⟩) ((first | (go_at_call 21; refine (bclone_big Q5.out (by have := P5.out; omega)).mono ?_; rintro e w7 ⟨a', c', rfl, hb7, hr7⟩; obtain ⟨d0, d1, d2, d3⟩ := X5.out.drew.below hb7; have A7 := A5.out.drew.below hb7; have d4 := A7.c.2.2.1; have PI : Hid (Qv.In w7 P ⟨p.k, a', p.m, c', p.b⟩) := (bi_row Q5.out.length Q5.out.wf hr7 (fun k hk => PP5.out k hk)); obtain ⟨w8, run8, a8, hc8⟩ := A7.put (q := ⟨p.k, a', p.m, c', p.b⟩) PI.out (by have h1 := LN.out; rw [PS.out] at h1; simp at h1; unfold maxLen; omega) KW.out; have A8 := hide a8; have C8 := hide hc8; have B7 := hide hb7; obtain ⟨g0, g1, g2, g3⟩ := (X5.out.drew.below hb7).chg hc8 NB.out; have g4 := a8.c.2.2.1; clear hb7 hr7 a8 hc8 A7)))
        go_wp2_with fail
        go_ret
        rw [E2.out]
        have OK3 := OK2.out
        rw [E2.out] at OK3
        refine ⟨rfl, Mv.behind (w := w) (u := w2) ⟨?_, some mb, ⟨A8.out.row, ⟨_, A8.out.mo, ?_, A8.out.ins⟩, OK3⟩, fun k hk => .inl hk⟩ (below_step BU.out B2.out)⟩
        · exact ((C4.out.trans S5.out.2 (fun k _ hk => hk)).trans ((Chg.of_below ((Below.refl w5.heap.size w5).drew.trans B7.out) (BM B (some mb))).trans C8.out (fun k _ hk => hk)) (fun k _ hk => hk))
        · rw [vput_kb, ← PS.out]
end Go.Proofs.YtanfmpeblhegpaaDoor
