/- Accept of a landed acceptor. No condition. -/
import Derived.Test.YtdnniokpkamjjabAccCalls
namespace Go.Proofs.Ytdnniokpkamjjab
open Go.ChangeShapes Go.WideShapes Go.ChangeAt Go.RowKit B8 Am
set_option linter.unusedVariables false

/-- the vote's cells at N -/
def V4 (u : World) (N : Nat) (p : Vv) : Prop := u.cell? ⟨N, 0, none⟩ = some (.int .i64 p.s) ∧ u.cell? ⟨N, 1, none⟩ = some (.int .i64 p.r) ∧ u.cell? ⟨N, 2, none⟩ = some (.int .i64 p.n) ∧ u.cell? ⟨N, 3, none⟩ = some (.slice p.a p.m p.cp)
theorem V4.below {u u' : World} {N : Nat} {p : Vv} (h : V4 u N p) (hb : Below u.heap.size u u') : V4 u' N p :=
  ⟨(hb.cell (World.block_lt_of_cell? _ _ h.1)).trans h.1, (hb.cell (World.block_lt_of_cell? _ _ h.2.1)).trans h.2.1, (hb.cell (World.block_lt_of_cell? _ _ h.2.2.1)).trans h.2.2.1, (hb.cell (World.block_lt_of_cell? _ _ h.2.2.2)).trans h.2.2.2⟩
theorem V4.drew {u : World} {N : Nat} {p : Vv} (h : V4 u N p) : V4 u.drew N p := h
theorem V4.chg {u u' : World} {N : Nat} {p : Vv} {M : Nat → Prop} (h : V4 u N p) (hc : Chg M u u') (hn : ¬ M N) : V4 u' N p := by
  have hl := World.block_lt_of_cell? _ _ h.1
  have e := hc.block N hl hn
  have c : ∀ o, u'.cell? ⟨N, o, none⟩ = u.cell? ⟨N, o, none⟩ := fun o => World.cell?_of_block (a := ⟨N, o, none⟩) e
  unfold V4
  rw [c, c, c, c]
  exact h
theorem v4_new (w : World) (p : Vv) : V4 (w.alloc (.cells #[.int .i64 p.s, .int .i64 p.r, .int .i64 p.n, .slice p.a p.m p.cp] 38)) w.heap.size p := by
  unfold V4
  simp
theorem fits_lit {p : Vv} {x : Bool} (hb : p.b.length = p.m) (h : fitsB p.vt = x) (w : World) :
    Calls Try.prog 16 #[.agg #[.int .i64 p.s, .int .i64 p.r, .int .i64 p.n, .slice p.a p.m p.cp]] w fun e w' => e = .returned (.bool x) ∧ Below w.heap.size w w' := h ▸ fits_any p hb w
/-- a vote is laid into the map -/
theorem ac_put {w : World} {P : Nat → Prop} {A mb : Nat} {s : As} (h : Ac w P A mb s) {p : Vv} (hp : p.In w P) (hw : (Lit.int .i64 p.s).wf = true) (hok : Ok { s with vs := put s.vs p.vt }) :
    ∃ w', (Instr.mapUpdate 44 (.map (some mb)) (.int .i64 p.s) (.agg #[.int .i64 p.s, .int .i64 p.r, .int .i64 p.n, .slice p.a p.m p.cp])).run Try.prog w = .ok () w' ∧ Mv w P A mb { s with vs := put s.vs p.vt } w' := by
  obtain ⟨l, h1, h2, h3⟩ := h.ex
  have hlen : l.length < maxLen := by
    have := length_le h.ok
    rw [h2] at this
    simp at this
    unfold maxLen
    omega
  obtain ⟨w', hr, hm, hg⟩ := mp_put (v := p) h1 hlen hw
  have hc : Chg (fun k => k = mb) w w' := (Chg.refl _ _).grown hg (fun k e => .inl (Option.some.inj e).symm)
  refine ⟨w', hr, hc.mono (fun k _ e => .inr e), ⟨(hc.block _ h.ltA (fun e => h.mA e.symm)).trans h.row, ⟨_, hm, ?_, fun q hq => ?_⟩, hok⟩⟩
  · rw [vput_vt, ← h2]
  · rcases mem_vput.1 hq with rfl | ⟨hq, _⟩
    · exact hp.chg hc (fun k hk => .inr (h.noB k (.inr hk)))
    · exact (h3 q hq).chg hc (fun k hk => .inr (h.noB k (.inr hk)))
theorem ok_pr {s : As} {v : Vt} (h : Ok s) (e : accE s v = 0) : Ok { s with pr := v.r, pn := v.n } := by
  obtain ⟨hf, hl, _, _⟩ := accE_zero e
  refine ⟨h.lo, h.hi, h.win, h.sorted, h.each, fun u hu => lessB_trans (h.below u hu) hl, .inr ?_⟩
  simp [fitsB] at hf
  exact hf.1
theorem own_in {w : World} {B : Nat} {P : Nat → Prop} {p : Vv} {a' : Option Addr} {c' : Nat} (hb : p.b.length = p.m) (hw : wfs p.b) (hr : w.ownsRow B 5 1 (.slice a' p.m c') p.m (B8.vals p.b)) (hP : ∀ k, B ≤ k → P k) : Vv.In w P { p with a := a', cp := c' } := by
  obtain ⟨a2, c2, e, hq⟩ := sq_of_row hb hw hr
  obtain ⟨rfl, rfl⟩ : a' = a2 ∧ c' = c2 := by simpa using e
  exact ⟨hq, fun _ ad e => hP _ (hr.lt _ (own_blk hr e)).1⟩
theorem acc_e {s : As} {v : Vt} (hf : fitsB v = true) : accE s v = if lessB v.r v.n s.pr s.pn = true then 90 else if v.s < s.first then 80 else if s.first + 16 ≤ v.s then 81 else 0 := by simp [accE, hf]
set_option maxRecDepth 100000 in
set_option maxHeartbeats 1000000 in
theorem accept_any {w : World} {P : Nat → Prop} {A mb : Nat} {s : As} (h : Ac w P A mb s) (hP : ∀ k, w.heap.size ≤ k → P k) (p : Vv) (q : Sq w p.a p.m p.cp p.b) :
    Calls Try.prog 8 #[.pointer (some ⟨A, 0, none⟩), .agg #[.int .i64 p.s, .int .i64 p.r, .int .i64 p.n, .slice p.a p.m p.cp]] w fun e w' => e = .returned (.int .i64 (accE s p.vt)) ∧ Mv w P A mb (accS s p.vt) w' := by
  obtain ⟨N, eN⟩ : ∃ N, N = w.heap.size := ⟨_, rfl⟩
  obtain ⟨u, eu⟩ : ∃ u, u = w.alloc (.cells #[.int .i64 p.s, .int .i64 p.r, .int .i64 p.n, .slice p.a p.m p.cp] 38) := ⟨_, rfl⟩
  have BU : Hid (Below w.heap.size w u) := by rw [eu]; exact below_alloc (Below.refl _ _) _
  have X : Hid (V4 u N p) := by rw [eu, eN]; exact v4_new w p
  have H := hide (h.below BU.out)
  have OK := hide h.ok
  have QW := hide q
  have NA : Hid (¬ AM A mb N) := fun hk => by have := h.lt N hk; omega
  have HP := hide hP
  have lo := h.ok.lo
  have hi := h.ok.hi
  have hbl : Hid (p.b.length = p.m) := q.length
  have EU := hide eu
  have EN := hide eN
  clear h eu q hP eN
  cases hf : fitsB p.vt
  · have e1 : accE s p.vt = 1 := by simp [accE, hf]
    have e2 : accS s p.vt = s := by simp [accS, e1]
    rw [e1, e2]
    have CF := hide (fits_lit hbl.out hf u)
    obtain ⟨x0, x1, x2, x3⟩ := X.out
    clear hf e1 e2
    go_enter Try.func8, Try.ntmps8
    go_wp2_with fail
    rw [← EU.out, ← EN.out]
    go_wp2_with fail
    refine CF.out.mono ?_
    rintro e w1 ⟨rfl, hb1⟩
    go_wp2_with fail
    go_ret
    exact ⟨rfl, (Mv.stay H.out hb1).behind BU.out⟩
  · have CF := hide (fits_lit hbl.out hf u)
    cases hl : lessB p.r p.n s.pr s.pn
    · have CL := hide (fun w => less_lit hl w)
      obtain ⟨x0, x1, x2, x3⟩ := X.out
      have EE : Hid (accE s p.vt = if p.s < s.first then 80 else if s.first + 16 ≤ p.s then 81 else 0) := by
        show _ = _
        rw [acc_e hf, if_neg (by show ¬ lessB p.r p.n s.pr s.pn = true; rw [hl]; decide)]
        rfl
      have FM : Hid (p.m ≤ 2048) := by show _ ≤ _; rw [← hbl.out]; exact fits_len hf
      clear hf hl
      go_enter Try.func8, Try.ntmps8
      go_wp2_with fail
      rw [← EU.out, ← EN.out]
      go_wp2_with fail
      refine CF.out.mono ?_
      rintro e w1 ⟨rfl, hb1⟩
      have B1 := hide hb1
      have H1 := hide (H.out.below hb1)
      have X1 := hide (X.out.below hb1)
      obtain ⟨y0, y1, y2, y3⟩ := X1.out
      have c0 := H1.out.c0
      have c1 := H1.out.c1
      clear hb1 x0 x1 x2 x3
      go_wp2_with fail
      go_region_held3 (fun v => v.cell? ⟨N, 1, none⟩ = some (.int .i64 p.r) ∧ v.cell? ⟨N, 2, none⟩ = some (.int .i64 p.n) ∧ v.cell? ⟨A, 0, none⟩ = some (.int .i64 s.pr) ∧ v.cell? ⟨A, 1, none⟩ = some (.int .i64 s.pn)) (first | go_keep | exact ⟨y1, y2, c0, c1⟩ | exact ⟨z1, z2, k0, k1⟩) ((first | (go_at_call 14; refine (CL.out _).mono ?_; rintro e w2 ⟨rfl, hb2⟩; obtain ⟨z0, z1, z2, z3⟩ := X1.out.drew.below hb2; have k0 := (H1.out.drew.below hb2).c0; have k1 := (H1.out.drew.below hb2).c1; have B2 := hide hb2; clear hb2)))
      have B12 : Hid (Below u.heap.size u w2) := below_step B1.out ((Below.refl _ _).drew.trans B2.out)
      clear y0 y1 y2 y3 c0 c1 k0 k1
      have H2 : Hid (Ac w2 P A mb s) := H1.out.drew.below B2.out
      have X2 : Hid (V4 w2 N p) := X1.out.drew.below B2.out
      have c2 := H2.out.c2
      by_cases h1 : p.s < s.first
      · have E1 : Hid (accE s p.vt = 80) := by show _ = _; rw [EE.out, if_pos h1]
        have E2 : Hid (accS s p.vt = s) := by show _ = _; simp [accS, E1.out]
        go_wp2_with fail
        go_quiet (fail)
        go_wp2_with fail
        go_ret
        rw [E1.out, E2.out]
        exact ⟨rfl, (Mv.stay H.out (below_drewN B12.out _)).behind BU.out⟩
      · have h1' : s.first ≤ p.s := by omega
        have CE : Hid (∀ v : World, v.cell? ⟨A, 2, none⟩ = some (.int .i64 s.first) → Calls Try.prog 17 #[.pointer (some ⟨A, 0, none⟩)] v fun e w' => e = .returned (.int .i64 (s.first + 16)) ∧ w' = v) := fun v hv => end_any hv lo hi
        go_wp2_with fail
        go_quiet (fail)
        go_wp2_with fail
        by_cases h2 : s.first + 16 ≤ p.s
        · have E1 : Hid (accE s p.vt = 81) := by show _ = _; rw [EE.out, if_neg (by omega), if_pos h2]
          have E2 : Hid (accS s p.vt = s) := by show _ = _; simp [accS, E1.out]
          go_region_held3 (fun v => v.cell? ⟨N, 0, none⟩ = some (.int .i64 p.s) ∧ v.cell? ⟨A, 2, none⟩ = some (.int .i64 s.first)) (first | go_keep | exact ⟨z0, c2⟩) ((first | (go_at_call 17; refine (CE.out _ (by first | exact c2 | assumption)).mono ?_; rintro e w4 ⟨rfl, rfl⟩)))
          go_wp2_with fail
          go_ret
          rw [E1.out, E2.out]
          exact ⟨rfl, (Mv.stay H.out ((below_drewN B12.out _).drew)).behind BU.out⟩
        · have h2' : p.s < s.first + 16 := by omega
          have E1 : Hid (accE s p.vt = 0) := by show _ = _; rw [EE.out, if_neg (by omega), if_neg h2]
          have E2 : Hid (accS s p.vt = { s with pr := p.r, pn := p.n, vs := put s.vs p.vt }) := by show _ = _; simp [accS, E1.out]; exact ⟨rfl, rfl⟩
          have OK2 := hide (ok_acc OK.out p.vt)
          rw [E2.out] at OK2
          have OK1 : Hid (Ok { s with pr := p.r, pn := p.n }) := ok_pr OK.out E1.out
          have PW : Hid ((Lit.int .i64 p.s).wf = true) := wf64 (by omega) (by omega)
          go_region_held3 (fun v => v.cell? ⟨N, 0, none⟩ = some (.int .i64 p.s) ∧ v.cell? ⟨A, 2, none⟩ = some (.int .i64 s.first)) (first | go_keep | exact ⟨z0, c2⟩) ((first | (go_at_call 17; refine (CE.out _ (by first | exact c2 | assumption)).mono ?_; rintro e w4 ⟨rfl, rfl⟩)))
          obtain ⟨w5, e5⟩ : ∃ w5, w5 = w2.drewN (nq + 1) := ⟨_, rfl⟩
          have H5 : Hid (Ac w5 P A mb s) := by rw [e5]; exact H2.out.drewN _
          have X5 : Hid (V4 w5 N p) := by rw [e5]; exact X2.out
          have B5 : Hid (Below u.heap.size u w5) := by rw [e5]; exact below_drewN B12.out _
          rw [← e5]
          clear e5 z0 z1 z2 z3 c2
          obtain ⟨z0, z1, z2, z3⟩ := X5.out
          have F5 := H5.out.f
          have q0 := H5.out.c0
          have q1 := H5.out.c1
          have MV := hide (ac_prom H5.out p.r p.n OK1.out)
          obtain ⟨w6, e6⟩ : ∃ w6, w6 = (w5.setCell ⟨A, 0, none⟩ (.int .i64 p.r)).setCell ⟨A, 1, none⟩ (.int .i64 p.n) := ⟨_, rfl⟩
          rw [← e6] at MV
          have E6 := hide e6
          clear e6
          go_wp2_with fail
          rw [← E6.out]
          have H6 := hide MV.out.2
          have X6 : Hid (V4 w6 N p) := X5.out.chg MV.out.1 NA.out
          clear E6 z0 z1 z2 z3 q0 q1
          obtain ⟨z0, z1, z2, z3⟩ := X6.out
          have c3 := H6.out.c3
          have Q6 : Hid (Sq w6.drew p.a p.m p.cp p.b) := by
            have q1 : p.In w (fun _ => True) := ⟨QW.out, fun _ _ _ => trivial⟩
            have q2 := (q1.below BU.out).below B5.out
            exact ((q2.chg MV.out.1 (fun k hk => .inr (H5.out.noB k hk))).same (w' := w6.drew) (fun _ _ _ => rfl)).1
          have PB : Hid (∀ k, w6.heap.size ≤ k → P k) := fun k hk => HP.out k (Nat.le_trans (Nat.le_trans BU.out.size (Nat.le_trans B5.out.size MV.out.1.size)) hk)
          go_region_held3 (fun v => v.cell? ⟨N, 0, none⟩ = some (.int .i64 p.s) ∧ v.cell? ⟨N, 1, none⟩ = some (.int .i64 p.r) ∧ v.cell? ⟨N, 2, none⟩ = some (.int .i64 p.n) ∧ v.cell? ⟨N, 3, none⟩ = some (.slice p.a p.m p.cp) ∧ v.cell? ⟨A, 3, none⟩ = some (.map (some mb))) (first | go_keep | exact ⟨z0, z1, z2, z3, c3⟩ | exact ⟨d0, d1, d2, d3, d4⟩ | exact ⟨g0, g1, g2, g3, g4⟩) ((first | (go_at_call 18; refine (own_any (p := p) Q6.out FM.out).mono ?_; rintro e w7 ⟨a', c', rfl, hb7, hr7⟩; obtain ⟨d0, d1, d2, d3⟩ := X6.out.drew.below hb7; have d4 := (H6.out.drew.below hb7).c3; have PI : Hid (Vv.In w7 P { p with a := a', cp := c' }) := own_in hbl.out Q6.out.wf hr7 PB.out; obtain ⟨w8, run8, hm8⟩ := ac_put (H6.out.drew.below hb7) (p := { p with a := a', cp := c' }) PI.out PW.out OK2.out; have M8 := hide hm8; have B7 := hide hb7; obtain ⟨g0, g1, g2, g3⟩ := (X6.out.drew.below hb7).chg hm8.1 NA.out; have g4 := hm8.2.c3; unfold Vv.val; clear hb7 hr7 hm8)))
          go_wp2_with fail
          go_ret
          rw [E1.out, E2.out]
          exact ⟨rfl, ((Chg.of_below (below_step BU.out B5.out) (AM A mb)).trans MV.out.1 (fun k _ hk => hk)).trans ((Chg.of_below ((Below.refl w6.heap.size w6).drew.trans B7.out) (AM A mb)).trans M8.out.1 (fun k _ hk => hk)) (fun k _ hk => hk), M8.out.2⟩
    · have e1 : accE s p.vt = 90 := by rw [acc_e hf, if_pos (show lessB p.vt.r p.vt.n s.pr s.pn = true from hl)]
      have e2 : accS s p.vt = s := by simp [accS, e1]
      rw [e1, e2]
      have CL := hide (fun w => less_lit hl w)
      obtain ⟨x0, x1, x2, x3⟩ := X.out
      clear hf hl e1 e2
      go_enter Try.func8, Try.ntmps8
      go_wp2_with fail
      rw [← EU.out, ← EN.out]
      go_wp2_with fail
      refine CF.out.mono ?_
      rintro e w1 ⟨rfl, hb1⟩
      have B1 := hide hb1
      have H1 := hide (H.out.below hb1)
      have X1 := hide (X.out.below hb1)
      obtain ⟨y0, y1, y2, y3⟩ := X1.out
      have c0 := H1.out.c0
      have c1 := H1.out.c1
      clear hb1 x0 x1 x2 x3
      go_wp2_with fail
      go_region_held3 (fun v => v.cell? ⟨N, 1, none⟩ = some (.int .i64 p.r) ∧ v.cell? ⟨N, 2, none⟩ = some (.int .i64 p.n) ∧ v.cell? ⟨A, 0, none⟩ = some (.int .i64 s.pr) ∧ v.cell? ⟨A, 1, none⟩ = some (.int .i64 s.pn)) (first | go_keep | exact ⟨y1, y2, c0, c1⟩ | exact ⟨z1, z2, k0, k1⟩) ((first | (go_at_call 14; refine (CL.out _).mono ?_; rintro e w2 ⟨rfl, hb2⟩; obtain ⟨z0, z1, z2, z3⟩ := X1.out.drew.below hb2; have k0 := (H1.out.drew.below hb2).c0; have k1 := (H1.out.drew.below hb2).c1; have B2 := hide hb2; clear hb2)))
      have B12 : Hid (Below u.heap.size u w2) := below_step B1.out ((Below.refl _ _).drew.trans B2.out)
      go_wp2_with fail
      go_ret
      exact ⟨rfl, (Mv.stay H.out B12.out).behind BU.out⟩
end Go.Proofs.Ytdnniokpkamjjab
