/- The document's acceptor: Prepare and Forget. No condition. -/
import Derived.Test.YtdnniokpkamjjaaAccRef
import Derived.Deep.RegionHeld3
namespace Go.Proofs.Ytdnniokpkamjjaa
open Go.ChangeShapes Go.WideShapes Go.ChangeAt Go.RowKit B8 Am
set_option linter.unusedVariables false

theorem rless_lit {a b c d : Int} {x : Bool} (h : lessB a b c d = x) (w : World) :
    Calls Try.prog 41 #[.agg #[.int .i64 a, .int .i64 b], .agg #[.int .i64 c, .int .i64 d]] w fun e w' => e = .returned (.bool x) ∧ Below w.heap.size w w' :=
  h ▸ (rless_any a b c d w).mono fun e w' ⟨he, hw⟩ => ⟨he, by rw [hw]; exact below_alloc (below_alloc (Below.refl _ _) _) _⟩
theorem RMv.behind {w0 w1 w2 : World} {Q : Nat → Prop} {R : Nat} {s : As} (h : RMv w1 Q R s w2) (hb : Below w0.heap.size w0 w1) : RMv w0 Q R s w2 :=
  ⟨(Chg.of_below hb (fun k => k = R)).trans h.1 (fun k _ hk => hk), h.2⟩
theorem RMv.then {w w1 w2 : World} {Q : Nat → Prop} {R : Nat} {s : As} (h : RMv w Q R s w1) (hb : Below w1.heap.size w1 w2) : RMv w Q R s w2 := by
  obtain ⟨hc, a, m, c, l, h1⟩ := h
  exact ⟨hc.trans (Chg.of_below hb _) (fun k _ hk => hk), a, m, c, l, h1.below hb⟩
theorem RMv.stay {w w1 : World} {Q : Nat → Prop} {R : Nat} {s : As} (h : Rf w Q R s) (hb : Below w.heap.size w w1) : RMv w Q R s w1 := by
  obtain ⟨a, m, c, l, h1⟩ := h
  exact ⟨Chg.of_below hb _, a, m, c, l, h1.below hb⟩
theorem Vl.base {w : World} {B B' : Nat} {P : Nat → Prop} {a : Option Addr} {m c : Nat} {l : List Vv} (h : Vl w B P a m c l) (hb : B' ≤ B) : Vl w B' P a m c l := ⟨row_base h.row hb, h.len, h.ins⟩
/-- the promise is written -/
theorem rf_prom {w : World} {Q : Nat → Prop} {R : Nat} {s : As} {a : Option Addr} {m c : Nat} {l : List Vv} (h : Rf0 w Q R s a m c l) (r n : Int) (hok : Ok { s with pr := r, pn := n }) :
    Chg (fun k => k = R) w ((w.setCell ⟨R, 0, none⟩ (.int .i64 r)).setCell ⟨R, 1, none⟩ (.int .i64 n)) ∧ Rf0 ((w.setCell ⟨R, 0, none⟩ (.int .i64 r)).setCell ⟨R, 1, none⟩ (.int .i64 n)) Q R { s with pr := r, pn := n } a m c l := by
  have hc : Chg (fun k => k = R) w ((w.setCell ⟨R, 0, none⟩ (.int .i64 r)).setCell ⟨R, 1, none⟩ (.int .i64 n)) := ((Chg.refl (fun k => k = R) _).setCell (p := ⟨R, 0, none⟩) (.inl rfl) _).setCell (p := ⟨R, 1, none⟩) (.inl rfl) _
  exact ⟨hc, h.write h.vl h.vs hok hc (put_row (put_row h.row))⟩
/-- the list is written -/
theorem rf_list {w : World} {Q : Nat → Prop} {R : Nat} {s : As} {a : Option Addr} {m c : Nat} {l : List Vv} (h : Rf0 w Q R s a m c l) {s' : As} {a' : Option Addr} {m' c' : Nat} {l' : List Vv} (hs : s' = { s with vs := s'.vs }) (hv : Vl w 0 Q a' m' c' l') (he : s'.vs = l'.map Vv.vt) (hok : Ok s') :
    Chg (fun k => k = R) w (w.setCell ⟨R, 3, none⟩ (.slice a' m' c')) ∧ Rf0 (w.setCell ⟨R, 3, none⟩ (.slice a' m' c')) Q R s' a' m' c' l' := by
  have hc : Chg (fun k => k = R) w (w.setCell ⟨R, 3, none⟩ (.slice a' m' c')) := (Chg.refl (fun k => k = R) _).setCell (p := ⟨R, 3, none⟩) (.inl rfl) _
  refine ⟨hc, h.write hv he hok hc ?_⟩
  rw [put_row h.row, hs]
  rfl
set_option maxRecDepth 100000 in
set_option maxHeartbeats 1000000 in
theorem rprepare_any {w : World} {Q : Nat → Prop} {R : Nat} {s : As} (h : Rf w Q R s) (r n f : Int) :
    Calls Try.prog 28 #[.pointer (some ⟨R, 0, none⟩), .agg #[.int .i64 r, .int .i64 n], .int .i64 f] w fun e w' => ∃ a m c l, e = .returned (.tuple #[.slice a m c, .int .i64 (prepE s r n)]) ∧ RMv w Q R (prepS s r n) w' ∧ Vl w' w.heap.size Q a m c l ∧ l.map Vv.vt = prepL s r n f := by
  obtain ⟨a, m, c, l, h⟩ := h
  obtain ⟨u, eu⟩ : ∃ u, u = w.alloc (.cells #[.int .i64 r, .int .i64 n] 30) := ⟨_, rfl⟩
  have BU : Hid (Below w.heap.size w u) := by rw [eu]; exact below_alloc (Below.refl _ _) _
  have x0 : u.cell? ⟨w.heap.size, 0, none⟩ = some (.int .i64 r) := by rw [eu]; simp
  have x1 : u.cell? ⟨w.heap.size, 1, none⟩ = some (.int .i64 n) := by rw [eu]; simp
  have H := hide (h.below BU.out)
  have OK := hide h.ok
  have EU := hide eu
  clear h eu
  cases hm : mayB r n
  · have e1 : prepE s r n = 1 := by simp [prepE, hm]
    have e2 : prepS s r n = s := by simp [prepS, e1]
    have e3 : prepL s r n f = [] := by simp [prepL, e1]
    rw [e1, e2, e3]
    have CM := hide (fun w => turn_any r n w)
    rw [hm] at CM
    clear hm e1 e2 e3
    go_enter Try.func28, Try.ntmps28
    go_wp2_with fail
    rw [← EU.out]
    go_wp2_with fail
    refine (CM.out _).mono ?_
    rintro e w1 ⟨rfl, rfl⟩
    go_wp2_with fail
    go_ret2
    have B1 : Below u.heap.size u (u.alloc (.cells #[.int .i64 r, .int .i64 n] 30)) := below_alloc (Below.refl _ _) _
    exact ⟨none, 0, 0, [], rfl, (RMv.stay ⟨_, _, _, _, H.out⟩ B1).behind BU.out, vl_nil _ _ _, rfl⟩
  · have CM := hide (fun w => turn_any r n w)
    rw [hm] at CM
    cases hl : lessB r n s.pr s.pn
    · have e1 : prepE s r n = 0 := by simp [prepE, hm, hl]
      have e2 : prepS s r n = { s with pr := r, pn := n } := by simp [prepS, e1]
      have e3 : prepL s r n f = fromL s.vs f := by simp [prepL, e1]
      have OK2 := hide (ok_prep OK.out r n)
      rw [e1, e2, e3]
      rw [e2] at OK2
      clear e1 e2 e3 hm
      have CL := hide (fun w => rless_lit hl w)
      clear hl
      go_enter Try.func28, Try.ntmps28
      go_wp2_with fail
      rw [← EU.out]
      go_wp2_with fail
      refine (CM.out _).mono ?_
      rintro e w1 ⟨rfl, ew1⟩
      have B1 : Hid (Below u.heap.size u w1) := by rw [ew1]; exact below_alloc (Below.refl _ _) _
      have H1 := hide (H.out.below B1.out)
      have y0 := (B1.out.cell (p := ⟨w.heap.size, 0, none⟩) (World.block_lt_of_cell? _ _ x0)).trans x0
      have y1 := (B1.out.cell (p := ⟨w.heap.size, 1, none⟩) (World.block_lt_of_cell? _ _ x1)).trans x1
      have c0 := H1.out.c0
      have c1 := H1.out.c1
      clear ew1 x0 x1
      go_wp2_with fail
      go_region_held3 (fun v => v.cell? ⟨w.heap.size, 0, none⟩ = some (.int .i64 r) ∧ v.cell? ⟨w.heap.size, 1, none⟩ = some (.int .i64 n) ∧ v.cell? ⟨R, 0, none⟩ = some (.int .i64 s.pr) ∧ v.cell? ⟨R, 1, none⟩ = some (.int .i64 s.pn)) (first | go_keep | exact ⟨y0, y1, c0, c1⟩ | exact ⟨z0, z1, k0, k1⟩) ((first | (go_at_call 41; refine (CL.out _).mono ?_; rintro e w2 ⟨rfl, hb2⟩; have z0 := (hb2.cell (p := ⟨w.heap.size, 0, none⟩) (World.block_lt_of_cell? _ _ y0)).trans y0; have z1 := (hb2.cell (p := ⟨w.heap.size, 1, none⟩) (World.block_lt_of_cell? _ _ y1)).trans y1; have k0 := (hb2.cell (p := ⟨R, 0, none⟩) (World.block_lt_of_cell? _ _ c0)).trans c0; have k1 := (hb2.cell (p := ⟨R, 1, none⟩) (World.block_lt_of_cell? _ _ c1)).trans c1; have B2 := hide hb2; clear hb2)))
      have B12 : Hid (Below w.heap.size w w2) := below_step (below_step BU.out B1.out) ((Below.refl _ _).drew.trans B2.out)
      have H2 : Hid (Rf0 w2 Q R s a m c l) := H1.out.drew.below B2.out
      have F2 := H2.out.f
      have MV := hide (rf_prom H2.out r n OK2.out)
      clear y0 y1 c0 c1
      go_wp2_with fail
      refine (rfrom_any MV.out.2 f).mono ?_
      rintro e w3 ⟨a', m', c', l', rfl, hb3, hv3, hl3⟩
      go_wp2_with fail
      go_ret2
      exact ⟨a', m', c', l', rfl, (RMv.then ⟨MV.out.1, _, _, _, _, MV.out.2⟩ hb3).behind B12.out, hv3.base (Nat.le_trans B12.out.size MV.out.1.size), hl3⟩
    · have e1 : prepE s r n = 90 := by simp [prepE, hm, hl]
      have e2 : prepS s r n = s := by simp [prepS, e1]
      have e3 : prepL s r n f = [] := by simp [prepL, e1]
      rw [e1, e2, e3]
      clear e1 e2 e3 hm
      have CL := hide (fun w => rless_lit hl w)
      clear hl
      go_enter Try.func28, Try.ntmps28
      go_wp2_with fail
      rw [← EU.out]
      go_wp2_with fail
      refine (CM.out _).mono ?_
      rintro e w1 ⟨rfl, ew1⟩
      have B1 : Hid (Below u.heap.size u w1) := by rw [ew1]; exact below_alloc (Below.refl _ _) _
      have H1 := hide (H.out.below B1.out)
      have y0 := (B1.out.cell (p := ⟨w.heap.size, 0, none⟩) (World.block_lt_of_cell? _ _ x0)).trans x0
      have y1 := (B1.out.cell (p := ⟨w.heap.size, 1, none⟩) (World.block_lt_of_cell? _ _ x1)).trans x1
      have c0 := H1.out.c0
      have c1 := H1.out.c1
      clear ew1 x0 x1
      go_wp2_with fail
      go_region_held3 (fun v => v.cell? ⟨w.heap.size, 0, none⟩ = some (.int .i64 r) ∧ v.cell? ⟨w.heap.size, 1, none⟩ = some (.int .i64 n) ∧ v.cell? ⟨R, 0, none⟩ = some (.int .i64 s.pr) ∧ v.cell? ⟨R, 1, none⟩ = some (.int .i64 s.pn)) (first | go_keep | exact ⟨y0, y1, c0, c1⟩ | exact ⟨z0, z1, k0, k1⟩) ((first | (go_at_call 41; refine (CL.out _).mono ?_; rintro e w2 ⟨rfl, hb2⟩; have z0 := (hb2.cell (p := ⟨w.heap.size, 0, none⟩) (World.block_lt_of_cell? _ _ y0)).trans y0; have z1 := (hb2.cell (p := ⟨w.heap.size, 1, none⟩) (World.block_lt_of_cell? _ _ y1)).trans y1; have k0 := (hb2.cell (p := ⟨R, 0, none⟩) (World.block_lt_of_cell? _ _ c0)).trans c0; have k1 := (hb2.cell (p := ⟨R, 1, none⟩) (World.block_lt_of_cell? _ _ c1)).trans c1; have B2 := hide hb2; clear hb2)))
      have B12 : Hid (Below w.heap.size w w2) := below_step (below_step BU.out B1.out) ((Below.refl _ _).drew.trans B2.out)
      have H2 : Hid (Rf0 w2 Q R s a m c l) := H1.out.drew.below B2.out
      go_wp2_with fail
      go_ret2
      exact ⟨none, 0, 0, [], rfl, ⟨Chg.of_below B12.out _, _, _, _, _, H2.out⟩, vl_nil _ _ _, rfl⟩
set_option maxRecDepth 100000 in
set_option maxHeartbeats 1000000 in
theorem rforget_any {w : World} {Q : Nat → Prop} {R : Nat} {s : As} (h : Rf w Q R s) (b : Int) :
    Calls Try.prog 29 #[.pointer (some ⟨R, 0, none⟩), .int .i64 b] w fun e w' => e = .returned (.int .i64 (forgN s b)) ∧ RMv w Q R (forgS s b) w' := by
  obtain ⟨a, m, c, l, h⟩ := h
  have c2 := h.c2
  have c3 := h.c3
  have H := hide h
  by_cases h1 : b ≤ s.first
  · have e0 : forgB s b = false := by simp [forgB]; omega
    have e1 : forgN s b = 0 := by simp [forgN, e0]
    have e2 : forgS s b = s := by simp [forgS, e0]
    rw [e1, e2]
    clear h e0 e1 e2
    go_enter Try.func29, Try.ntmps29
    go_wp2_with fail
    go_ret
    exact ⟨rfl, Chg.refl _ _, _, _, _, _, H.out⟩
  · by_cases h2 : 1099511627776 < b
    · have e0 : forgB s b = false := by simp [forgB]; omega
      have e1 : forgN s b = 0 := by simp [forgN, e0]
      have e2 : forgS s b = s := by simp [forgS, e0]
      rw [e1, e2]
      clear h e0 e1 e2
      go_enter Try.func29, Try.ntmps29
      go_wp2_with fail
      go_ret
      exact ⟨rfl, Chg.refl _ _, _, _, _, _, H.out⟩
    · have e0 : forgB s b = true := by simp [forgB]; omega
      have e1 : forgN s b = (s.vs.length : Int) - ((fromL s.vs b).length : Int) := by simp [forgN, e0]
      have e2 : forgS s b = { s with first := b, vs := fromL s.vs b } := by simp [forgS, e0]
      have OK2 := hide (ok_forg h.ok b)
      rw [e2] at OK2
      rw [e1, e2]
      have M16 := h.m16
      have LN : Hid (s.vs.length = m) := by show _ = _; rw [h.vs]; simp; exact h.vl.len
      have CF := hide (rfrom_any h b)
      clear h e0 e1 e2
      go_enter Try.func29, Try.ntmps29
      go_wp2_with fail
      refine CF.out.mono ?_
      rintro e w1 ⟨a', m', c', l', rfl, hb1, hv1, hl1⟩
      have H1 := hide (H.out.below hb1)
      have F1 := H1.out.f
      have d2 := H1.out.c2
      have d3 := H1.out.c3
      have FN : Hid (∀ W', W' = (w1.setCell ⟨R, 3, none⟩ (.slice a' m' c')).setCell ⟨R, 2, none⟩ (.int .i64 b) → RMv w Q R { s with first := b, vs := fromL s.vs b } W') := fun W' e => by
        subst e
        have hc : Chg (fun k => k = R) w1 ((w1.setCell ⟨R, 3, none⟩ (.slice a' m' c')).setCell ⟨R, 2, none⟩ (.int .i64 b)) := ((Chg.refl (fun k => k = R) _).setCell (p := ⟨R, 3, none⟩) (.inl rfl) _).setCell (p := ⟨R, 2, none⟩) (.inl rfl) _
        refine ⟨(Chg.of_below hb1 _).trans hc (fun k _ hk => hk), a', m', c', l', H1.out.write (hv1.base (Nat.zero_le _)) hl1.symm OK2.out hc ?_⟩
        rw [put_row (put_row H1.out.row)]
        rfl
      have ML : Hid ((fromL s.vs b).length = m') := by show _ = _; rw [← hl1]; simp; exact hv1.len
      have MM : Hid (m' ≤ m) := by show m' ≤ m; rw [← ML.out, ← LN.out]; exact List.length_filter_le _ _
      clear hb1 hv1 hl1 c2 c3
      go_wp2_with fail
      go_ret
      refine ⟨?_, FN.out _ rfl⟩
      have := MM.out
      refine ret1 ?_
      rw [LN.out, ML.out]
      unfold wrap64
      omega
end Go.Proofs.Ytdnniokpkamjjaa
