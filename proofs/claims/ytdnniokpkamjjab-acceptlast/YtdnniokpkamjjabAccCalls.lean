/- Promised, First, Votes, Prepare of a landed acceptor. No condition. -/
import Derived.Test.YtdnniokpkamjjabAccTell
import Derived.Deep.RegionHeld3
namespace Go.Proofs.Ytdnniokpkamjjab
open Go.ChangeShapes Go.WideShapes Go.ChangeAt Go.RowKit B8 Am
set_option linter.unusedVariables false

/-- what a call on an acceptor leaves: the acceptor where it was; all else as it was -/
def Mv (w : World) (P : Nat → Prop) (A mb : Nat) (s : As) (w' : World) : Prop := Chg (AM A mb) w w' ∧ Ac w' P A mb s
theorem Mv.then {w w1 w2 : World} {P : Nat → Prop} {A mb : Nat} {s : As} (h : Mv w P A mb s w1) (hb : Below w1.heap.size w1 w2) : Mv w P A mb s w2 :=
  ⟨h.1.trans (Chg.of_below hb (AM A mb)) (fun k _ hk => hk), h.2.below hb⟩
theorem Mv.behind {w0 w1 w2 : World} {P : Nat → Prop} {A mb : Nat} {s : As} (h : Mv w1 P A mb s w2) (hb : Below w0.heap.size w0 w1) : Mv w0 P A mb s w2 :=
  ⟨(Chg.of_below hb (AM A mb)).trans h.1 (fun k _ hk => hk), h.2⟩
theorem Mv.stay {w w1 : World} {P : Nat → Prop} {A mb : Nat} {s : As} (h : Ac w P A mb s) (hb : Below w.heap.size w w1) : Mv w P A mb s w1 := ⟨Chg.of_below hb _, h.below hb⟩
theorem Told.base {w : World} {B B' : Nat} {a : Option Addr} {m c : Nat} {l : List Vv} (h : Told w B a m c l) (hb : B' ≤ B) : Told w B' a m c l :=
  ⟨⟨row_base h.vl.row hb, h.vl.len, fun p hp => (h.vl.ins p hp).mono (fun k hk _ => Nat.le_trans hb hk)⟩, fun p hp => row_base (h.fresh p hp) hb⟩
theorem below_drewN {w : World} {W : World} (h : Below w.heap.size w W) (n : Nat) : Below w.heap.size w (W.drewN n) := ⟨h.os, h.tape, h.output, h.size, h.block⟩
theorem from_first {s : As} (h : Ok s) : fromL s.vs s.first = s.vs := by
  refine List.filter_eq_self.2 fun v hv => ?_
  have := (h.win v hv).1
  simpa using this
theorem first_any {w : World} {P : Nat → Prop} {A mb : Nat} {s : As} (h : Ac w P A mb s) :
    Calls Try.prog 12 #[.pointer (some ⟨A, 0, none⟩)] w fun e w' => e = .returned (.int .i64 s.first) ∧ w' = w := by
  have c2 := h.c2
  clear h
  go_enter Try.func12, Try.ntmps12
  go_wp2_with fail
  go_ret
  exact ⟨rfl, rfl⟩
theorem votes_any {w : World} {P : Nat → Prop} {A mb : Nat} {s : As} (h : Ac w P A mb s) :
    Calls Try.prog 10 #[.pointer (some ⟨A, 0, none⟩)] w fun e w' => ∃ a m c l, e = .returned (.slice a m c) ∧ Below w.heap.size w w' ∧ Told w' w.heap.size a m c l ∧ l.map Vv.vt = s.vs := by
  have c2 := h.c2
  have C := hide (tell_any h s.first)
  rw [from_first h.ok] at C
  clear h
  go_enter Try.func10, Try.ntmps10
  go_wp2_with fail
  refine C.out.mono ?_
  rintro e w1 ⟨a, m, c, l, rfl, hb, ht, hl⟩
  go_wp2_with fail
  go_ret
  exact ⟨a, m, c, l, rfl, hb, ht, hl⟩
/-- the promise is written -/
theorem ac_prom {w : World} {P : Nat → Prop} {A mb : Nat} {s : As} (h : Ac w P A mb s) (r n : Int) (hok : Ok { s with pr := r, pn := n }) :
    Mv w P A mb { s with pr := r, pn := n } ((w.setCell ⟨A, 0, none⟩ (.int .i64 r)).setCell ⟨A, 1, none⟩ (.int .i64 n)) := by
  have hc : Chg (AM A mb) w ((w.setCell ⟨A, 0, none⟩ (.int .i64 r)).setCell ⟨A, 1, none⟩ (.int .i64 n)) := ((Chg.refl _ _).setCell (p := ⟨A, 0, none⟩) (.inl (.inl rfl)) _).setCell (p := ⟨A, 1, none⟩) (.inl (.inl rfl)) _
  have hc2 : Chg (fun k => k = A) w ((w.setCell ⟨A, 0, none⟩ (.int .i64 r)).setCell ⟨A, 1, none⟩ (.int .i64 n)) := ((Chg.refl (fun k => k = A) _).setCell (p := ⟨A, 0, none⟩) (.inl rfl) _).setCell (p := ⟨A, 1, none⟩) (.inl rfl) _
  obtain ⟨l, h1, h2, h3⟩ := h.ex
  refine ⟨hc, ⟨put_row (put_row h.row), ⟨l, h1.same (hc2.block _ h.ltM h.mA), h2, fun p hp => (h3 p hp).chg hc2 (fun k hk => .inr (h.noB k (.inl hk)))⟩, hok⟩⟩
set_option maxRecDepth 100000 in
set_option maxHeartbeats 1000000 in
theorem prepare_any {w : World} {P : Nat → Prop} {A mb : Nat} {s : As} (h : Ac w P A mb s) (r n f : Int) :
    Calls Try.prog 6 #[.pointer (some ⟨A, 0, none⟩), .agg #[.int .i64 r, .int .i64 n], .int .i64 f] w fun e w' => ∃ a m c l, e = .returned (.tuple #[.slice a m c, .int .i64 (prepE s r n)]) ∧ Mv w P A mb (prepS s r n) w' ∧ Told w' w.heap.size a m c l ∧ l.map Vv.vt = prepL s r n f := by
  obtain ⟨u, eu⟩ : ∃ u, u = w.alloc (.cells #[.int .i64 r, .int .i64 n] 28) := ⟨_, rfl⟩
  have BU : Hid (Below w.heap.size w u) := by rw [eu]; exact below_alloc (Below.refl _ _) _
  have x0 : u.cell? ⟨w.heap.size, 0, none⟩ = some (.int .i64 r) := by rw [eu]; simp
  have x1 : u.cell? ⟨w.heap.size, 1, none⟩ = some (.int .i64 n) := by rw [eu]; simp
  have H := hide (h.below BU.out)
  have OK := hide h.ok
  have hlt := h.ltA
  have EU := hide eu
  clear h eu
  cases hm : mayB r n
  · have e1 : prepE s r n = 1 := by simp [prepE, hm]
    have e2 : prepS s r n = s := by simp [prepS, e1]
    have e3 : prepL s r n f = [] := by simp [prepL, e1]
    rw [e1, e2, e3]
    have CM := hide (fun w => may_any r n w)
    rw [hm] at CM
    clear hm e1 e2 e3
    go_enter Try.func6, Try.ntmps6
    go_wp2_with fail
    rw [← EU.out]
    go_wp2_with fail
    refine (CM.out _).mono ?_
    rintro e w1 ⟨rfl, rfl⟩
    go_wp2_with fail
    go_ret2
    have B1 : Below u.heap.size u (u.alloc (.cells #[.int .i64 r, .int .i64 n] 28)) := below_alloc (Below.refl _ _) _
    exact ⟨none, 0, 0, [], rfl, (Mv.stay H.out B1).behind BU.out, told_nil _ _, rfl⟩
  · have CM := hide (fun w => may_any r n w)
    rw [hm] at CM
    cases hl : lessB r n s.pr s.pn
    · have e1 : prepE s r n = 0 := by simp [prepE, hm, hl]
      have e2 : prepS s r n = { s with pr := r, pn := n } := by simp [prepS, e1]
      have e3 : prepL s r n f = fromL s.vs f := by simp [prepL, e1]
      have OK2 := hide (ok_prep OK.out r n)
      rw [e1, e2, e3]
      rw [e2] at OK2
      clear e1 e2 e3 hm
      have CL := hide (fun w => less_lit hl w)
      clear hl
      go_enter Try.func6, Try.ntmps6
      go_wp2_with fail
      rw [← EU.out]
      go_wp2_with fail
      refine (CM.out _).mono ?_
      rintro e w1 ⟨rfl, ew1⟩
      have B1 : Hid (Below u.heap.size u w1) := by rw [ew1]; exact below_alloc (Below.refl _ _) _
      have H1 := hide (H.out.below B1.out)
      have y0 := (B1.out.cell (p := ⟨w.heap.size, 0, none⟩) (World.block_lt_of_cell? _ _ x0)).trans x0
      have y1 := (B1.out.cell (p := ⟨w.heap.size, 1, none⟩) (World.block_lt_of_cell? _ _ x1)).trans x1
      have c0 := H1.out.c0
      have c1 := H1.out.c1
      clear ew1 x0 x1
      go_wp2_with fail
      go_region_held3 (fun v => v.cell? ⟨w.heap.size, 0, none⟩ = some (.int .i64 r) ∧ v.cell? ⟨w.heap.size, 1, none⟩ = some (.int .i64 n) ∧ v.cell? ⟨A, 0, none⟩ = some (.int .i64 s.pr) ∧ v.cell? ⟨A, 1, none⟩ = some (.int .i64 s.pn)) (first | go_keep | exact ⟨y0, y1, c0, c1⟩ | exact ⟨z0, z1, k0, k1⟩) ((first | (go_at_call 14; refine (CL.out _).mono ?_; rintro e w2 ⟨rfl, hb2⟩; have z0 := (hb2.cell (p := ⟨w.heap.size, 0, none⟩) (World.block_lt_of_cell? _ _ y0)).trans y0; have z1 := (hb2.cell (p := ⟨w.heap.size, 1, none⟩) (World.block_lt_of_cell? _ _ y1)).trans y1; have k0 := (hb2.cell (p := ⟨A, 0, none⟩) (World.block_lt_of_cell? _ _ c0)).trans c0; have k1 := (hb2.cell (p := ⟨A, 1, none⟩) (World.block_lt_of_cell? _ _ c1)).trans c1; have B2 := hide hb2; clear hb2)))
      have B12 : Hid (Below w.heap.size w w2) := below_step (below_step BU.out B1.out) ((Below.refl _ _).drew.trans B2.out)
      have H2 : Hid (Ac w2 P A mb s) := H1.out.drew.below B2.out
      have F2 := H2.out.f
      have MV := hide (ac_prom H2.out r n OK2.out)
      clear y0 y1 c0 c1
      go_wp2_with fail
      refine (tell_any MV.out.2 f).mono ?_
      rintro e w3 ⟨a, m, c, l, rfl, hb3, ht3, hl3⟩
      go_wp2_with fail
      go_ret2
      exact ⟨a, m, c, l, rfl, (MV.out.then hb3).behind B12.out, ht3.base (Nat.le_trans B12.out.size MV.out.1.size), hl3⟩
    · have e1 : prepE s r n = 90 := by simp [prepE, hm, hl]
      have e2 : prepS s r n = s := by simp [prepS, e1]
      have e3 : prepL s r n f = [] := by simp [prepL, e1]
      rw [e1, e2, e3]
      clear e1 e2 e3 hm
      have CL := hide (fun w => less_lit hl w)
      clear hl
      go_enter Try.func6, Try.ntmps6
      go_wp2_with fail
      rw [← EU.out]
      go_wp2_with fail
      refine (CM.out _).mono ?_
      rintro e w1 ⟨rfl, ew1⟩
      have B1 : Hid (Below u.heap.size u w1) := by rw [ew1]; exact below_alloc (Below.refl _ _) _
      have H1 := hide (H.out.below B1.out)
      have y0 := (B1.out.cell (p := ⟨w.heap.size, 0, none⟩) (World.block_lt_of_cell? _ _ x0)).trans x0
      have y1 := (B1.out.cell (p := ⟨w.heap.size, 1, none⟩) (World.block_lt_of_cell? _ _ x1)).trans x1
      have c0 := H1.out.c0
      have c1 := H1.out.c1
      clear ew1 x0 x1
      go_wp2_with fail
      go_region_held3 (fun v => v.cell? ⟨w.heap.size, 0, none⟩ = some (.int .i64 r) ∧ v.cell? ⟨w.heap.size, 1, none⟩ = some (.int .i64 n) ∧ v.cell? ⟨A, 0, none⟩ = some (.int .i64 s.pr) ∧ v.cell? ⟨A, 1, none⟩ = some (.int .i64 s.pn)) (first | go_keep | exact ⟨y0, y1, c0, c1⟩ | exact ⟨z0, z1, k0, k1⟩) ((first | (go_at_call 14; refine (CL.out _).mono ?_; rintro e w2 ⟨rfl, hb2⟩; have z0 := (hb2.cell (p := ⟨w.heap.size, 0, none⟩) (World.block_lt_of_cell? _ _ y0)).trans y0; have z1 := (hb2.cell (p := ⟨w.heap.size, 1, none⟩) (World.block_lt_of_cell? _ _ y1)).trans y1; have k0 := (hb2.cell (p := ⟨A, 0, none⟩) (World.block_lt_of_cell? _ _ c0)).trans c0; have k1 := (hb2.cell (p := ⟨A, 1, none⟩) (World.block_lt_of_cell? _ _ c1)).trans c1; have B2 := hide hb2; clear hb2)))
      have B12 : Hid (Below w.heap.size w w2) := below_step (below_step BU.out B1.out) ((Below.refl _ _).drew.trans B2.out)
      have H2 : Hid (Ac w2 P A mb s) := H1.out.drew.below B2.out
      go_wp2_with fail
      go_ret2
      exact ⟨none, 0, 0, [], rfl, ⟨Chg.of_below B12.out _, H2.out⟩, told_nil _ _, rfl⟩
end Go.Proofs.Ytdnniokpkamjjab
