/- The document's clock: Set. No condition but a size. -/
import Derived.Test.YtoganfdpaagomaaClockRefStop
namespace Go.Proofs.Ytoganfdpaagomaa
open Go.ChangeShapes Go.WideShapes Go.ChangeAt Go.RowKit Cm
set_option linter.unusedVariables false

theorem RMv.trans {w w1 w2 : World} {R : Nat} {a a1 : Option Addr} {s2 : Cs} (hc : Chg (Rb R a) w w1) (m1 : ∀ k, Rb R a1 k → Rb R a k ∨ w.heap.size ≤ k) (h : RMv w1 R a1 s2 w2) : RMv w R a s2 w2 := by
  obtain ⟨hc2, a2, c2, h2, m2⟩ := h
  refine ⟨hc.trans hc2 (fun k hk hm => by rcases m1 k hm with h | h; exact h; omega), a2, c2, h2, fun k hk => ?_⟩
  rcases m2 k hk with h | h
  · exact m1 k h
  · exact .inr (Nat.le_trans hc.size h)
theorem cells2 {w : World} {x y : Value} {t : TypeId} : ∀ j u, [x, y][j]? = some u → (w.alloc (.cells #[x, y] t)).cell? (Addr.add ⟨w.heap.size, 0, none⟩ j) = some u := fun j u hu => by
  rw [Addr.add_lit, Nat.zero_add, cell_of_row _ _ j _ _ _ (heap_alloc_new w _)]
  simpa using hu
section
variable {w : World} {R : Nat} {a : Option Addr} {c : Nat} {s : Cs} {B : Int}
/-- one laid behind the others -/
theorem Rc.pushed {w3 : World} {b cap sets : Nat} {t : Tm} (h : Rc w R a c s) (hc : Chg (fun k => (Value.slice a s.r.length c).ownBlock = some k) w w3)
    (ho : w3.ownsRow 0 61 2 (.slice (some ⟨b, 0, none⟩) (s.r.length + 1) cap) (s.r.length + 1) (rcells s.r ++ t.pair)) (hg : (Value.slice a s.r.length c).ownBlock = some b ∨ w.heap.size ≤ b) (q : Int) :
    RMv w R a ⟨s.now, q, s.r ++ [t]⟩ (w3.setCell ⟨R, 1, none⟩ (.slice (some ⟨b, 0, none⟩) (s.r.length + 1) cap)) := by
  have bR : b ≠ R := by
    rcases hg with hg | hg
    · exact fun e => h.v1 (e ▸ hg)
    · have := h.ltR; omega
  have := h.relist (r' := s.r ++ [t]) (a' := some ⟨b, 0, none⟩) (c' := cap) (hc.mono (fun k _ hk => rb_own hk)) (hc.block R h.ltR h.v1) (by
    rw [rcells_append, show rcells [t] = t.pair by simp [rcells], show (s.r ++ [t]).length = s.r.length + 1 by simp]
    exact ho) (fun k hk hne => by
    rcases hk with hk | hk
    · exact absurd hk hne
    · have ek : b = k := by simpa [Value.ownBlock] using hk
      subst ek
      rcases hg with hg | hg
      · exact .inl (rb_own hg)
      · exact .inr hg) (by simp [Value.ownBlock]; exact bR)
  rw [show (s.r ++ [t]).length = s.r.length + 1 by simp] at this
  obtain ⟨x1, a', c', x2, x3⟩ := this
  exact ⟨x1, a', c', ⟨x2.c0, x2.c1, x2.f, x2.row, x2.v1⟩, x3⟩
set_option maxRecDepth 100000 in
theorem rset_bad (h : Rc w R a c s) (name : ByteArray) (d : Int) (hb : name.size < 1 ∨ 16 < name.size ∨ d < 1 ∨ 2147483647 < d) :
    Calls Try.prog 25 #[.pointer (some ⟨R, 0, none⟩), .string name, .int .i64 d] w fun e w' => e = .returned (.int .i64 1) ∧ w' = w := by
  clear h
  by_cases h1 : name.size < 1
  · have x1 : decide ((name.size : Int) < 1) = true := decide_eq_true (by omega)
    have y1 : ((name.size : Int) < 1) = True := eq_true (by omega)
    clear h1 hb
    go_enter Try.func25, Try.ntmps25
    go_wp2_with fail
    go_ret
    exact ⟨rfl, rfl⟩
  · have x1 : ¬ ((name.size : Int) < 1) := by omega
    have x0 : name.size ≠ 0 := by omega
    by_cases h2 : 16 < name.size
    · have x2 : ((16 : Int) < (name.size : Int)) := by omega
      clear hb h1 h2
      go_enter Try.func25, Try.ntmps25
      go_wp2_with fail
      go_ret
      exact ⟨rfl, rfl⟩
    · have x2 : ¬ ((16 : Int) < (name.size : Int)) := by omega
      by_cases h3 : d < 1
      · clear hb h1 h2
        go_enter Try.func25, Try.ntmps25
        go_wp2_with fail
        go_ret
        exact ⟨rfl, rfl⟩
      · have h4 : 2147483647 < d := by omega
        clear hb h1 h2
        go_enter Try.func25, Try.ntmps25
        go_wp2_with fail
        go_ret
        exact ⟨rfl, rfl⟩
set_option maxRecDepth 100000 in
set_option maxHeartbeats 2000000 in
theorem rset_tail (h : Rc w R a c s) (ok : Ok s B) (hB : B < 1000000000000000000) (name : ByteArray) (d : Int) (hg : ¬ (name.size < 1 ∨ 16 < name.size ∨ d < 1 ∨ 2147483647 < d)) (hh : has s name = true ∨ s.r.length < 64) :
    Calls Try.prog 25 #[.pointer (some ⟨R, 0, none⟩), .string name, .int .i64 d] w fun e w' => e = .returned (.int .i64 0) ∧ RMv w R a (setS s name d) w' := by
  obtain ⟨i0, hi, hz0, hz1, hz2⟩ := info_parts rtinfo
  obtain ⟨o, ho, hc⟩ := rplace_any h ok.len name
  have HO := has_of ho
  have CP := hide hc
  have CS := hide (rstop_any h ok name)
  have c1 := h.c1
  have x1 : ¬ ((name.size : Int) < 1) := by omega
  have x0 : name.size ≠ 0 := by omega
  have x2 : ¬ ((16 : Int) < (name.size : Int)) := by omega
  have x3 : ¬ (d < 1) := by omega
  have x4 : ¬ (2147483647 < d) := by omega
  have h64 := ok.len
  have n0 := ok.n0
  have nB := ok.nB
  have a2 : IntKind.i64.wrap (s.now + d) = s.now + d := by rw [IntKind.wrap_i64]; omega
  have SS := hide (good_E (d := d) hg hh).2
  obtain ⟨t, et⟩ : ∃ t : Tm, t = ⟨name, s.now + d, s.sets + 1⟩ := ⟨_, rfl⟩
  have WL : Hid ((without s.r name).length ≤ 64) := Nat.le_trans (without_le _ _) h64
  have PV : Hid (plV s o < 0 → ¬ ((64 : Int) ≤ (s.r.length : Int))) := fun hp => by
    rcases ho with ⟨i, rfl, hi, en⟩ | ⟨rfl, hn⟩
    · simp [plV] at hp
      omega
    · rcases hh with hh | hh
      · rw [HO] at hh; cases hh
      · omega
  have EP : Hid (t.pair = [.string name, .int .i64 (s.now + d)]) := by rw [et]; rfl
  have TT := hide et
  generalize plV s o = pv at *
  have FI : Hid (∀ w1 a1 cc1, Chg (Rb R a) w w1 → (∀ k, Rb R a1 k → Rb R a k ∨ w.heap.size ≤ k) → Rc w1 R a1 cc1 (stopS s name) → ∀ w5 b cap, w5.ownsRow 0 61 2 (.slice (some ⟨b, 0, none⟩) ((without s.r name).length + 1) cap) ((without s.r name).length + 1) (rcells (without s.r name) ++ t.pair) → (w1.alloc (.cells #[.string name, .int .i64 (s.now + d)] 61)).drew.grownBy w5 (Value.slice a1 (without s.r name).length cc1).ownBlock → ((Value.slice a1 (without s.r name).length cc1).ownBlock = some b ∨ b = (w1.alloc (.cells #[.string name, .int .i64 (s.now + d)] 61)).drew.heap.size) → RMv w R a (setS s name d) (w5.setCell ⟨R, 1, none⟩ (.slice (some ⟨b, 0, none⟩) ((without s.r name).length + 1) cap))) := fun w1 a1 cc1 hc1 m1 r1 w5 b cap h5 g5 hat => by
    refine RMv.trans hc1 m1 ?_
    have ch : Chg (fun k => (Value.slice a1 (stopS s name).r.length cc1).ownBlock = some k) w1 w5 := (Chg.of_below (below_alloc (Below.refl _ _) _).drew _).grown g5 (fun k hk => .inl hk)
    have := r1.pushed (sets := 0) (t := t) ch h5 (by rcases hat with h | h; exact .inl h; exact .inr (by rw [h]; show _ ≤ (w1.alloc _).heap.size; simp)) (s.sets + 1)
    rw [SS.out, ← TT.out]
    exact this
  clear hc ho HO hh hg ok n0 nB et SS
  by_cases hp : pv < 0
  · have y1 := PV.out hp
    clear PV h
    go_enter Try.func25, Try.ntmps25
    go_wp2_with fail
    refine CP.out.mono ?_
    rintro e w1 ⟨rfl, rfl⟩
    go_wp2_with fail
    refine CS.out.mono ?_
    rintro e w2 ⟨rfl, hc2, a1, cc1, r1, m1⟩
    have EL : (stopS s name).r.length = (without s.r name).length := rfl
    have d0 : w2.cell? ⟨R, 0, none⟩ = some (.int .i64 s.now) := r1.c0
    have d1 : w2.cell? ⟨R, 1, none⟩ = some (.slice a1 (without s.r name).length cc1) := r1.c1
    have RA := hide (r1.below (below_alloc (Below.refl _ _) (.cells #[.string name, .int .i64 (s.now + d)] 61)))
    have e1 : (w2.alloc (.cells #[.string name, .int .i64 (s.now + d)] 61)).cell? ⟨R, 1, none⟩ = some (.slice a1 (without s.r name).length cc1) := RA.out.c1
    have e0 : (w2.alloc (.cells #[.string name, .int .i64 (s.now + d)] 61)).cell? ⟨R, 0, none⟩ = some (.int .i64 s.now) := RA.out.c0
    have R1 := hide r1
    have FF := hide (FI.out w2 a1 cc1 hc2 m1 r1)
    have RWA : Hid ((w2.alloc (.cells #[.string name, .int .i64 (s.now + d)] 61)).ownsRow 0 61 2 (.slice a1 (without s.r name).length cc1) (without s.r name).length (rcells (without s.r name))) := RA.out.row
    have VA : Hid ((Value.slice a1 (without s.r name).length cc1).ownBlock ≠ some R ∧ R < w2.heap.size ∧ ∀ o, w2.frozen? ⟨R, o, none⟩ = false) := ⟨r1.v1, r1.ltR, r1.f⟩
    generalize hq : rcells (without s.r name) = rc at FF RWA
    generalize hn : (without s.r name).length = n at *
    have hn64 := WL.out
    clear r1 hc2 m1 EL hn hq c1 R1 RA CS CP FI
    go_wp2_with fail
    go_region_law (refine step_append_where _ (by rfl) (.tmp 42) (.tmp 51) 26 (by rfl) 0 61 i0 (.agg zrt) 2 24 Try.underlying26 hi hz0 hz1 hz2 (by rfl) (by omega) a1 n cc1 (by rfl) rc RWA.out ⟨w2.heap.size, 0, none⟩ 1 1 (by rfl) [.string name, .int .i64 (s.now + d)] (by rfl) cells2 (by intro u hu; simp at hu; rcases hu with rfl | rfl <;> rfl) (by omega) (by unfold maxLen; omega) (by omega) (by omega) ?_; intro b cap w5 hown hgrow hat; have NV : some R ≠ (Value.slice a1 n cc1).ownBlock := (fun e => VA.out.1 e.symm); have d5 : w5.cell? ⟨R, 1, none⟩ = some (.slice a1 n cc1) := hgrow.cell e1 NV; have g5 : w5.frozen? ⟨R, 1, none⟩ = false := (hgrow.frozen_far ⟨R, 1, none⟩ (by simp; exact Nat.lt_succ_of_lt VA.out.2.1) NV).trans ((World.frozen?_alloc_past _ _ _ VA.out.2.1).trans (VA.out.2.2 1)); have FIN := hide (FF.out w5 b cap (by rw [EP.out]; exact hown) hgrow hat); clear hown hgrow hat NV)
    all_goals (go_wp2_with fail; go_ret; exact ⟨rfl, FIN.out⟩)
  · have y1 : ¬ (pv < 0) := hp
    clear PV h
    go_enter Try.func25, Try.ntmps25
    go_wp2_with fail
    refine CP.out.mono ?_
    rintro e w1 ⟨rfl, rfl⟩
    go_wp2_with fail
    refine CS.out.mono ?_
    rintro e w2 ⟨rfl, hc2, a1, cc1, r1, m1⟩
    have EL : (stopS s name).r.length = (without s.r name).length := rfl
    have d0 : w2.cell? ⟨R, 0, none⟩ = some (.int .i64 s.now) := r1.c0
    have d1 : w2.cell? ⟨R, 1, none⟩ = some (.slice a1 (without s.r name).length cc1) := r1.c1
    have RA := hide (r1.below (below_alloc (Below.refl _ _) (.cells #[.string name, .int .i64 (s.now + d)] 61)))
    have e1 : (w2.alloc (.cells #[.string name, .int .i64 (s.now + d)] 61)).cell? ⟨R, 1, none⟩ = some (.slice a1 (without s.r name).length cc1) := RA.out.c1
    have e0 : (w2.alloc (.cells #[.string name, .int .i64 (s.now + d)] 61)).cell? ⟨R, 0, none⟩ = some (.int .i64 s.now) := RA.out.c0
    have R1 := hide r1
    have FF := hide (FI.out w2 a1 cc1 hc2 m1 r1)
    have RWA : Hid ((w2.alloc (.cells #[.string name, .int .i64 (s.now + d)] 61)).ownsRow 0 61 2 (.slice a1 (without s.r name).length cc1) (without s.r name).length (rcells (without s.r name))) := RA.out.row
    have VA : Hid ((Value.slice a1 (without s.r name).length cc1).ownBlock ≠ some R ∧ R < w2.heap.size ∧ ∀ o, w2.frozen? ⟨R, o, none⟩ = false) := ⟨r1.v1, r1.ltR, r1.f⟩
    generalize hq : rcells (without s.r name) = rc at FF RWA
    generalize hn : (without s.r name).length = n at *
    have hn64 := WL.out
    clear r1 hc2 m1 EL hn hq c1 R1 RA CS CP FI
    go_wp2_with fail
    go_region_law (refine step_append_where _ (by rfl) (.tmp 42) (.tmp 51) 26 (by rfl) 0 61 i0 (.agg zrt) 2 24 Try.underlying26 hi hz0 hz1 hz2 (by rfl) (by omega) a1 n cc1 (by rfl) rc RWA.out ⟨w2.heap.size, 0, none⟩ 1 1 (by rfl) [.string name, .int .i64 (s.now + d)] (by rfl) cells2 (by intro u hu; simp at hu; rcases hu with rfl | rfl <;> rfl) (by omega) (by unfold maxLen; omega) (by omega) (by omega) ?_; intro b cap w5 hown hgrow hat; have NV : some R ≠ (Value.slice a1 n cc1).ownBlock := (fun e => VA.out.1 e.symm); have d5 : w5.cell? ⟨R, 1, none⟩ = some (.slice a1 n cc1) := hgrow.cell e1 NV; have g5 : w5.frozen? ⟨R, 1, none⟩ = false := (hgrow.frozen_far ⟨R, 1, none⟩ (by simp; exact Nat.lt_succ_of_lt VA.out.2.1) NV).trans ((World.frozen?_alloc_past _ _ _ VA.out.2.1).trans (VA.out.2.2 1)); have FIN := hide (FF.out w5 b cap (by rw [EP.out]; exact hown) hgrow hat); clear hown hgrow hat NV)
    all_goals (go_wp2_with fail; go_ret; exact ⟨rfl, FIN.out⟩)
set_option maxRecDepth 100000 in
theorem rset_full (h : Rc w R a c s) (ok : Ok s B) (name : ByteArray) (d : Int) (hh : has s name = false) (hr : 64 ≤ s.r.length) (hg : ¬ (name.size < 1 ∨ 16 < name.size ∨ d < 1 ∨ 2147483647 < d)) :
    Calls Try.prog 25 #[.pointer (some ⟨R, 0, none⟩), .string name, .int .i64 d] w fun e w' => e = .returned (.int .i64 3) ∧ w' = w := by
  obtain ⟨o, ho, hc⟩ := rplace_any h ok.len name
  have HO := has_of ho
  have c1 := h.c1
  have x1 : ¬ ((name.size : Int) < 1) := by omega
  have x0 : name.size ≠ 0 := by omega
  have x2 : ¬ ((16 : Int) < (name.size : Int)) := by omega
  have x3 : ¬ (d < 1) := by omega
  have x4 : ¬ (2147483647 < d) := by omega
  have x5 : (64 : Int) ≤ (s.r.length : Int) := by omega
  cases o with
  | some i => rw [hh] at HO; cases HO
  | none =>
    have CP : Hid (Calls Try.prog 30 #[.pointer (some ⟨R, 0, none⟩), .string name] w fun e w' => e = .returned (.int .i64 (-1)) ∧ w' = w) := hc
    clear hc ho HO hh hg ok h hr
    go_enter Try.func25, Try.ntmps25
    go_wp2_with fail
    refine CP.out.mono ?_
    rintro e w1 ⟨rfl, rfl⟩
    go_wp2_with fail
    go_ret
    exact ⟨rfl, rfl⟩
theorem rset_any (h : Rc w R a c s) (ok : Ok s B) (hB : B < 1000000000000000000) (name : ByteArray) (d : Int) :
    Calls Try.prog 25 #[.pointer (some ⟨R, 0, none⟩), .string name, .int .i64 d] w fun e w' => e = .returned (.int .i64 (setE s name d)) ∧ RMv w R a (setS s name d) w' := by
  by_cases hg : name.size < 1 ∨ 16 < name.size ∨ d < 1 ∨ 2147483647 < d
  · obtain ⟨e1, e2⟩ := bad_E (s := s) hg
    rw [e1, e2]
    exact (rset_bad h name d hg).mono fun e w' ⟨x, y⟩ => ⟨x, by rw [y]; exact RMv.stay h⟩
  · by_cases hh : has s name = true ∨ s.r.length < 64
    · rw [(good_E hg hh).1]
      exact rset_tail h ok hB name d hg hh
    · have h1 : has s name = false := by
        cases hx : has s name
        · rfl
        · exact absurd (.inl hx) hh
      have h2 : 64 ≤ s.r.length := by
        have : ¬ s.r.length < 64 := fun hx => hh (.inr hx)
        omega
      obtain ⟨e1, e2⟩ := full_E (d := d) hg h1 h2
      rw [e1, e2]
      exact (rset_full h ok name d h1 h2 hg).mono fun e w' ⟨x, y⟩ => ⟨x, by rw [y]; exact RMv.stay h⟩
end
end Go.Proofs.Ytoganfdpaagomaa
