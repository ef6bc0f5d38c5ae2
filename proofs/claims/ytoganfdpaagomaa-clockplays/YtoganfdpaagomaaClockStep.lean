/- The law folder's step: a call on both clocks, ours and the document's. No condition. -/
import Derived.Test.YtoganfdpaagomaaClockRefNm
import Derived.Test.YtoganfdpaagomaaClockPlain
import Derived.Deep.RegionHeld3
namespace Go.Proofs.Ytoganfdpaagomaa
open Go.ChangeShapes Go.WideShapes Go.ChangeAt Go.RowKit Cm
set_option linter.unusedVariables false

/-- both clocks at the same state, with no block in common -/
structure BothL (w : World) (N0 D R : Nat) (L : Ql) (a : Option Addr) (c : Nat) (s : Cs) (B : Int) : Prop where
  cl : Cl w D L s B
  rc : Rc w R a c s
  nd : ∀ k, Cb D L k → N0 ≤ k
  nr : ∀ k, Rb R a k → N0 ≤ k
  dis : ∀ k, Cb D L k → ¬ Rb R a k
def Both (w : World) (N0 D R : Nat) (s : Cs) (B : Int) : Prop := ∃ L a c, BothL w N0 D R L a c s B
section
variable {w w1 w' : World} {N0 D R : Nat} {L : Ql} {a : Option Addr} {c : Nat} {s s' : Cs} {B B' : Int}
theorem BothL.below (h : BothL w N0 D R L a c s B) (hb : Below w.heap.size w w') : BothL w' N0 D R L a c s B := ⟨h.cl.below hb, h.rc.below hb, h.nd, h.nr, h.dis⟩
theorem BothL.mono (h : BothL w N0 D R L a c s B) (hb : B ≤ B') : BothL w N0 D R L a c s B' := ⟨h.cl.mono hb, h.rc, h.nd, h.nr, h.dis⟩
/-- a call on ours, then one on the document's -/
structure Half (w w1 : World) (N0 D R : Nat) (L : Ql) (a : Option Addr) (c : Nat) (s s' : Cs) (B' : Int) : Prop where
  rc : Rc w1 R a c s
  next : ∀ w2, RMv w1 R a s' w2 → Both w2 N0 D R s' B' ∧ Below N0 w w2
  size : w.heap.size ≤ w1.heap.size
theorem BothL.half (h : BothL w N0 D R L a c s B) (hN : N0 ≤ w.heap.size) (m : CMv w D L s' B' w1) : Half w w1 N0 D R L a c s s' B' := by
  obtain ⟨hc, L1, h1, m1⟩ := m
  have dd : ∀ k, Cb D L1 k → ¬ Rb R a k := fun k hk hr => by
    rcases m1 k hk with h2 | h2
    · exact h.dis k h2 hr
    · have := h.rc.lt k hr; omega
  refine ⟨h.rc.far hc (fun k hk hb => h.dis k hb hk), fun w2 m2 => ?_, hc.size⟩
  obtain ⟨hc2, a2, c2, r2, m2⟩ := m2
  refine ⟨⟨L1, a2, c2, h1.far hc2 dd, r2, fun k hk => ?_, fun k hk => ?_, fun k hk hr => ?_⟩, (hc.below hN h.nd).trans (hc2.below (Nat.le_trans hN hc.size) h.nr)⟩
  · rcases m1 k hk with h2 | h2
    · exact h.nd k h2
    · omega
  · rcases m2 k hk with h2 | h2
    · exact h.nr k h2
    · have := hc.size; omega
  · rcases m2 k hr with h2 | h2
    · exact dd k hk h2
    · have := h1.lt k hk; omega
theorem tick_cmv {e : Ending} (h : TickP w D L s B e w1) : CMv w D L (tickS s) (B + 1) w1 := by
  obtain ⟨a, c, rfl, _, hc, L', h1, h2, _⟩ := h
  exact ⟨hc, L', h1, h2⟩
theorem Both.below (h : Both w N0 D R s B) (hb : Below w.heap.size w w') : Both w' N0 D R s B := by
  obtain ⟨L, a, c, h⟩ := h
  exact ⟨L, a, c, h.below hb⟩
theorem Both.mono (h : Both w N0 D R s B) (hb : B ≤ B') : Both w N0 D R s B' := by
  obtain ⟨L, a, c, h⟩ := h
  exact ⟨L, a, c, h.mono hb⟩
end
theorem BothL.drew {w : World} {N0 D R : Nat} {L : Ql} {a : Option Addr} {c : Nat} {s : Cs} {B : Int} (h : BothL w N0 D R L a c s B) : BothL w.drew N0 D R L a c s B := h.below (Below.refl _ _).drew
theorem cell_kept {M : Nat → Prop} {w w1 : World} (hc : Chg M w w1) {x o : Nat} (hx : x < w.heap.size) (hn : ¬ M x) : w1.cell? ⟨x, o, none⟩ = w.cell? ⟨x, o, none⟩ := World.cell?_of_block (a := ⟨x, o, none⟩) (hc.block x hx hn)
theorem step_below {w w1 w2 : World} {N0 : Nat} (hN : N0 ≤ w.heap.size) (h1 : Below w.heap.size w w1) (h2 : Below N0 w1 w2) : Below N0 w w2 := (h1.mono hN).trans h2
/-- what lies behind the box of the call -/
structure Bx (w wb : World) (x : Nat) (kind d : Int) (name : ByteArray) : Prop where
  k0 : wb.cell? ⟨x, 0, none⟩ = some (.int .i64 kind)
  k1 : wb.cell? ⟨x, 1, none⟩ = some (.string name)
  k2 : wb.cell? ⟨x, 2, none⟩ = some (.int .i64 d)
  b : Below w.heap.size w wb
  lt : x < wb.heap.size
theorem bx_made (w : World) (kind d : Int) (name : ByteArray) (ty : TypeId) : Bx w (w.alloc (.cells #[.int .i64 kind, .string name, .int .i64 d] ty)) w.heap.size kind d name := by
  have N := heap_alloc_new w (.cells #[.int .i64 kind, .string name, .int .i64 d] ty)
  exact ⟨by rw [cell_of_row _ _ 0 _ _ _ N]; rfl, by rw [cell_of_row _ _ 1 _ _ _ N]; rfl, by rw [cell_of_row _ _ 2 _ _ _ N]; rfl, below_alloc (Below.refl _ _) _, by simp⟩
set_option maxRecDepth 100000 in
set_option maxHeartbeats 1000000 in
theorem step_any {w : World} {N0 D R : Nat} {s : Cs} {B : Int} (h : Both w N0 D R s B) (hN : N0 ≤ w.heap.size) (hB : B < 1000000000000000000) (kind : Int) (name : ByteArray) (d : Int) (sz : name.size ≤ maxLen) :
    Calls Try.prog 10 #[.pointer (some ⟨D, 0, none⟩), .pointer (some ⟨R, 0, none⟩), .agg #[.int .i64 kind, .string name, .int .i64 d]] w fun e w' => e = .returned (.bool true) ∧ Below N0 w w' ∧ Both w' N0 D R (stepS s ⟨kind, name, d⟩) (B + 1) := by
  obtain ⟨L, a, c, hL⟩ := h
  have HN : Hid (N0 ≤ w.heap.size) := hN
  have HB : Hid (B < 1000000000000000000) := hB
  have SZ : Hid (name.size ≤ maxLen) := sz
  have OK := hide hL.cl.ok
  have BX := hide (bx_made w kind d name 32)
  have H := hide (hL.below BX.out.b)
  have NX : Hid (¬ Cb D L w.heap.size) := fun hx => by have := hL.cl.lt _ hx; omega
  have NR : Hid (¬ Rb R a w.heap.size) := fun hx => by have := hL.rc.lt _ hx; omega
  have HN1 : Hid (N0 ≤ (w.alloc (.cells #[.int .i64 kind, .string name, .int .i64 d] 32)).heap.size) := Nat.le_trans hN BX.out.b.size
  have FI : Hid (∀ w5 s' B', B' ≤ B + 1 → Both w5 N0 D R s' B' ∧ Below N0 (w.alloc (.cells #[.int .i64 kind, .string name, .int .i64 d] 32)) w5 → Below N0 w w5 ∧ Both w5 N0 D R s' (B + 1)) := fun w5 s' B' hb h5 => ⟨step_below hN BX.out.b h5.2, h5.1.mono hb⟩
  clear hL hN hB sz
  go_enter Try.func10, Try.ntmps10
  by_cases k1 : kind = 1
  · subst k1
    go_wp2_with fail
    generalize w.alloc (.cells #[.int .i64 1, .string name, .int .i64 d] 32) = wb at *
    generalize w.heap.size = x at BX NX NR ⊢
    have o1 := BX.out.k1
    have LX : Hid (x < wb.heap.size) := BX.out.lt
    have CS := hide (stop_any H.out.drew.cl name SZ.out)
    have ES := hide (show stepS s ⟨1, name, d⟩ = stopS s name by simp [stepS])
    go_region_held3 (fun u => u.cell? ⟨x, 1, none⟩ = some (.string name)) (first | go_keep | exact o1 | exact q1 | exact r1) ((first | (go_at_call 21; refine CS.out.mono ?_; rintro e w4 ⟨rfl, hmv⟩; have HF := hide (H.out.drew.half HN1.out hmv); have q1 : w4.cell? ⟨x, 1, none⟩ = some (.string name) := (cell_kept hmv.1 LX.out NX.out).trans o1; have LQ : Hid (x < w4.heap.size) := Nat.lt_of_lt_of_le LX.out hmv.1.size; have CR := hide (rstop_any HF.out.rc OK.out name); clear hmv) | (go_at_call 23; refine CR.out.mono ?_; rintro e w5 ⟨rfl, hrm⟩; have FIN := hide (HF.out.next _ hrm); have r1 : w5.cell? ⟨x, 1, none⟩ = some (.string name) := (cell_kept hrm.1 LQ.out NR.out).trans q1; clear hrm)))
    go_wp2_with fail
    go_ret
    refine ⟨by simp, ?_⟩
    rw [ES.out]
    exact FI.out _ _ _ (by omega) ⟨FIN.out.1, (Below.refl _ _).drew.trans FIN.out.2⟩
  · have z1 : (kind == 1) = false := by simpa using k1
    by_cases k2 : kind = 2
    · subst k2
      clear k1
      go_wp2_with fail
      generalize w.alloc (.cells #[.int .i64 2, .string name, .int .i64 d] 32) = wb at *
      have ES := hide (show stepS s ⟨2, name, d⟩ = tickS s by simp [stepS])
      have TL : Hid ((tickN s).length ≤ 1000) := by
        show _ ≤ _
        have h1 := OK.out.len
        have h2 := List.length_filter_le (nowDue (s.now + 1)) s.r
        unfold tickN
        rw [names_length]
        omega
      have CT := hide (tick_any H.out.cl HB.out)
      clear z1 BX NX NR
      refine CT.out.mono ?_
      intro e w4 ht
      have HF := hide (H.out.half HN1.out (tick_cmv ht))
      obtain ⟨a4, c4, rfl, TD, hc4, L4, hcl4, m4, off4⟩ := ht
      have CR := hide (rtick_any HF.out.rc OK.out HB.out)
      have TD4 := hide TD
      have NR4 : Hid (∀ k, (Value.slice a4 (tickN s).length c4).ownBlock = some k → ¬ Rb R a k) := fun k hk hr => by have := (TD.lt k hk).1; have := H.out.rc.lt k hr; omega
      clear TD hc4 hcl4 m4 off4 CT
      go_wp2_with fail
      refine CR.out.mono ?_
      intro e w5 ht
      obtain ⟨a5, c5, rfl, TD5, hrm⟩ := ht
      have FIN := hide (HF.out.next _ hrm)
      have T45 : Told w5 wb.heap.size (.slice a4 (tickN s).length c4) (tickN s) := TD4.out.same (fun k hk => hrm.1.block k (TD4.out.lt k hk).2 (NR4.out k hk))
      have PL := hide (plain_same (c1 := c4) (c2 := c5) (T45.strl rfl) (TD5.strl rfl) TL.out)
      clear T45 TD5 hrm CR
      go_wp2_with fail
      refine PL.out.mono ?_
      rintro e w6 ⟨rfl, hb6⟩
      have F6 := hide (And.intro (FIN.out.1.below hb6) (FIN.out.2.trans (hb6.mono (Nat.le_trans HN1.out FIN.out.2.size))))
      clear hb6 PL
      go_wp2_with fail
      go_ret
      refine ⟨rfl, ?_⟩
      rw [ES.out]
      exact FI.out _ _ _ (by omega) F6.out
    · have z2 : (kind == 2) = false := by simpa using k2
      have ES := hide (show stepS s ⟨kind, name, d⟩ = setS s name d by simp [stepS, k1, k2])
      clear k1 k2
      go_wp2_with fail
      generalize w.alloc (.cells #[.int .i64 kind, .string name, .int .i64 d] 32) = wb at *
      generalize w.heap.size = x at BX NX NR ⊢
      have o1 := BX.out.k1
      have o2 := BX.out.k2
      have LX : Hid (x < wb.heap.size) := BX.out.lt
      have CS := hide (set_any H.out.drew.cl HB.out name d)
      go_region_held3 (fun u => u.cell? ⟨x, 1, none⟩ = some (.string name) ∧ u.cell? ⟨x, 2, none⟩ = some (.int .i64 d)) (first | go_keep | exact ⟨o1, o2⟩ | exact ⟨q1, q2⟩ | exact ⟨r1, r2⟩) ((first | (go_at_call 18; refine CS.out.mono ?_; rintro e w4 ⟨rfl, hmv⟩; have HF := hide (H.out.drew.half HN1.out hmv); have q1 : w4.cell? ⟨x, 1, none⟩ = some (.string name) := (cell_kept hmv.1 LX.out NX.out).trans o1; have q2 : w4.cell? ⟨x, 2, none⟩ = some (.int .i64 d) := (cell_kept hmv.1 LX.out NX.out).trans o2; have LQ : Hid (x < w4.heap.size) := Nat.lt_of_lt_of_le LX.out hmv.1.size; have CR := hide (rset_any HF.out.rc OK.out HB.out name d); clear hmv) | (go_at_call 25; refine CR.out.mono ?_; rintro e w5 ⟨rfl, hrm⟩; have FIN := hide (HF.out.next _ hrm); have r1 : w5.cell? ⟨x, 1, none⟩ = some (.string name) := (cell_kept hrm.1 LQ.out NR.out).trans q1; have r2 : w5.cell? ⟨x, 2, none⟩ = some (.int .i64 d) := (cell_kept hrm.1 LQ.out NR.out).trans q2; clear hrm)))
      go_wp2_with fail
      go_ret
      refine ⟨by simp, ?_⟩
      rw [ES.out]
      exact FI.out _ _ _ (by omega) ⟨FIN.out.1, (Below.refl _ _).drew.trans FIN.out.2⟩
end Go.Proofs.Ytoganfdpaagomaa
