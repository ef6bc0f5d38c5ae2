/- The landed disk's Crash and Start. No condition. -/
import Derived.Test.YtfkclebngldjmaaDiskTear
namespace Go.Proofs.Ytfkclebngldjmaa
open Go.ChangeShapes Go.WideShapes Go.ChangeAt Go.RowKit B8 Dm
set_option linter.unusedVariables false

/-- a list of ints stays where its block has not turned -/
theorem sqI_same {w w' : World} {a : Option Addr} {n cp : Nat} {zs : List Int} (q : I8.Sq w a n cp zs) (hb : 0 < n → ∀ b off, a = some ⟨b, off, none⟩ → b < w.heap.size → w'.heap[b]? = w.heap[b]?) : I8.Sq w' a n cp zs :=
  ⟨q.length, q.lecap, q.nil, fun h0 => by
    obtain ⟨b, off, e, hc⟩ := q.cells h0
    exact ⟨b, off, e, fun j hj => (World.cell?_of_block (w := w) (a := ⟨b, off + j, none⟩) (hb h0 b off e (World.block_lt_of_cell? w _ (hc j hj)))).trans (hc j hj)⟩, q.wf⟩
theorem sqI_chg {w w' : World} {a : Option Addr} {n cp : Nat} {zs : List Int} {L : Nat → Prop} (q : I8.Sq w a n cp zs) (hc : Chg L w w') (hb : 0 < n → ∀ b off, a = some ⟨b, off, none⟩ → ¬ L b) : I8.Sq w' a n cp zs :=
  sqI_same q (fun h0 b off e hl => hc.block b hl (hb h0 b off e))

theorem crash_any {w : World} {D : Nat} {s : Ds} {L : Nat → Prop} (h : Dsk w D s L) (hr : s.ws.length < 4000000000000) {ka : Option Addr} {kl kc : Nat} {ks : List Int} (q : I8.Sq w ka kl kc ks) (hq : 0 < kl → ∀ b off, ka = some ⟨b, off, none⟩ → ¬ L b) (hkl : kl ≤ 140737488355328) :
    Calls Try.prog 23 #[.pointer (some ⟨D, 0, none⟩), .slice ka kl kc] w fun e w' => e = .returned (.int .i64 0) ∧ Mv w D L (crashS s ks) w' := by
  obtain ⟨gk, ck, gs, cs, av, m, cv, h, hl⟩ := h
  have c4 := h.c4
  have f4 := h.f 4
  have hc := (Chg.refl L w).setCell (p := ⟨D, 4, none⟩) (.inl (hl D (.inl rfl))) (.bool true)
  have T := hide (tear_main (h.setD true) (by rw [h.len]; exact hr) (sqI_chg q hc hq) (fun h0 b off e => ⟨fun e2 => hq h0 b off e (by rw [e2]; exact hl gk (.inr (.inl rfl))), fun e2 => hq h0 b off e (by rw [e2]; exact hl gs (.inr (.inr (.inl rfl))))⟩) hkl)
  have HC := hide hc
  have HL := hide hl
  clear h hl q hq hc
  go_enter Try.func23, Try.ntmps23
  go_wp2_with fail
  refine T.out.mono ?_
  rintro e w1 ⟨rfl, hc1, hk1⟩
  have C1 := hide hc1
  have K1 := hide hk1
  clear hc1 hk1
  go_wp2_with fail
  go_ret
  refine ⟨rfl, HC.out.trans C1.out (fun k _ hk => HL.out k hk), gk, ck, gs, cs, none, 0, 0, K1.out, fun k hk => .inl ?_⟩
  rcases hk with rfl | rfl | rfl | hk
  · exact HL.out _ (.inl rfl)
  · exact HL.out _ (.inr (.inl rfl))
  · exact HL.out _ (.inr (.inr (.inl rfl)))
  · simp [Value.ownBlock] at hk
theorem sqI_nil (w : World) : I8.Sq w none 0 0 [] := ⟨rfl, Nat.le_refl _, fun _ => rfl, fun h => absurd h (by omega), I8.wfs_nil⟩
theorem start_any {w : World} {D : Nat} {s : Ds} {L : Nat → Prop} (h : Dsk w D s L) (hr : s.ws.length < 4000000000000) :
    Calls Try.prog 17 #[.pointer (some ⟨D, 0, none⟩)] w fun e w' => e = .returned (.int .i64 0) ∧ Mv w D L (startS s) w' := by
  obtain ⟨gk, ck, gs, cs, av, m, cv, h, hl⟩ := h
  have c4 := h.c4
  have HL := hide hl
  cases hd : s.down with
  | false =>
    rw [hd] at c4
    have e1 : Hid (startS s = s) := by show _ = _; unfold startS; rw [hd]; rfl
    have H := hide h
    clear h hl hd
    go_enter Try.func17, Try.ntmps17
    go_wp2_with fail
    go_ret
    rw [e1.out]
    exact ⟨rfl, Chg.refl _ _, gk, ck, gs, cs, av, m, cv, H.out, fun k hk => .inl (HL.out k hk)⟩
  | true =>
    rw [hd] at c4
    have T := hide (tear_main h (by rw [h.len]; exact hr) (sqI_nil w) (fun _ b off e => by cases e) (by omega))
    have e1 : Hid (startS s = { s with ws := [], left := 0, down := false }) := by show _ = _; unfold startS; rw [hd]; rfl
    have e2 : Hid (torn s.kept [] 0 s.ws = s.kept) := torn_past [] s.ws s.kept 0 (by simp)
    rw [e2.out] at T
    clear h hl hd
    go_enter Try.func17, Try.ntmps17
    go_wp2_with fail
    refine T.out.mono ?_
    rintro e w1 ⟨rfl, hc1, hk1⟩
    have C1 := hide hc1
    have K1 := hide hk1
    have d3 := hk1.c3
    have d4 := hk1.c4
    have f3 := hk1.f 3
    have f4 := hk1.f 4
    clear hc1 hk1
    go_wp2_with fail
    go_ret
    rw [e1.out]
    refine ⟨rfl, (((Chg.refl L _).trans C1.out (fun k _ hk => HL.out k hk)).setCell (p := ⟨D, 3, none⟩) (.inl (HL.out D (.inl rfl))) _).setCell (p := ⟨D, 4, none⟩) (.inl (HL.out D (.inl rfl))) _, gk, ck, gs, cs, none, 0, 0, (K1.out.setL 0 (by omega) (by omega)).setD false, fun k hk => .inl ?_⟩
    rcases hk with rfl | rfl | rfl | hk
    · exact HL.out _ (.inl rfl)
    · exact HL.out _ (.inr (.inl rfl))
    · exact HL.out _ (.inr (.inr (.inl rfl)))
    · simp [Value.ownBlock] at hk
end Go.Proofs.Ytfkclebngldjmaa
