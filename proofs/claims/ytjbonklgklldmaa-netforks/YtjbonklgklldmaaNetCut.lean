/- The landed net's Cut and Heal. No condition but that the map has room. -/
import Derived.Test.YtjbonklgklldmaaNetSmall
import Derived.Deep.RegionWith
import Derived.Deep.DeepCutAuto
namespace Go.Proofs.Ytjbonklgklldmaa
open Go.ChangeShapes Go.WideShapes Go.ChangeAt Go.RowKit B8 Nm
set_option linter.unusedVariables false

theorem pkey_inj {a b c d : Int} (wa : (Lit.int .i64 a).wf = true) (wb : (Lit.int .i64 b).wf = true) (wc : (Lit.int .i64 c).wf = true) (wd : (Lit.int .i64 d).wf = true) (h : pkey a b = pkey c d) : a = c ∧ b = d := by
  have h1 := keyOf_pair wa wb
  have h2 := keyOf_pair wc wd
  rw [← h] at h2
  have := pairKeyed.inj h1 h2
  simpa using this
theorem cuts_put {w : World} {mb kk : Nat} {cuts : List (Int × Int)} (h : Cuts w mb kk cuts) (hk : kk < maxLen) {a b : Int} (wa : (Lit.int .i64 (min a b)).wf = true) (wb : (Lit.int .i64 (max a b)).wf = true) :
    ∃ w', (Instr.mapUpdate 52 (.map (some mb)) (.agg #[.int .i64 (min a b), .int .i64 (max a b)]) (.agg #[])).run Try.prog w = .ok () w' ∧ Cuts w' mb (kk + 1) (cuts ++ [(a, b)]) ∧ w.grownBy w' (some mb) := by
  obtain ⟨D, hown, hD⟩ := h
  obtain ⟨w', hr, ho, hg⟩ := hown.update pairKeyed Try.underlying52 hk (keyOf_pair wa wb) unitElem_mk
  refine ⟨w', hr, ⟨_, ho, fun lo hi wl wh => ?_⟩, hg⟩
  by_cases e : pkey lo hi = pkey (min a b) (max a b)
  · obtain ⟨rfl, rfl⟩ := pkey_inj wl wh wa wb e
    rw [Maps.has_put_same hown.isMap (pairKeyed.key (keyOf_pair wa wb))]
    simp
  · rw [Maps.has_put_other e, hD lo hi wl wh]
    have : ¬ (min a b = lo ∧ max a b = hi) := fun ⟨e1, e2⟩ => e (by rw [e1, e2])
    simp [this]
theorem cuts_look {w : World} {mb kk : Nat} {cuts : List (Int × Int)} (h : Cuts w mb kk cuts) {a b : Int} (wa : (Lit.int .i64 (min a b)).wf = true) (wb : (Lit.int .i64 (max a b)).wf = true) :
    (Instr.lookup 52 (.map (some mb)) (.agg #[.int .i64 (min a b), .int .i64 (max a b)]) true).run Try.prog w = .ok (.tuple #[.agg #[], .bool (cuts.any fun p => decide (p = (a, b)) || decide (p = (b, a)))]) w := by
  obtain ⟨D, hown, hD⟩ := h
  obtain ⟨v, ps, hr, hv⟩ := hown.look_ok pairKeyed Try.underlying52 (z := .agg #[]) (by kernel_rfl) unitElem_mk (keyOf_pair wa wb)
  obtain ⟨rfl, _⟩ := unitElem_inv hv
  have e : (cuts.any fun p => decide (min p.1 p.2 = min a b ∧ max p.1 p.2 = max a b)) = cuts.any fun p => decide (p = (a, b)) || decide (p = (b, a)) := by
    congr 1
    funext p
    obtain ⟨x, y⟩ := p
    simp only [Prod.mk.injEq, ← Bool.decide_or, decide_eq_decide]
    omega
  rw [hr, hD _ _ wa wb, e]
theorem cuts_clear {w : World} {mb kk : Nat} {cuts : List (Int × Int)} (h : Cuts w mb kk cuts) (ty : TypeId) :
    ∃ w', (Builtin.clear_ #[52] ty #[.map (some mb)]).run Try.prog w = .ok (.tuple #[]) w' ∧ Cuts w' mb kk [] ∧ w.grownBy w' (some mb) := by
  obtain ⟨D, ⟨es, clock, hb, F, hs, hD0⟩, hD⟩ := h
  refine ⟨ChangeMaps.setBlock w mb (.map #[] clock), ?_, ⟨.map [], ⟨#[], clock, ?_, ⟨by simp, MapKept.stamped_empty clock, by simp⟩, Nat.zero_le _, rfl⟩, fun lo hi _ _ => rfl⟩, ⟨rfl, rfl, rfl, by simp [ChangeMaps.setBlock], fun i _ hi => ChangeMaps.heap_setBlock_other hb _ (fun e => hi (by rw [e]))⟩⟩
  · simp [Builtin.clear_, run_underlying Try.underlying52, MapKept.run_getObj_map hb, MapKept.run_setObj_map _ hb, Result.andThen, ChangeMaps.setBlock]
  · exact ChangeMaps.heap_setBlock_same hb _
/-- only the map has turned -/
theorem Nt.recut {w w' : World} {L : Lay} {kk k2 : Nat} {s : Ns} {cs : List (Int × Int)} (h : Nt w L kk s) (hg : w.grownBy w' (some L.mb)) (hc : Cuts w' L.mb k2 cs) : Nt w' L k2 { s with cuts := cs } := by
  have hb : ∀ k, k < w.heap.size → k ≠ L.mb → w'.heap[k]? = w.heap[k]? := fun k hk hn => hg.block k hk (fun e => hn (Option.some.inj e))
  have eN := hb L.N h.ltN h.mN.symm
  have c : ∀ o, w'.cell? ⟨L.N, o, none⟩ = w.cell? ⟨L.N, o, none⟩ := fun o => World.cell?_of_block (a := ⟨L.N, o, none⟩) eN
  exact ⟨(c 0).trans h.c0, (c 1).trans h.c1, (c 2).trans h.c2, fun o => (World.frozen?_of_block (a := ⟨L.N, o, none⟩) eN).trans (h.f o), row_same h.row (fun k hk => hb k (h.row.lt k hk).2 (fun e => h.vM (e ▸ hk))), h.len, h.ps, fun p hp => (h.ins p hp).same hg.size (fun ad e => hb _ ((h.ins p hp).2 ad e) (fun e2 => h.dis L.mb (.inr (.inl rfl)) ⟨p, hp, ad, e, e2⟩)), hc, h.v1, h.dis, ⟨h.ok.lo, h.ok.hi, h.ok.most, h.ok.body⟩⟩
theorem has_wf {s : Ns} {x : Int} (h : hasB s x = true) (h5 : s.n ≤ 5) : 1 ≤ x ∧ x ≤ 5 := by
  simp [hasB] at h
  omega
set_option maxRecDepth 100000 in
theorem cut_any {w : World} {L : Lay} {kk : Nat} {s : Ns} (h : Nt w L kk s) (hk : kk < maxLen) (a b : Int) :
    Calls Try.prog 13 #[.pointer (some ⟨L.N, 0, none⟩), .int .i64 a, .int .i64 b] w fun e w' => e = .returned (.int .i64 (cutE s a b)) ∧ Mv w L (kk + 1) (cutS s a b) w' := by
  have H := hide h
  have CA := hide (has_net h a)
  have CB := hide (has_net h b)
  cases ha : hasB s a with
  | false =>
    have e1 : Hid (cutE s a b = 1) := by show _ = _; simp [cutE, ha]
    have e2 : Hid (cutS s a b = s) := by show _ = _; simp [cutS, e1.out]
    rw [ha] at CA
    clear h ha
    go_enter Try.func13, Try.ntmps13
    go_wp2_with fail
    refine CA.out.mono ?_
    rintro e w1 ⟨rfl, rfl⟩
    go_wp2_with fail
    go_ret
    rw [e1.out, e2.out]
    exact ⟨rfl, Mv.stay (H.out.mono (Nat.le_succ _))⟩
  | true =>
    rw [ha] at CA
    cases hb : hasB s b with
    | false =>
      have e1 : Hid (cutE s a b = 1) := by show _ = _; simp [cutE, hb]
      have e2 : Hid (cutS s a b = s) := by show _ = _; simp [cutS, e1.out]
      rw [hb] at CB
      clear h ha hb
      go_enter Try.func13, Try.ntmps13
      go_wp2_with fail
      refine CA.out.mono ?_
      rintro e w1 ⟨rfl, rfl⟩
      go_wp2_with fail
      refine CB.out.mono ?_
      rintro e w1 ⟨rfl, rfl⟩
      go_wp2_with fail
      go_ret
      rw [e1.out, e2.out]
      exact ⟨rfl, Mv.stay (H.out.mono (Nat.le_succ _))⟩
    | true =>
      rw [hb] at CB
      by_cases hab : a = b
      · have e1 : Hid (cutE s a b = 1) := by show _ = _; simp [cutE, hab]
        have e2 : Hid (cutS s a b = s) := by show _ = _; simp [cutS, e1.out]
        have hx : (a == b) = true := by simp [hab]
        clear h ha hb
        subst hab
        go_enter Try.func13, Try.ntmps13
        go_wp2_with fail
        refine CA.out.mono ?_
        rintro e w1 ⟨rfl, rfl⟩
        go_wp2_with fail
        refine CB.out.mono ?_
        rintro e w1 ⟨rfl, rfl⟩
        go_wp2_with fail
        go_ret
        rw [e1.out, e2.out]
        exact ⟨rfl, Mv.stay (H.out.mono (Nat.le_succ _))⟩
      · have e1 : Hid (cutE s a b = 0) := by show _ = _; simp [cutE, ha, hb, hab]
        have e2 : Hid (cutS s a b = { s with cuts := s.cuts ++ [(a, b)] }) := by show _ = _; simp [cutS, e1.out]
        have h1 := has_wf ha h.ok.hi
        have h2 := has_wf hb h.ok.hi
        have WA : Hid ((Lit.int .i64 (min a b)).wf = true) := wf64 (by omega) (by omega)
        have WB : Hid ((Lit.int .i64 (max a b)).wf = true) := wf64 (by omega) (by omega)
        have hx : (a == b) = false := by simp [hab]
        have hx2 : (a = b) = False := by simp [hab]
        have c2 : w.drew.cell? ⟨L.N, 2, none⟩ = some (.map (some L.mb)) := h.c2
        have HK := hide hk
        clear h ha hb hab h1 h2 hk
        go_enter Try.func13, Try.ntmps13
        go_wp2_with fail
        refine CA.out.mono ?_
        rintro e w1 ⟨rfl, rfl⟩
        go_wp2_with fail
        refine CB.out.mono ?_
        rintro e w1 ⟨rfl, rfl⟩
        go_wp2_with fail
        go_region_with (go_at_call 28; refine (both_any a b _).mono ?_; rintro e w2 ⟨rfl, hb2⟩; have N2 := hide (H.out.drew.below hb2); have d2 := N2.out.c2; obtain ⟨w3, run3, hc3, hg3⟩ := cuts_put N2.out.cuts HK.out WA.out WB.out; have C3 := hide hc3; have G3 := hide hg3; have B2 := hide hb2; clear hc3 hg3 hb2)
        all_goals (go_wp2_with fail; go_ret; rw [e1.out, e2.out]; exact ⟨rfl, ((Chg.refl _ _).drew.trans (Chg.of_below B2.out _) (fun k _ hk => hk)).grown G3.out (fun k hk => .inl (.inr (.inl (Option.some.inj hk).symm))), L, N2.out.recut G3.out C3.out, rfl, fun k hk => .inl hk, fun k hk => .inl hk⟩)

theorem heal_any {w : World} {L : Lay} {kk : Nat} {s : Ns} (h : Nt w L kk s) :
    Calls Try.prog 17 #[.pointer (some ⟨L.N, 0, none⟩)] w fun e w' => e = .returned (.int .i64 0) ∧ Mv w L kk (healS s) w' := by
  obtain ⟨w3, run3, hc3, hg3⟩ := cuts_clear h.cuts 0
  have c2 := h.c2
  have C3 := hide hc3
  have G3 := hide hg3
  have H := hide h
  clear hc3 hg3 h
  go_enter Try.func17, Try.ntmps17
  go_wp2_with fail
  go_ret
  exact ⟨rfl, (Chg.refl _ _).grown G3.out (fun k hk => .inl (.inr (.inl (Option.some.inj hk).symm))), L, H.out.recut G3.out C3.out, rfl, fun k hk => .inl hk, fun k hk => .inl hk⟩
end Go.Proofs.Ytjbonklgklldmaa
