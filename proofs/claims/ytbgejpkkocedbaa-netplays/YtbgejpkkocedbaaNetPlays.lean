/- NetPlays: whatever is sent, delivered, dropped, doubled, cut and healed: each answer, and what is under way behind it, is the document's: for every number of nodes and every list of calls. No condition. -/
import Derived.Test.YtbgejpkkocedbaaNetStepA
import Derived.Test.YtbgejpkkocedbaaNetStepB
import Derived.Test.YtbgejpkkocedbaaNetStepC
import Derived.Test.YtbgejpkkocedbaaNetStepD
import Derived.Test.YtbgejpkkocedbaaNetList
namespace Go.Proofs.Ytbgejpkkocedbaa
namespace NetPlays
open Go.ChangeShapes Go.WideShapes Go.ChangeAt Go.RowKit B8 Nm
set_option linter.unusedVariables false

theorem TwoN.mono {w : World} {N D E kk k2 : Nat} {s t : Ns} (h : TwoN w N D E kk s t) (e : kk ≤ k2) : TwoN w N D E k2 s t := by
  obtain ⟨L, R, h1, h2, h3⟩ := h
  exact ⟨L, R, h1.mono e, h2, h3⟩
theorem cuts_take (s : Ns) (i : Int) : (takeS s i).cuts = s.cuts := by unfold takeS; split <;> rfl
theorem cuts_dbl (s : Ns) (i : Int) : (dblS s i).cuts = s.cuts := by unfold dblS; split <;> rfl
theorem cuts_send (s : Ns) (f t : Int) (b : List Int) : (sendS s f t b).cuts = s.cuts := by
  unfold sendS
  split
  · rfl
  · split
    · rfl
    · split <;> rfl
theorem cuts_cut (s : Ns) (a b : Int) : (cutS s a b).cuts.length ≤ s.cuts.length + 1 := by
  unfold cutS
  split
  · simp
  · omega
theorem step_all {w : World} {N D E kk : Nat} {s : Ns} (h : TwoN w N D E kk s s) (hN : N ≤ w.heap.size) (hk : kk < maxLen) (hc : s.cuts.length ≤ 8000000000000) (kind x y : Int) (ka : Option Addr) (kl kc : Nat) (ks : List Int) (qf : ∀ u : World, Below N w u → Sq u ka kl kc ks) (hkl : kl ≤ 140737488351232) :
    Calls Try.prog 12 #[.pointer (some ⟨D, 0, none⟩), .pointer (some ⟨E, 0, none⟩), .agg #[.int .i64 kind, .int .i64 x, .int .i64 y, .slice ka kl kc]] w fun e w' => e = .returned (.bool true) ∧ Below N w w' ∧ ∃ s', TwoN w' N D E (kk + 1) s' s' ∧ s'.cuts.length ≤ s.cuts.length + 1 := by
  by_cases k1 : kind = 1
  · subst k1
    exact (step_deliver h hN x y ka kl kc).mono (fun e w' ⟨h1, h2, h3⟩ => ⟨h1, h2, _, TwoN.mono h3 (Nat.le_succ _), by rw [cuts_take]; omega⟩)
  by_cases k2 : kind = 2
  · subst k2
    exact (step_drop h hN x y ka kl kc).mono (fun e w' ⟨h1, h2, h3⟩ => ⟨h1, h2, _, TwoN.mono h3 (Nat.le_succ _), by rw [cuts_take]; omega⟩)
  by_cases k3 : kind = 3
  · subst k3
    exact (step_double h hN x y ka kl kc).mono (fun e w' ⟨h1, h2, h3⟩ => ⟨h1, h2, _, TwoN.mono h3 (Nat.le_succ _), by rw [cuts_dbl]; omega⟩)
  by_cases k4 : kind = 4
  · subst k4
    exact (step_cut h hN hk hc x y ka kl kc).mono (fun e w' ⟨h1, h2, h3⟩ => ⟨h1, h2, _, h3, cuts_cut s x y⟩)
  by_cases k5 : kind = 5
  · subst k5
    exact (step_heal h hN x y ka kl kc).mono (fun e w' ⟨h1, h2, h3⟩ => ⟨h1, h2, _, TwoN.mono h3 (Nat.le_succ _), by simp [healS]⟩)
  exact (step_send h hN hc kind x y ka kl kc ks qf hkl (by simpa using k1) (by simpa using k2) (by simpa using k3) (by simpa using k4) (by simpa using k5)).mono (fun e w' ⟨h1, h2, h3⟩ => ⟨h1, h2, _, TwoN.mono h3 (Nat.le_succ _), by rw [cuts_send]; omega⟩)
theorem pk_short {l : List Pv} {ps : List Pk} {w : World} (he : l.map Pv.pk = ps) (hb : ∀ p ∈ ps, p.b.length ≤ 16384) (hi : ∀ p ∈ l, p.In w) : ∀ p ∈ l, p.n ≤ 16384 := fun p hp => by
  have h1 := hb p.pk (by rw [← he]; exact List.mem_map.2 ⟨p, hp, rfl⟩)
  have h2 := (hi p hp).1.length
  have h3 : p.b.length ≤ 16384 := h1
  omega
set_option maxRecDepth 100000 in
set_option maxHeartbeats 2000000 in
theorem walk_in {w : World} {a : Option Addr} {len cap : Nat} {os : Nat → Opd} (h : Ops w a len os) (n : Nat) (h1 : 1 ≤ n) (h2 : n ≤ 5) :
    Calls Try.prog 3 #[.int .i64 n, .slice a len cap] w fun e w' => e = .returned (.bool true) ∧ Below w.heap.size w w' := by
  have H := hide h
  have RM := h.room
  have NY := hide (new_yes n h1 h2 w)
  have RY := hide (rnew_yes n h1 h2)
  clear h h1 h2
  go_enter Try.func3, Try.ntmps3
  go_wp2_with fail
  refine NY.out.mono ?_
  rintro e w1 ⟨L0, rfl, hb1, hd1, hl1⟩
  have B1 := hide hb1
  have D1 := hide hd1
  have L1 := hide hl1
  clear hb1 hd1 hl1
  go_wp2_with fail
  refine (RY.out w1).mono ?_
  rintro e w2 ⟨R0, rfl, hb2, hd2, hl2, hr2⟩
  have T2 : Hid (Two w2 w.heap.size L0 R0 0 (newS n) (newS n)) := ⟨D1.out.below hb2, hd2, fun k hk hr => by
    rcases hr with hr | hr
    · have h5 := hl2 k hr
      rcases hk with hk | hk
      · have := D1.out.lt k hk; omega
      · have := D1.out.ltR k hk; omega
    · exact hr2 k hr, L1.out, fun k hk => Nat.le_trans B1.out.size (hl2 k hk)⟩
  have B2 := hide (below_step B1.out hb2)
  clear hb2 hd2 hl2 hr2
  go_wp2_with fail
  refine (awake_any _).mono ?_
  rintro e w3 ⟨rfl, hb3⟩
  have T3 : Hid (TwoN w3 w.heap.size L0.N R0.N 0 (newS n) (newS n)) := ⟨L0, R0, T2.out.below hb3, rfl, rfl⟩
  have B3 := hide (below_step B2.out hb3)
  generalize L0.N = D at T3 ⊢
  generalize R0.N = E at T3 ⊢
  clear hb3 B1 B2 D1 L1 T2 NY RY
  go_wp2_with fail
  go_loopw [8] (fun i wr => ∃ (k : Nat) (s : Ns), k ≤ len ∧ i = .int .i64 k ∧ Hid (Below w.heap.size w wr) ∧ Hid (TwoN wr w.heap.size D E k s s) ∧ Hid (s.cuts.length ≤ k)) (fun i _ => len - (intOf i).toNat)
  case atStart => exact ⟨0, newS n, by omega, rfl, B3, T3, Nat.le_refl _⟩
  case round =>
    clear T3 B3
    obtain ⟨k, s, hk, rfl, HB, HT, HC⟩ := hrel
    by_cases hlt : k < len
    · obtain ⟨ob, off, rfl, oblt, hoc⟩ := H.out.cells (by omega)
      have OK := H.out.each k hlt
      have hr := rangeAt_same (hoc k hlt) (HB.out.block ob oblt)
      generalize os k = o at *
      obtain ⟨kind, x, y, ka, kl, kc, ks⟩ := o
      have HO := hide OK
      obtain ⟨o0, o1, o2, o3⟩ := opc_cells hr
      clear OK hr hoc
      have j1 : (k : Int) < (len : Int) := by omega
      have j2 : (0 : Int) ≤ (k : Int) := by omega
      have SA := hide (step_all HT.out HB.out.size (by unfold maxLen; omega) (by have := HC.out; omega) kind x y ka kl kc ks (fun u hu => HO.out.q.below (HB.out.trans hu)) (Nat.le_trans HO.out.q.lecap HO.out.room))
      go_wp2_with fail
      refine SA.out.mono ?_
      rintro e w4 ⟨rfl, hb4, s', ⟨L, R, t4, hd4, he4⟩, hc4⟩
      have B4 : Hid (Below w.heap.size w w4) := HB.out.trans hb4
      have T4 := hide t4
      have HD := hide hd4
      have HE := hide he4
      have HC4 : Hid (s'.cuts.length ≤ k + 1) := by have := HC.out; show _ ≤ _; omega
      have LN := hide (list_net t4.n)
      rw [hd4] at LN
      clear hb4 t4 hd4 he4 hc4 SA o0 o1 o2 o3
      go_wp2_with fail
      refine LN.out.mono ?_
      rintro e w5 ⟨a5, c5, l5, rfl, row5, map5, own5, hb5⟩
      have T5 := hide (T4.out.below hb5)
      have B5 := hide (below_step B4.out hb5)
      have lm : R.m = L.m := by
        have h1 := T4.out.n.len
        have h2 := T4.out.r.len
        have h3 : (L.l.map Pv.pk).length = (R.l.map Pv.pk).length := by rw [← T4.out.n.ps, ← T4.out.r.ps]
        simp at h3
        omega
      have X1 : Hid (Lst w5 a5 L.m l5) := lst_of_row row5 (fun p hp => (own5 p hp).ins.ok) (pk_short map5 T4.out.n.ok.body (fun p hp => (own5 p hp).ins))
      have X2 : Hid (Lst w5 R.av L.m R.l) := by rw [← lm]; exact lst_of_row T5.out.r.row (fun p hp => (T5.out.r.ins p hp).ok) (pk_short T5.out.r.ps.symm T5.out.r.ok.body T5.out.r.ins)
      have MM : Hid (l5.map Pv.pk = R.l.map Pv.pk) := map5.trans T5.out.r.ps
      have LM : Hid (L.m ≤ 256) := by
        have h1 := T4.out.n.ok.most
        rw [T4.out.n.ps, List.length_map, ← T4.out.n.len] at h1
        exact h1
      have c1 : w5.cell? ⟨E, 1, none⟩ = some (.slice R.av L.m R.cv) := by rw [← HE.out, ← lm]; exact T5.out.r.c1
      clear row5 map5 own5 hb5 lm LN
      go_wp2_with fail
      refine (same_pk X1.out X2.out LM.out MM.out).mono ?_
      rintro e w6 ⟨rfl, hb6⟩
      have T6 : Hid (TwoN w6 w.heap.size D E (k + 1) s' s') := ⟨L, R, T5.out.below hb6, HD.out, HE.out⟩
      have B6 := hide (below_step B5.out hb6)
      clear hb6 c1
      go_wp2_with fail
      go_roundw
      case rel => exact ⟨k + 1, s', by omega, by go_num, B6, T6, HC4⟩
      case measure => simp [intOf]; omega
    · obtain rfl : k = len := by omega
      go_wp2_with fail
      go_ret
      exact ⟨rfl, HB.out⟩
theorem walk {w : World} {a : Option Addr} {len cap : Nat} {os : Nat → Opd} (h : Ops w a len os) (b : Int) :
    Calls Try.prog 3 #[.int .i64 b, .slice a len cap] w fun e w' => e = .returned (.bool true) ∧ Below w.heap.size w w' := by
  by_cases hb : b < 1 ∨ 5 < b
  · have NN := hide (new_no b hb w)
    have RN := hide (rnew_no b hb w)
    clear h hb
    go_enter Try.func3, Try.ntmps3
    go_wp2_with fail
    refine NN.out.mono ?_
    rintro e w1 ⟨rfl, rfl⟩
    go_wp2_with fail
    refine RN.out.mono ?_
    rintro e w1 ⟨rfl, rfl⟩
    go_wp2_with fail
    refine (awake_any _).mono ?_
    rintro e w3 ⟨rfl, hb3⟩
    go_wp2_with fail
    go_ret
    exact ⟨rfl, hb3⟩
  · obtain ⟨n, rfl⟩ : ∃ n : Nat, b = (n : Int) := ⟨b.toNat, by omega⟩
    exact walk_in h n (by omega) (by omega)

set_option maxRecDepth 100000 in
theorem lifted (os : Os) (started : os.Started) (H : Type) (enc : TypeId × Value → H) :
    ReturnsInHanded {} Try.checked os 3 .any (Rows.netPlaysSpec.pre6 enc Try.prog Try.f3 Rows.netPlaysRow.domain false) (Rows.netPlaysSpec.post enc Try.prog Try.f3 false true false false) := by
  refine returnsInHanded_of_change_sized (C := Try.checked) own started (by kernel_rfl) Try.func3
    (ChangeSpec.witness6 (enc := enc) (C := Try.checked) false ⟨#[], #[.int .i64 0, .slice none 0 0], []⟩ 8 (by kernel_rfl) (by kernel_rfl) (by kernel_rfl) (by kernel_rfl)) ?_
  intro W base args ds gs before hval0 hW hcnd hsz0 _
  have hsz : (DataW.weightsEach Try.prog (Try.f3.params.toList ++ Rows.netPlaysSpec.plain.varTypes Try.prog) (ds ++ gs)).all (· ≤ reachBytes) = true := hsz0
  have hval : ∀ (j : Nat) t v, Try.f3.params[j]? = some t → args[j]? = some v → Value.okWide Try.prog W .any base t v := hval0
  have hW' := hW
  obtain ⟨p, q, hA0, hV, rfl, hfz, hnd⟩ := hW
  have hA : DataW.TrodAll enc Try.prog W 0 (fun _ => true) true Try.f3.params.toList args.toList ds p := hA0
  rw [Try.params3] at hA hval hsz
  obtain ⟨v0, vs0, d0, ds0, p0, q0, hargs, rfl, rfl, h0, r0⟩ := trodAll_cons hA
  obtain ⟨v1, vs1, d1, ds1, p1, q1, rfl, rfl, rfl, h1, r1⟩ := trodAll_cons r0
  obtain ⟨rfl, rfl, rfl⟩ := trodAll_nil r1
  obtain rfl : args = #[v0, v1] := by cases args; simp_all
  obtain ⟨rfl, rfl⟩ := trodVars_none hV
  have lt0 : ∀ x ∈ p0, x.block < W.heap.size := by obtain ⟨m, hm⟩ := h0; exact DataW.trod_lt m _ _ _ hm
  obtain ⟨b, rfl, bb⟩ := open_i64 (hval 0 3 v0 rfl rfl) h0
  have lt1 : ∀ x ∈ p1, x.block < W.heap.size := by obtain ⟨m, hm⟩ := h1; exact DataW.trod_lt m _ _ _ hm
  obtain ⟨a, len, cap, os, rfl, ho⟩ := open_ops_held (hval 1 22 v1 rfl rfl) h1 (fun n hn => by have h := List.all_eq_true.1 hsz n (DataW.weights_mem_each (j := 1) rfl rfl n hn); simpa using h)
  clear hA0 hval0
  refine (walk ho b).mono fun e W' ⟨he, bel⟩ => ?_
  subst he
  exact ⟨_, rfl, _, _, _, [], _, [], hW', trodAll_mk1 (shut_bool Try.underlying4 _), (trodAll_cons_mk (Below.trod laidOut (by kernel_rfl) (of_decide_eq_true (by kernel_rfl)) h0 bel lt0) (trodAll_cons_mk (Below.trod laidOut (by kernel_rfl) (of_decide_eq_true (by kernel_rfl)) h1 bel lt1) trodAll_mk0)), rfl, bel.frame _, fun h => by cases h⟩

theorem over : Rows.netPlaysRow.holds Try.pinned (OpenSpec.ofChange Rows.netPlaysSpec) :=
  OpenClaim.holds_of_wide 3 Try.f3 rfl rfl rfl rfl rfl rfl rfl ⟨rfl, rfl, rfl, rfl, rfl⟩ rfl rfl rfl rfl rfl (by kernel_rfl) Try.func3 (by kernel_rfl)
    (of_decide_eq_true (by kernel_rfl)) (by unfold Func.isWrapper; first | (rw [if_pos (by decide +kernel)]; kernel_rfl) | (rw [if_neg (by decide +kernel)]; exact ⟨rfl, rfl⟩))
    (fun os started H enc _ => lifted os started H enc)

theorem proved : Rows.NetPlaysSaid := over
#print axioms proved
end NetPlays
theorem netPlays_holds : Rows.NetPlaysSaid := NetPlays.proved
end Go.Proofs.Ytbgejpkkocedbaa
