/- SlotsLeft holds: a sequence that is left tells no more; for every input. No condition. -/
import Derived.Test.YtcbijiielikfmabSlotsRan
import Derived.Test.YtcbijiielikfmabSlotsAwake
import Derived.Test.YtcbijiielikfmabSlotsToldI
import Derived.Test.YtcbijiielikfmabSeqCount
namespace Go.Proofs.Ytcbijiielikfmab
open Go.ChangeShapes Go.WideShapes Go.ChangeAt Go.RowKit Go.Shelf Sx Li
set_option linter.unusedVariables false
attribute [local go_sem] Oper.semAt_some
namespace SlotsLeft
set_option maxRecDepth 100000 in
set_option maxHeartbeats 4000000 in
theorem walk {w : World} {a : Option Addr} {len cap : Nat} {os : Nat → Opd} (f m : Int) (h : Ops w a len os) (stop : Int) :
    Calls Try.prog 3 #[.int .i64 f, .int .i64 m, .slice a len cap, .int .i64 stop] w fun e w' => e = .returned (.bool true) ∧ Below w.heap.size w w' := by
  obtain ⟨w0, ew⟩ : ∃ w0, w0 = w.alloc (.cells #[.int .i64 stop] 3) := ⟨_, rfl⟩
  have B0 : Below w.heap.size w w0 := by rw [ew]; exact below_alloc (Below.refl _ _) _
  have s0 : w0.heap.size = w.heap.size + 1 := by rw [ew]; simp
  have X0 : Boxed w0 w.heap.size 3 (.int .i64 stop) := by rw [ew]; exact Boxed.new w _ _
  have CR := hide (ran_any (cap := cap) f m (h.below B0))
  rw [ew] at CR
  have EW := hide ew
  have HX := hide X0
  have HB0 := hide B0
  have HS := hide s0
  clear h ew X0 B0 s0
  refine (callsIn_wide (n := 9)).1 (callsIn_of_wp_marks Try.func3 rfl trivial (wpIn_wide.2 ?_) rfl)
  simp only [Try.ntmps3, List.size_toArray, List.length_cons, List.length_nil, Nat.reduceAdd, Nat.reduceSub, Array.replicate_succ, Array.replicate_zero, List.push_toArray, List.append_toArray, List.nil_append, List.cons_append]
  go_wp2_with fail
  refine CR.out.mono ?_
  rw [← EW.out]
  rintro e w1 ⟨D, s, rfl, b1, h1, hm⟩
  have H1 := hide h1
  have B1 := hide (below_step HB0.out b1)
  have X1 : Hid (Boxed w1 w.heap.size 3 (.int .i64 stop)) := (b1.block _ HX.out.lt).trans HX.out
  clear b1 h1 hm CR HX HB0
  go_wp2_with fail
  refine (awake_any w1).mono ?_
  rintro e w2 ⟨rfl, b2⟩
  have B2 := hide (below_step B1.out b2)
  have H2 := hide (H1.out.below b2)
  have X2 : Hid (Boxed w2 w.heap.size 3 (.int .i64 stop)) := (b2.block _ X1.out.lt).trans X1.out
  clear b2 B1 H1 X1
  go_wp2_with fail
  obtain ⟨L, hL, hLn⟩ := H2.out
  have AS := hide hL.asks
  have CA := hide (AS.out.all (w2.alloc (.cells #[.int .i64 0] 3)) (below_alloc (Below.refl _ _) _))
  have LA := allL_length s.ps s.first
  have LH := holesL_length s.ps s.first
  have M := hL.asks.most
  have CM := cnt_le s.ps
  clear hL hLn
  refine CA.out.mono ?_
  rintro e w4 ⟨gf1, lb1, K1, rfl, eg1, b1, t1, c1, k1⟩
  have zs : (w2.alloc (.cells #[.int .i64 0] 3)).heap.size = w2.heap.size + 1 := by simp
  rw [zs] at b1 k1
  have Y4 : Hid (Boxed w4 w2.heap.size 3 (.int .i64 0)) := (b1.block _ (by omega)).trans (Boxed.new w2 _ _)
  have B4 : Hid (Below w2.heap.size w2 w4) := (below_alloc (Below.refl _ _) _).trans (b1.mono (by omega))
  have X4 : Hid (Boxed w4 w.heap.size 3 (.int .i64 stop)) := (B4.out.block _ X2.out.lt).trans X2.out
  have L1 : Hid (∀ k, K1 k → k < w4.heap.size) := fun k hk => by obtain ⟨o, ho, _⟩ := c1 k hk; exact (Array.getElem?_eq_some_iff.1 ho).1
  have N1 : Hid (¬ K1 w2.heap.size) := fun hk => by rcases k1 _ hk with h | h; have := AS.out.lt _ h; omega; omega
  have NE : Hid (w.heap.size ≠ w2.heap.size) := fun e => by have := X2.out.lt; omega
  clear c1 k1 b1 CA
  go_wp2_with fail
  refine count_seq (gf := gf1) (lb := lb1) rfl eg1 t1 L1.out w2.heap.size 3 stop 0 Y4.out N1.out (fun _ _ h => by simpa [Exit.inBlock, Exit.then] using h) ?round1 ?after1
  case round1 =>
    intro l2 j args W hl hx hW hi'
    rw [List.getElem?_map] at hx
    obtain ⟨p, hp, rfl⟩ := Option.map_eq_some_iff.1 hx
    refine ⟨rfl, ?_⟩
    simp only [argsOf, va]
    gi_wp2
    refine ⟨trivial, fun W2 hi2 hW2 => ?_⟩
    have jl := (List.getElem?_eq_some_iff.1 hp).1
    have c4 := hi2.2.box.cell
    have f4 := hi2.2.box.frozen
    have xb : Boxed W2 w.heap.size 3 (.int .i64 stop) := (hi2.2.chg.block _ X4.out.lt NE.out).trans X4.out
    have c5 := xb.cell
    have HI := hide hi2
    have AD := hide (ct_add Y4.out.lt hi2.2)
    have ne : w.heap.size ≠ _ := NE.out
    have j1 : ((j : Int) + 1 ≤ 1024) := by omega
    have j2 : ¬ (1024 < (j : Int) + 1) := by omega
    clear xb hi2 hi' hx
    by_cases hs : (j : Int) + 1 = stop
    · subst hs
      gi_wp2
      exact ⟨AD.out.1, AD.out.2.1, ⟨rfl, by simp⟩, AD.out.2.2⟩
    · have HS2 := hide hs
      gi_wp2
      exact ⟨AD.out.1, AD.out.2.1, HI.out.next HS2.out AD.out.2.2⟩
  case after1 =>
    intro D1 u1 hD1 g1 x1 d1
    rw [List.length_map] at x1
    have BU : Hid (Below w2.heap.size w2 u1) := B4.out.trans (g1.below B4.out.size (fun k hk => by omega))
    have XU : Hid (Boxed u1 w.heap.size 3 (.int .i64 stop)) := (g1.block _ X4.out.lt NE.out).trans X4.out
    have X1 := hide x1
    have DA := hide d1
    have HD1 := hide hD1
    have G1 := hide g1
    have CH := hide (AS.out.holes (u1.alloc (.cells #[.int .i64 0] 3)) (below_alloc BU.out _))
    clear x1 d1 hD1 g1 t1
    dsimp only
    go_wp2_with fail
    refine CH.out.mono ?_
    rintro e w5 ⟨gf2, lb2, K2', rfl, eg2, b2, t2, c2, k2⟩
    have zt : (u1.alloc (.cells #[.int .i64 0] 3)).heap.size = u1.heap.size + 1 := by simp
    rw [zt] at b2 k2
    have Y5 : Hid (Boxed w5 u1.heap.size 3 (.int .i64 0)) := (b2.block _ (by omega)).trans (Boxed.new u1 _ _)
    have B5 : Hid (Below u1.heap.size u1 w5) := (below_alloc (Below.refl _ _) _).trans (b2.mono (by omega))
    have X5 : Hid (Boxed w5 w.heap.size 3 (.int .i64 stop)) := (B5.out.block _ XU.out.lt).trans XU.out
    have L2 : Hid (∀ k, K2' k → k < w5.heap.size) := fun k hk => by obtain ⟨o, ho, _⟩ := c2 k hk; exact (Array.getElem?_eq_some_iff.1 ho).1
    have ZU := BU.out.size
    have N2 : Hid (¬ K2' u1.heap.size) := fun hk => by rcases k2 _ hk with h | h; have := AS.out.lt _ h; omega; omega
    have NE2 : Hid (w.heap.size ≠ u1.heap.size) := fun e => by have := XU.out.lt; omega
    clear c2 k2 b2 CH zt zs ZU
    go_wp2_with fail
    refine count_seq (gf := gf2) (lb := lb2) rfl eg2 t2 L2.out u1.heap.size 3 stop 2 Y5.out N2.out (fun _ _ h => by simpa [Exit.inBlock, Exit.then] using h) ?round2 ?after2
    case round2 =>
      intro l2 j args W hl hx hW hi'
      rw [List.getElem?_map] at hx
      obtain ⟨p, hp, rfl⟩ := Option.map_eq_some_iff.1 hx
      refine ⟨rfl, ?_⟩
      simp only [argH]
      gi_wp2
      refine ⟨trivial, fun W2 hi2 hW2 => ?_⟩
      have jl := (List.getElem?_eq_some_iff.1 hp).1
      have c4 := hi2.2.box.cell
      have f4 := hi2.2.box.frozen
      have xb : Boxed W2 w.heap.size 3 (.int .i64 stop) := (hi2.2.chg.block _ X5.out.lt NE2.out).trans X5.out
      have c5 := xb.cell
      have HI := hide hi2
      have AD := hide (ct_add Y5.out.lt hi2.2)
      have ne : w.heap.size ≠ _ := NE2.out
      have j1 : ((j : Int) + 1 ≤ 1024) := by omega
      have j2 : ¬ (1024 < (j : Int) + 1) := by omega
      clear xb hi2 hi' hx
      by_cases hs : (j : Int) + 1 = stop
      · subst hs
        gi_wp2
        exact ⟨AD.out.1, AD.out.2.1, ⟨rfl, by simp⟩, AD.out.2.2⟩
      · have HS2 := hide hs
        gi_wp2
        exact ⟨AD.out.1, AD.out.2.1, HI.out.next HS2.out AD.out.2.2⟩
    case after2 =>
      intro D2 u2 hD2 g2 x2 d2
      rw [List.length_map] at x2
      have q1 : Below u1.heap.size u1 u2 := B5.out.trans (g2.below B5.out.size (fun k hk => by omega))
      have BU2 : Below w2.heap.size w2 u2 := BU.out.trans (q1.mono BU.out.size)
      obtain ⟨L5, hL5, _⟩ := H2.out.below BU2
      have CT := hide (told_any hL5.asks)
      have r1 : Boxed u2 w.heap.size 3 (.int .i64 stop) := (q1.block _ XU.out.lt).trans XU.out
      have r2 : Boxed u2 w2.heap.size 3 (.int .i64 (least stop (allL s.first s.ps).length)) := (q1.block _ X1.out.lt).trans X1.out
      have l1 : D1 < u1.heap.size := (Array.getElem?_eq_some_iff.1 DA.out).1
      have e1 : u2.heap[D1]? = some (.deferred (some [])) := (q1.block _ l1).trans DA.out
      have R := hide (And.intro r1 (And.intro r2 x2))
      have DD := hide (And.intro e1 d2)
      have HD2 := hide (show w.heap.size ≤ D1 ∧ w.heap.size ≤ D2 ∧ D1 ≠ D2 from ⟨by have := HD1.out; have := B2.out.size; have := B4.out.size; omega, by have := B5.out.size; have := BU.out.size; have := B2.out.size; omega, by have := B5.out.size; omega⟩)
      have BB := hide (B2.out.trans (BU2.mono B2.out.size))
      clear r1 r2 x2 e1 d2 hD2 g2 q1 BU2 hL5 l1
      dsimp only
      go_wp2_with fail
      refine CT.out.mono ?_
      rintro e u3 ⟨va1, vr1, vh1, rfl, ht⟩
      obtain ⟨aa, ca, rfl⟩ := ht.sa
      obtain ⟨ar, cr, rfl⟩ := ht.sr
      obtain ⟨ah, ch, rfl⟩ := ht.sh
      have q := ht.below
      have r1 : Boxed u3 w.heap.size 3 (.int .i64 stop) := (q.block _ R.out.1.lt).trans R.out.1
      have r2 : Boxed u3 w2.heap.size 3 (.int .i64 (least stop (allL s.first s.ps).length)) := (q.block _ R.out.2.1.lt).trans R.out.2.1
      have r3 : Boxed u3 u1.heap.size 3 (.int .i64 (least stop (holesL s.first s.ps).length)) := (q.block _ R.out.2.2.lt).trans R.out.2.2
      have d1 : u3.heap[D1]? = some (.deferred (some [])) := (q.block _ (Array.getElem?_eq_some_iff.1 DD.out.1).1).trans DD.out.1
      have d2 : u3.heap[D2]? = some (.deferred (some [])) := (q.block _ (Array.getElem?_eq_some_iff.1 DD.out.2).1).trans DD.out.2
      have BF := hide (below_step BB.out q)
      have c1 := r1.cell
      have c2 := r2.cell
      have c3 := r3.cell
      have E := hide (And.intro d1 d2)
      clear ht q r1 r2 r3 d1 d2 DD R CT BB
      generalize (allL s.first s.ps).length = na at *
      generalize (holesL s.first s.ps).length = nh at *
      have lst : ∀ n : Nat, (1 ≤ stop ∧ stop < (n : Int) ∧ least stop n = stop) ∨ (¬ 1 ≤ stop ∧ least stop n = (n : Int)) ∨ (1 ≤ stop ∧ ¬ stop < (n : Int) ∧ least stop n = (n : Int)) := fun n => by unfold least; split <;> omega
      rcases lst na with ⟨a1, a2, a3⟩ | ⟨a1, a3⟩ | ⟨a1, a2, a3⟩ <;> rcases lst nh with ⟨b1, b2, b3⟩ | ⟨b1, b3⟩ | ⟨b1, b2, b3⟩ <;> rw [a3] at c2 <;> rw [b3] at c3 <;> clear a3 b3 lst <;> first
        | (exfalso; omega)
        | (go_wp2_with fail
           have h1 := HD2.out
           have e1' : (u3.putObj D2 (.deferred none)).heap[D1]? = some (.deferred (some [])) := (World.putObj_heap_other (by omega)).trans E.out.1
           refine ⟨by simp, .inl ⟨_, _, rfl, run_takeDeferred E.out.2, by simp, .inl ⟨_, _, rfl, run_takeDeferred e1', ?_⟩⟩⟩
           exact ⟨_, results_tmp (show Try.f3.results = #[.tmp 8] from rfl) _ _ _, rfl, below_put (below_put BF.out (by omega) _) (by omega) _⟩)

set_option maxRecDepth 100000 in
theorem lifted (os : Os) (started : os.Started) (H : Type) (enc : TypeId × Value → H) :
    ReturnsInHanded {} Try.checked os 3 .any (Rows.slotsLeftSpec.pre6 enc Try.prog Try.f3 Rows.slotsLeftRow.domain false) (Rows.slotsLeftSpec.post enc Try.prog Try.f3 false true false false) := by
  refine returnsInHanded_of_change_sized (C := Try.checked) own started (by kernel_rfl) Try.func3
    (ChangeSpec.witness6 (enc := enc) (C := Try.checked) false ⟨#[], #[.int .i64 0, .int .i64 0, .slice none 0 0, .int .i64 0], []⟩ 8 (by kernel_rfl) (by kernel_rfl) (by kernel_rfl) (by kernel_rfl)) ?_
  intro W base args ds gs before hval0 hW hcnd hsz0 _
  have hsz : (DataW.weightsEach Try.prog (Try.f3.params.toList ++ Rows.slotsLeftSpec.plain.varTypes Try.prog) (ds ++ gs)).all (· ≤ reachBytes) = true := hsz0
  have hval : ∀ (j : Nat) t v, Try.f3.params[j]? = some t → args[j]? = some v → Value.okWide Try.prog W .any base t v := hval0
  have hW' := hW
  obtain ⟨p, q, hA0, hV, rfl, hfz, hnd⟩ := hW
  have hA : DataW.TrodAll enc Try.prog W 0 (fun _ => true) true Try.f3.params.toList args.toList ds p := hA0
  rw [Try.params3] at hA hval hsz
  obtain ⟨v0, vs0, d0, ds0, p0, q0, hargs, rfl, rfl, h0, r0⟩ := trodAll_cons hA
  obtain ⟨v1, vs1, d1, ds1, p1, q1, rfl, rfl, rfl, h1, r1⟩ := trodAll_cons r0
  obtain ⟨v2, vs2, d2, ds2, p2, q2, rfl, rfl, rfl, h2, r2⟩ := trodAll_cons r1
  obtain ⟨v3, vs3, d3, ds3, p3, q3, rfl, rfl, rfl, h3, r3⟩ := trodAll_cons r2
  obtain ⟨rfl, rfl, rfl⟩ := trodAll_nil r3
  obtain rfl : args = #[v0, v1, v2, v3] := by cases args; simp_all
  obtain ⟨rfl, rfl⟩ := trodVars_none hV
  have lt0 : ∀ x ∈ p0, x.block < W.heap.size := by obtain ⟨m, hm⟩ := h0; exact DataW.trod_lt m _ _ _ hm
  obtain ⟨f, rfl, fb1, fb2⟩ := open_i64 (hval 0 3 v0 rfl rfl) h0
  have lt1 : ∀ x ∈ p1, x.block < W.heap.size := by obtain ⟨m, hm⟩ := h1; exact DataW.trod_lt m _ _ _ hm
  obtain ⟨m, rfl, mb1, mb2⟩ := open_i64 (hval 1 3 v1 rfl rfl) h1
  have lt2 : ∀ x ∈ p2, x.block < W.heap.size := by obtain ⟨m, hm⟩ := h2; exact DataW.trod_lt m _ _ _ hm
  obtain ⟨a, len, cap, os, rfl, ho⟩ := open_ops_held (hval 2 22 v2 rfl rfl) h2 (fun n hn => by have h := List.all_eq_true.1 hsz n (DataW.weights_mem_each (j := 2) rfl rfl n hn); simpa using h)
  have lt3 : ∀ x ∈ p3, x.block < W.heap.size := by obtain ⟨m, hm⟩ := h3; exact DataW.trod_lt m _ _ _ hm
  obtain ⟨stop, rfl, sb1, sb2⟩ := open_i64 (hval 3 3 v3 rfl rfl) h3
  clear hA0 hval0
  refine (walk f m ho stop).mono fun e W' ⟨he, bel⟩ => ?_
  subst he
  exact ⟨_, rfl, _, _, _, [], _, [], hW', trodAll_mk1 (shut_bool Try.underlying4 _), (trodAll_cons_mk (Below.trod laidOut (by kernel_rfl) (of_decide_eq_true (by kernel_rfl)) h0 bel lt0) (trodAll_cons_mk (Below.trod laidOut (by kernel_rfl) (of_decide_eq_true (by kernel_rfl)) h1 bel lt1) (trodAll_cons_mk (Below.trod laidOut (by kernel_rfl) (of_decide_eq_true (by kernel_rfl)) h2 bel lt2) (trodAll_cons_mk (Below.trod laidOut (by kernel_rfl) (of_decide_eq_true (by kernel_rfl)) h3 bel lt3) trodAll_mk0)))), rfl, bel.frame _, fun h => by cases h⟩

theorem over : Rows.slotsLeftRow.holds Try.pinned (OpenSpec.ofChange Rows.slotsLeftSpec) :=
  OpenClaim.holds_of_wide 3 Try.f3 rfl rfl rfl rfl rfl rfl rfl ⟨rfl, rfl, rfl, rfl, rfl⟩ rfl rfl rfl rfl rfl (by kernel_rfl) Try.func3 (by kernel_rfl)
    (of_decide_eq_true (by kernel_rfl)) (by unfold Func.isWrapper; first | (rw [if_pos (by decide +kernel)]; kernel_rfl) | (rw [if_neg (by decide +kernel)]; exact ⟨rfl, rfl⟩))
    (fun os started H enc _ => lifted os started H enc)

theorem proved : Rows.SlotsLeftSaid := over
#print axioms proved
end SlotsLeft
theorem slotsLeft_holds : Rows.SlotsLeftSaid := SlotsLeft.proved
end Go.Proofs.Ytcbijiielikfmab
