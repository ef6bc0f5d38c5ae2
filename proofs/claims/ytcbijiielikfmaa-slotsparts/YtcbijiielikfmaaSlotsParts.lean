/- SlotsParts holds: what All, Run and Holes tell is what Get tells, place for place, for every input. No condition. -/
import Derived.Test.YtcbijiielikfmaaSlotsRan
import Derived.Test.YtcbijiielikfmaaSlotsAwake
import Derived.Test.YtcbijiielikfmaaSlotsReadI
namespace Go.Proofs.Ytcbijiielikfmaa
open Go.ChangeShapes Go.WideShapes Go.ChangeAt Go.RowKit Sx Li
set_option linter.unusedVariables false
namespace SlotsParts
theorem steps {w : World} {N c ch nh : Nat} {s : Ss Int} {aa ah : Option Addr} (RA : w.ownsRow N 47 2 (.slice aa (cnt s.ps) c) (cnt s.ps) (hcells (allL s.first s.ps))) (LH : nh + cnt s.ps = s.ps.length) (RH : w.ownsRow N 3 1 (.slice ah nh ch) nh (icells (holesL s.first s.ps))) :
    ∃ ct : Nat → Nat, ct 0 = 0 ∧ (∀ k, ct k ≤ k) ∧ ∀ k, k < s.ps.length → (∃ x g, getV s (s.first + k) = some x ∧ ct k < cnt s.ps ∧ ct (k + 1) = ct k + 1 ∧ aa = some ⟨g, 0, none⟩ ∧ g < w.heap.size ∧ w.cell? ⟨g, ct k * 2, none⟩ = some (.int .i64 (s.first + k)) ∧ w.cell? ⟨g, ct k * 2 + 1, none⟩ = some (.int .i64 x)) ∨
      (∃ g, getV s (s.first + k) = none ∧ k - ct k < nh ∧ ct (k + 1) = ct k ∧ ah = some ⟨g, 0, none⟩ ∧ g < w.heap.size ∧ w.cell? ⟨g, k - ct k, none⟩ = some (.int .i64 (s.first + k))) := by
  refine ⟨fun k => cnt (s.ps.take k), rfl, fun k => Nat.le_trans (cnt_le _) (by simp; omega), fun k hk => ?_⟩
  have hg := getV_at (s := s) hk
  have hk' := List.getElem?_eq_getElem hk
  have hs := cnt_take_succ hk'
  cases e : s.ps[k] with
  | some x =>
    rw [e] at hg hk' hs
    have hA := allL_at s.ps s.first k x hk'
    have hlt : cnt (s.ps.take k) < cnt s.ps := by
      have := (List.getElem?_eq_some_iff.1 hA).1
      rwa [allL_length] at this
    obtain ⟨g, e1, _, e2, e3⟩ := row_at RA (by omega)
    have q := hcells_get _ _ _ hA
    exact .inl ⟨x, g, hg, hlt, by simpa using hs, e1, e2, e3 _ _ q.1, e3 _ _ q.2⟩
  | none =>
    rw [e] at hg hk' hs
    have hH := holesL_at s.ps s.first k hk'
    have hlt : k - cnt (s.ps.take k) < nh := by
      have := (List.getElem?_eq_some_iff.1 hH).1
      have := holesL_length s.ps s.first
      omega
    obtain ⟨g, e1, _, e2, e3⟩ := row_at RH (by omega)
    exact .inr ⟨g, hg, hlt, by simpa using hs, e1, e2, e3 _ _ (icells_get hH)⟩
theorem runs {w : World} {N c cr : Nat} {s : Ss Int} {aa ar : Option Addr} (RA : w.ownsRow N 47 2 (.slice aa (cnt s.ps) c) (cnt s.ps) (hcells (allL s.first s.ps))) (RR : w.ownsRow N 47 2 (.slice ar (nxt s.ps) cr) (nxt s.ps) (hcells (runL s.first s.ps))) (k : Nat) (hk : k < nxt s.ps) :
    ∃ x g g2, aa = some ⟨g, 0, none⟩ ∧ ar = some ⟨g2, 0, none⟩ ∧ g < w.heap.size ∧ g2 < w.heap.size ∧ w.cell? ⟨g, k * 2, none⟩ = some (.int .i64 (s.first + k)) ∧ w.cell? ⟨g, k * 2 + 1, none⟩ = some (.int .i64 x) ∧ w.cell? ⟨g2, k * 2, none⟩ = some (.int .i64 (s.first + k)) ∧ w.cell? ⟨g2, k * 2 + 1, none⟩ = some (.int .i64 x) := by
  obtain ⟨e, x, hr, _⟩ := runL_at s.ps s.first k hk
  have hA := e.symm.trans hr
  obtain ⟨g, e1, _, e2, e3⟩ := row_at RA (by have := (List.getElem?_eq_some_iff.1 hA).1; rw [allL_length] at this; omega)
  obtain ⟨g2, f1, _, f2, f3⟩ := row_at RR (by omega)
  have q := hcells_get _ _ _ hA
  have q2 := hcells_get _ _ _ hr
  exact ⟨x, g, g2, e1, f1, e2, f2, e3 _ _ q.1, e3 _ _ q.2, f3 _ _ q2.1, f3 _ _ q2.2⟩
set_option maxRecDepth 100000 in
set_option maxHeartbeats 4000000 in
theorem walk {w : World} {a : Option Addr} {len cap : Nat} {os : Nat → Opd} (f m : Int) (h : Ops w a len os) :
    Calls Try.prog 4 #[.int .i64 f, .int .i64 m, .slice a len cap] w fun e w' => e = .returned (.bool true) ∧ Below w.heap.size w w' := by
  have CR := hide (ran_any (cap := cap) f m h)
  clear h
  go_enter Try.func4, Try.ntmps4
  go_wp2_with fail
  refine CR.out.mono ?_
  rintro e w1 ⟨D, s, rfl, b1, h1, hm⟩
  have B1 := hide b1
  have H1 := hide h1
  clear b1 h1 hm CR
  go_wp2_with fail
  refine (awake_any w1).mono ?_
  rintro e w2 ⟨rfl, b2⟩
  have B2 := hide (below_step B1.out b2)
  have H2 := hide (H1.out.below b2)
  have OK := hide H2.out.ok
  clear b2 B1 H1
  obtain ⟨L, hL, hLn⟩ := H2.out
  have CT := hide (told_any hL.asks)
  clear hL hLn
  go_wp2_with fail
  refine CT.out.mono ?_
  rintro e w3 ⟨va1, vr1, vh1, rfl, ht⟩
  have B3 := hide (below_step B2.out ht.below)
  have H3 := hide (H2.out.below ht.below)
  obtain ⟨aa, ca, rfl⟩ := ht.sa
  obtain ⟨ar, cr, rfl⟩ := ht.sr
  obtain ⟨ah, ch, rfl⟩ := ht.sh
  have RA := hide ht.all
  have RR := hide ht.run
  have RH := hide ht.holes
  clear ht CT B2 H2
  have LA := allL_length s.ps s.first
  have LR := runL_length s.ps s.first
  have LH := holesL_length s.ps s.first
  generalize (allL s.first s.ps).length = na at *
  generalize (runL s.first s.ps).length = nr at *
  generalize (holesL s.first s.ps).length = nh at *
  subst LA LR
  have CM := cnt_le s.ps
  have NM := nxt_le s.ps
  have NC : nxt s.ps ≤ cnt s.ps := nxt_cnt s.ps
  have F1 := OK.out.f1
  have F2 := OK.out.f2
  have LM : s.ps.length ≤ 1024 := Nat.le_trans OK.out.len OK.out.m2
  have ST := hide (steps RA.out LH RH.out)
  have RN : Hid (∀ k, k < nxt s.ps → _) := hide (runs RA.out RR.out)
  clear OK RA RR RH
  have CF : Hid (∀ W, LgN W w.heap.size D s → Calls Try.prog 23 #[.pointer (some ⟨D, 0, none⟩)] W fun e w' => e = .returned (.int .i64 s.first) ∧ w' = W) := hide fun _ h => first_next h
  have CL : Hid (∀ W, LgN W w.heap.size D s → Calls Try.prog 21 #[.pointer (some ⟨D, 0, none⟩)] W fun e w' => e = .returned (.int .i64 (cnt s.ps)) ∧ w' = W) := hide fun _ h => len_next h
  have CT : Hid (∀ W, LgN W w.heap.size D s → Calls Try.prog 22 #[.pointer (some ⟨D, 0, none⟩)] W fun e w' => e = .returned (.int .i64 (s.first + (s.ps.length : Int))) ∧ ∃ q, w' = W.drewN q) := hide fun _ h => top_next h
  have CN : Hid (∀ W, LgN W w.heap.size D s → Calls Try.prog 24 #[.pointer (some ⟨D, 0, none⟩)] W fun e w' => e = .returned (.int .i64 (s.first + (nxt s.ps : Int))) ∧ ∃ q, w' = W.drewN q) := hide fun _ h => next_next h
  have CG : Hid (∀ W, LgN W w.heap.size D s → ∀ i, Calls Try.prog 25 #[.pointer (some ⟨D, 0, none⟩), .int .i64 i] W fun e w' => e = .returned (.tuple #[ansV (getV s i), .bool (getV s i).isSome]) ∧ ∃ q, w' = W.drewN q) := hide fun _ h i => get_next h i
  generalize s.ps.length = n at *
  generalize cnt s.ps = c at *
  generalize nxt s.ps = x at *
  generalize s.first = F at *
  have CT2 : Hid (∀ W, LgN W w.heap.size D s → Calls Try.prog 22 #[.pointer (some ⟨D, 0, none⟩)] W fun e v => e = .returned (.int .i64 (F + (n : Int))) ∧ Below W.heap.size W v) := hide fun W h => (CT.out W h).mono (by rintro e v ⟨rfl, q, rfl⟩; exact ⟨rfl, blw_drewN _ _ _⟩)
  have CG2 : Hid (∀ W, LgN W w.heap.size D s → ∀ i, Calls Try.prog 25 #[.pointer (some ⟨D, 0, none⟩), .int .i64 i] W fun e v => e = .returned (.tuple #[ansV (getV s i), .bool (getV s i).isSome]) ∧ Below W.heap.size W v) := hide fun W h i => (CG.out W h i).mono (by rintro e v ⟨rfl, q, rfl⟩; exact ⟨rfl, blw_drewN _ _ _⟩)
  have HL := hide LH
  have NH : nh ≤ 1024 := by omega
  have T1 : F + (n : Int) - F = (c : Int) + (nh : Int) := by omega
  have T2 : F + (x : Int) - F = (x : Int) := by omega
  clear LH
  go_wp2_with (first | (go_at_call 21; refine (CL.out _ (by first | exact H3.out | exact H3.out.drewN _ | exact (H3.out.drewN _).drewN _)).mono ?_; rintro e w' ⟨rfl, rfl⟩) | (go_at_call 23; refine (CF.out _ (by first | exact H3.out | exact H3.out.drewN _ | exact (H3.out.drewN _).drewN _)).mono ?_; rintro e w' ⟨rfl, rfl⟩) | (go_at_call 22; refine (CT.out _ (by first | exact H3.out | exact H3.out.drewN _ | exact (H3.out.drewN _).drewN _)).mono ?_; rintro e w' ⟨rfl, q1, rfl⟩) | (go_at_call 24; refine (CN.out _ (by first | exact H3.out | exact H3.out.drewN _ | exact (H3.out.drewN _).drewN _)).mono ?_; rintro e w' ⟨rfl, q2, rfl⟩))
  obtain ⟨ct, c0, cl, st⟩ := ST.out
  have C0 := hide c0
  have CLE := hide cl
  have STP := hide st
  clear c0 cl st ST CT CG CN CL T1 T2
  go_loopw [12, 13, 14, 15, 16] (fun iv kv av _ _ wr => ∃ k : Nat, k ≤ n ∧ iv = .int .i64 (ct k) ∧ kv = .int .i64 ((k - ct k : Nat)) ∧ av = .int .i64 (F + k) ∧ Hid (Below w'.heap.size w' wr)) (fun _ _ av _ _ _ => n - (intOf av - F).toNat)
  case atStart => exact ⟨0, by omega, by rw [C0.out]; rfl, by simp, by simp, hide (blw_drewN _ _ _)⟩
  case round =>
    obtain ⟨k, hk, rfl, rfl, rfl, HB⟩ := hrel
    have HW := hide (H3.out.below HB.out)
    have CTk := hide (CT2.out wr HW.out)
    have CK := CLE.out k
    by_cases hlt : k < n
    · have T3 : F + (k : Int) < F + (n : Int) := by omega
      rcases STP.out k hlt with ⟨y, g, e1, e2, e3, rfl, e5, e6, e7⟩ | ⟨g, e1, e2, e3, rfl, e5, e6⟩
      · have E1 := hide e1
        have E3 := hide e3
        have E6 := hide (And.intro e5 (And.intro e6 e7))
        have i1 : ((ct k : Nat) : Int) < (c : Int) := by omega
        have i2 : (0 : Int) ≤ ((ct k : Nat) : Int) := by omega
        clear e1 e3 e5 e6 e7
        go_wp2_with fail
        refine CTk.out.mono ?_
        rintro e w4 ⟨rfl, b4⟩
        have HW4 := hide (HW.out.below b4)
        have HB4 := hide (below_step HB.out b4)
        have CGk := hide (CG2.out w4 HW4.out (F + k))
        rw [E1.out] at CGk
        simp only [ansV, Option.isSome_some, va] at CGk
        clear b4 HW HB CTk
        go_wp2_with fail
        refine CGk.out.mono ?_
        rintro e w5 ⟨rfl, b5⟩
        have HB5 := hide (below_step HB4.out b5)
        have q1 : w5.cell? ⟨g, ct k * 2, none⟩ = some (.int .i64 (F + k)) := (HB5.out.cell (p := ⟨g, ct k * 2, none⟩) E6.out.1).trans E6.out.2.1
        have q2 : w5.cell? ⟨g, ct k * 2 + 1, none⟩ = some (.int .i64 y) := (HB5.out.cell (p := ⟨g, ct k * 2 + 1, none⟩) E6.out.1).trans E6.out.2.2
        clear b5 HB4 CGk
        go_wp2_with fail
        go_roundw
        case rel => exact ⟨k + 1, by omega, by rw [E3.out]; go_num, by rw [E3.out]; congr 1; omega, by go_num, HB5⟩
        case measure => simp [intOf]; omega
      · have E1 := hide e1
        have E3 := hide e3
        have E6 := hide (And.intro e5 e6)
        have i1 : ((k - ct k : Nat) : Int) < (nh : Int) := by omega
        have i2 : (0 : Int) ≤ ((k - ct k : Nat) : Int) := by omega
        clear e1 e3 e5 e6
        go_wp2_with fail
        refine CTk.out.mono ?_
        rintro e w4 ⟨rfl, b4⟩
        have HW4 := hide (HW.out.below b4)
        have HB4 := hide (below_step HB.out b4)
        have CGk := hide (CG2.out w4 HW4.out (F + k))
        rw [E1.out] at CGk
        simp only [ansV, Option.isSome_none, zv] at CGk
        clear b4 HW HB CTk
        have EK : Hid (k + 1 - ct k = k - ct k + 1) := by show _ = _; omega
        generalize k - ct k = kh at *
        go_wp2_with fail
        refine CGk.out.mono ?_
        rintro e w5 ⟨rfl, b5⟩
        have HB5 := hide (below_step HB4.out b5)
        have q1 : w5.cell? ⟨g, kh, none⟩ = some (.int .i64 (F + k)) := (HB5.out.cell (p := ⟨g, kh, none⟩) E6.out.1).trans E6.out.2
        clear b5 HB4 CGk
        go_wp2_with fail
        go_roundw
        case rel => exact ⟨k + 1, by omega, by rw [E3.out], by rw [E3.out, EK.out]; go_num, by go_num, HB5⟩
        case measure => simp [intOf]; omega
    · obtain rfl : k = n := by omega
      clear hk hlt
      go_wp2_with fail
      refine CTk.out.mono ?_
      rintro e w4 ⟨rfl, b4⟩
      have HW4 := hide (HW.out.below b4)
      have HB4 := hide (below_step HB.out b4)
      clear b4 HW HB CTk STP CLE C0 CK
      go_wp2_with fail
      go_loopw [17] (fun iv wr => ∃ j : Nat, j ≤ x ∧ iv = .int .i64 j ∧ Hid (Below w'.heap.size w' wr)) (fun iv _ => x - (intOf iv).toNat)
      case atStart => exact ⟨0, by omega, rfl, HB4⟩
      case round =>
        obtain ⟨j, hj, rfl, HB5⟩ := hrel
        have HW5 := hide (H3.out.below HB5.out)
        by_cases hjt : j < x
        · obtain ⟨y, g, g2, rfl, rfl, e1, e2, e3, e4, e5, e6⟩ := RN.out j hjt
          have CFk := hide (CF.out (wr.drewN 1) (HW5.out.drewN 1))
          have o1 : wr.cell? ⟨g, j * 2, none⟩ = some (.int .i64 (F + j)) := (HB5.out.cell (p := ⟨g, j * 2, none⟩) e1).trans e3
          have o2 : wr.cell? ⟨g, j * 2 + 1, none⟩ = some (.int .i64 y) := (HB5.out.cell (p := ⟨g, j * 2 + 1, none⟩) e1).trans e4
          have o3 : wr.cell? ⟨g2, j * 2, none⟩ = some (.int .i64 (F + j)) := (HB5.out.cell (p := ⟨g2, j * 2, none⟩) e2).trans e5
          have o4 : wr.cell? ⟨g2, j * 2 + 1, none⟩ = some (.int .i64 y) := (HB5.out.cell (p := ⟨g2, j * 2 + 1, none⟩) e2).trans e6
          have i1 : (j : Int) < (x : Int) := by omega
          have i2 : (0 : Int) ≤ (j : Int) := by omega
          have i3 : (j : Int) < (c : Int) := by omega
          have WR : IntKind.i64.wrap (F + (j : Int)) = F + (j : Int) := by rw [IntKind.wrap_i64]; omega
          clear e1 e2 e3 e4 e5 e6
          go_wp2_with fail
          go_region_held3 (fun u => u.cell? ⟨g, j * 2, none⟩ = some (.int .i64 (F + j)) ∧ u.cell? ⟨g, j * 2 + 1, none⟩ = some (.int .i64 y) ∧ u.cell? ⟨g2, j * 2, none⟩ = some (.int .i64 (F + j)) ∧ u.cell? ⟨g2, j * 2 + 1, none⟩ = some (.int .i64 y)) (first | go_keep | exact ⟨o1, o2, o3, o4⟩) ((first | (go_at_call 23; refine CFk.out.mono ?_; rintro e w6 ⟨rfl, rfl⟩)))
          go_wp2_with fail
          go_roundw
          case rel => exact ⟨j + 1, by omega, by go_num, hide (HB5.out.trans (blw_drewN _ _ 1))⟩
          case measure => simp [intOf]; omega
        · obtain rfl : j = x := by omega
          clear hj hjt
          go_wp2_with fail
          go_ret
          exact ⟨rfl, below_step B3.out HB5.out⟩

set_option maxRecDepth 100000 in
theorem lifted (os : Os) (started : os.Started) (H : Type) (enc : TypeId × Value → H) :
    ReturnsInHanded {} Try.checked os 4 .any (Rows.slotsPartsSpec.pre6 enc Try.prog Try.f4 Rows.slotsPartsRow.domain false) (Rows.slotsPartsSpec.post enc Try.prog Try.f4 false true false false) := by
  refine returnsInHanded_of_change_sized (C := Try.checked) own started (by kernel_rfl) Try.func4
    (ChangeSpec.witness6 (enc := enc) (C := Try.checked) false ⟨#[], #[.int .i64 0, .int .i64 0, .slice none 0 0], []⟩ 8 (by kernel_rfl) (by kernel_rfl) (by kernel_rfl) (by kernel_rfl)) ?_
  intro W base args ds gs before hval0 hW hcnd hsz0 _
  have hsz : (DataW.weightsEach Try.prog (Try.f4.params.toList ++ Rows.slotsPartsSpec.plain.varTypes Try.prog) (ds ++ gs)).all (· ≤ reachBytes) = true := hsz0
  have hval : ∀ (j : Nat) t v, Try.f4.params[j]? = some t → args[j]? = some v → Value.okWide Try.prog W .any base t v := hval0
  have hW' := hW
  obtain ⟨p, q, hA0, hV, rfl, hfz, hnd⟩ := hW
  have hA : DataW.TrodAll enc Try.prog W 0 (fun _ => true) true Try.f4.params.toList args.toList ds p := hA0
  rw [Try.params4] at hA hval hsz
  obtain ⟨v0, vs0, d0, ds0, p0, q0, hargs, rfl, rfl, h0, r0⟩ := trodAll_cons hA
  obtain ⟨v1, vs1, d1, ds1, p1, q1, rfl, rfl, rfl, h1, r1⟩ := trodAll_cons r0
  obtain ⟨v2, vs2, d2, ds2, p2, q2, rfl, rfl, rfl, h2, r2⟩ := trodAll_cons r1
  obtain ⟨rfl, rfl, rfl⟩ := trodAll_nil r2
  obtain rfl : args = #[v0, v1, v2] := by cases args; simp_all
  obtain ⟨rfl, rfl⟩ := trodVars_none hV
  have lt0 : ∀ x ∈ p0, x.block < W.heap.size := by obtain ⟨m, hm⟩ := h0; exact DataW.trod_lt m _ _ _ hm
  obtain ⟨f, rfl, fb1, fb2⟩ := open_i64 (hval 0 3 v0 rfl rfl) h0
  have lt1 : ∀ x ∈ p1, x.block < W.heap.size := by obtain ⟨m, hm⟩ := h1; exact DataW.trod_lt m _ _ _ hm
  obtain ⟨m, rfl, mb1, mb2⟩ := open_i64 (hval 1 3 v1 rfl rfl) h1
  have lt2 : ∀ x ∈ p2, x.block < W.heap.size := by obtain ⟨m, hm⟩ := h2; exact DataW.trod_lt m _ _ _ hm
  obtain ⟨a, len, cap, os, rfl, ho⟩ := open_ops_held (hval 2 22 v2 rfl rfl) h2 (fun n hn => by have h := List.all_eq_true.1 hsz n (DataW.weights_mem_each (j := 2) rfl rfl n hn); simpa using h)
  clear hA0 hval0
  refine (walk f m ho).mono fun e W' ⟨he, bel⟩ => ?_
  subst he
  exact ⟨_, rfl, _, _, _, [], _, [], hW', trodAll_mk1 (shut_bool Try.underlying4 _), (trodAll_cons_mk (Below.trod laidOut (by kernel_rfl) (of_decide_eq_true (by kernel_rfl)) h0 bel lt0) (trodAll_cons_mk (Below.trod laidOut (by kernel_rfl) (of_decide_eq_true (by kernel_rfl)) h1 bel lt1) (trodAll_cons_mk (Below.trod laidOut (by kernel_rfl) (of_decide_eq_true (by kernel_rfl)) h2 bel lt2) trodAll_mk0))), rfl, bel.frame _, fun h => by cases h⟩

theorem over : Rows.slotsPartsRow.holds Try.pinned (OpenSpec.ofChange Rows.slotsPartsSpec) :=
  OpenClaim.holds_of_wide 4 Try.f4 rfl rfl rfl rfl rfl rfl rfl ⟨rfl, rfl, rfl, rfl, rfl⟩ rfl rfl rfl rfl rfl (by kernel_rfl) Try.func4 (by kernel_rfl)
    (of_decide_eq_true (by kernel_rfl)) (by unfold Func.isWrapper; first | (rw [if_pos (by decide +kernel)]; kernel_rfl) | (rw [if_neg (by decide +kernel)]; exact ⟨rfl, rfl⟩))
    (fun os started H enc _ => lifted os started H enc)

theorem proved : Rows.SlotsPartsSaid := over
#print axioms proved
end SlotsParts
theorem slotsParts_holds : Rows.SlotsPartsSaid := SlotsParts.proved
end Go.Proofs.Ytcbijiielikfmaa
