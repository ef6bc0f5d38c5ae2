/- What Begin, End, Lose and Join answer: the landed code. Condition: the lists can be read. -/
import Derived.Test.YtbeikdppcfpplaaSesWith
namespace Go.Proofs.Ytbeikdppcfpplaa
open Go.ChangeShapes Go.WideShapes Go.ChangeAt Go.RowKit Sn
set_option linter.unusedVariables false

theorem ms_row {w : World} {B : Nat} {a : Option Addr} {n c : Nat} {l : List Mk} (h : w.ownsRow B 29 7 (.slice a n c) n (fcells menc l)) (hr : n * 56 ≤ 140737488351232) : Ms w a n l := Rl.of_row mflat h hr
theorem check_ok {l : List Mk} (h : rightB 0 l = true) : checkE l = 0 := by unfold checkE; rw [h]; rfl
theorem check_no {l : List Mk} (h : rightB 0 l = false) : checkE l = 21 := by unfold checkE; rw [h]; rfl
theorem find_ok {l : List Mk} {c : Int} (h : rightB 0 l = true) : findM l c = lkM l c := by unfold findM; rw [h]; rfl
set_option maxRecDepth 100000 in
set_option maxHeartbeats 1000000 in
theorem begin_any {w : World} {a : Option Addr} {n cp : Nat} {l : List Mk} {c q : Int} (h : Ms w a n l) :
    Calls Try.prog 13 #[.slice a n cp, .int .i64 c, .int .i64 q] w fun e w' => ∃ a' n' c', e = .returned (.tuple #[.slice a' n' c', .bool (beginF l c q), .int .i64 (beginE l c q)]) ∧ Ms w' a' n' (beginL l c q) ∧ Below w.heap.size w w' := by
  have H := hide h
  have hroom := h.room
  clear h
  have CK := fun W => hide (fun hW : Below w.heap.size w W => check_any (c := cp) (H.out.below hW))
  cases hq : rightB 0 l with
  | false =>
    have e1 : beginE l c q = 21 := by unfold beginE; rw [hq]; rfl
    have e2 : beginF l c q = false := by unfold beginF; rw [hq]; rfl
    have e3 : beginL l c q = [] := by unfold beginL; rw [e1]; rfl
    rw [e1, e2, e3]
    rw [check_no hq] at CK
    clear e1 e2 e3 hq
    go_enter Try.func13, Try.ntmps13
    go_wp2_with fail
    refine ((CK _).out (Below.refl _ _)).mono ?_
    rintro e w1 ⟨rfl, hb1⟩
    have HB1 := hide hb1
    clear hb1 CK
    go_wp2_with fail
    go_returns
    exact ⟨_, _, _, rfl, Rl.nil _, HB1.out⟩
  | true =>
    rw [check_ok hq] at CK
    have HR : Hid (Right l) := hq
    have CC := fun W => hide (client_any c W)
    cases hc : (cliB c && seqB q) with
    | false =>
      have e1 : beginE l c q = 1 := by unfold beginE; rw [hq, hc]; rfl
      have e2 : beginF l c q = false := by unfold beginF; rw [hq, Bool.true_and, hc]; rfl
      have e3 : beginL l c q = [] := by unfold beginL; rw [e1]; rfl
      rw [e1, e2, e3]
      have HS : Hid ((cliB c && seqB q) = false) := hc
      clear e1 e2 e3 hq hc
      generalize cliB c = b at CC HS
      cases b
      · go_enter Try.func13, Try.ntmps13
        go_wp2_with fail
        refine ((CK _).out (Below.refl _ _)).mono ?_
        rintro e w1 ⟨rfl, hb1⟩
        have HB1 := hide hb1
        clear hb1 CK
        go_wp2_with (go_at_call 27; refine (CC _).out.mono ?_; rintro e w' ⟨rfl, hw⟩; rw [hw]; clear hw)
        go_returns
        exact ⟨_, _, _, rfl, Rl.nil _, HB1.out⟩
      · have h1 : ¬ (1 ≤ q ∧ q ≤ 4611686018427387904) := by simpa [seqB] using HS.out
        clear HS
        by_cases h2 : q < 1
        · go_enter Try.func13, Try.ntmps13
          go_wp2_with fail
          refine ((CK _).out (Below.refl _ _)).mono ?_
          rintro e w1 ⟨rfl, hb1⟩
          have HB1 := hide hb1
          clear hb1 CK
          go_wp2_with (go_at_call 27; refine (CC _).out.mono ?_; rintro e w' ⟨rfl, hw⟩; rw [hw]; clear hw)
          go_returns
          exact ⟨_, _, _, rfl, Rl.nil _, HB1.out⟩
        · have h3 : 4611686018427387904 < q := by omega
          go_enter Try.func13, Try.ntmps13
          go_wp2_with fail
          refine ((CK _).out (Below.refl _ _)).mono ?_
          rintro e w1 ⟨rfl, hb1⟩
          have HB1 := hide hb1
          clear hb1 CK
          go_wp2_with (go_at_call 27; refine (CC _).out.mono ?_; rintro e w' ⟨rfl, hw⟩; rw [hw]; clear hw)
          go_returns
          exact ⟨_, _, _, rfl, Rl.nil _, HB1.out⟩
    | true =>
      simp only [Bool.and_eq_true] at hc
      obtain ⟨hc1, hc2⟩ := hc
      have FD := fun W => hide (fun hW : Below w.heap.size w W => find_any (cp := cp) (c := c) (H.out.below hW))
      rw [find_ok hq] at FD
      have hs : 1 ≤ q ∧ q ≤ 4611686018427387904 := by simpa [seqB] using hc2
      have hcc : 1 ≤ c ∧ c ≤ 8 := by simpa [cliB] using hc1
      rw [hc1] at CC
      have HE : Hid (beginE l c q = (match lkM l c with | some m => if q < m.s then 80 else 0 | none => 0)) := by show _ = _; unfold beginE; rw [hq, hc1, hc2]; rfl
      have HF : Hid (beginF l c q = (match lkM l c with | some m => decide (m.s < q) | none => true)) := by show _ = _; unfold beginF; rw [hq, hc1, hc2]; rfl
      have HM : Hid (mayB (opened c q) = true) := may_opened hcc hs
      have g1 : ¬ q < 1 := by omega
      have g2 : ¬ 4611686018427387904 < q := by omega
      have WI := fun W => hide (fun hW : Below w.heap.size w W => with_any (cp := cp) (H.out.below hW) HR.out HM.out)
      unfold mval opened an0 at WI
      clear hq hc1 hc2 hs hcc
      cases hf : lkM l c with
      | none =>
        have e1 : beginE l c q = 0 := by rw [HE.out, hf]
        have e2 : beginF l c q = true := by rw [HF.out, hf]
        have e3 : beginL l c q = withL l (opened c q) := by unfold beginL; rw [e1, e2]; rfl
        rw [e1, e2, e3]
        rw [hf, show (none : Option Mk).getD mk0 = mk0 from rfl] at FD
        unfold mval mk0 an0 at FD
        clear e1 e2 e3 HE HF hf
        go_enter Try.func13, Try.ntmps13
        go_wp2_with fail
        refine ((CK _).out (Below.refl _ _)).mono ?_
        rintro e w1 ⟨rfl, hb1⟩
        have HB1 := hide hb1
        clear hb1 CK
        go_wp2_with (go_at_call 27; refine (CC _).out.mono ?_; rintro e w' ⟨rfl, hw⟩; rw [hw]; clear hw)
        refine ((FD _).out HB1.out).mono ?_
        rintro e w2 ⟨rfl, hb2⟩
        have HB2 : Hid (Below w.heap.size w w2) := HB1.out.trans (hb2.mono HB1.out.size)
        clear hb2 HB1 FD CC
        go_wp2_with fail
        refine ((WI _).out (HB2.out.alloc HB2.out.size _)).mono ?_
        rintro e w3 ⟨a3, n3, c3, rfl, hm3, hb3⟩
        have HM3 := hide hm3
        have HB3 : Hid (Below w.heap.size w w3) := (HB2.out.alloc HB2.out.size _).trans (hb3.mono (HB2.out.alloc HB2.out.size _).size)
        clear hm3 hb3 WI
        go_wp2_with fail
        go_returns
        exact ⟨_, _, _, rfl, HM3.out, HB3.out⟩
      | some m =>
        rw [hf, show (some m).getD mk0 = m from rfl] at FD
        unfold mval at FD
        by_cases h1 : q < m.s
        · have e1 : beginE l c q = 80 := by rw [HE.out, hf]; simp only; rw [if_pos h1]
          have e2 : beginF l c q = false := by rw [HF.out, hf]; simp only; rw [decide_eq_false (by omega)]
          have e3 : beginL l c q = [] := by unfold beginL; rw [e1]; rfl
          rw [e1, e2, e3]
          clear e1 e2 e3 HE HF hf WI
          go_enter Try.func13, Try.ntmps13
          go_wp2_with fail
          refine ((CK _).out (Below.refl _ _)).mono ?_
          rintro e w1 ⟨rfl, hb1⟩
          have HB1 := hide hb1
          clear hb1 CK
          go_wp2_with (go_at_call 27; refine (CC _).out.mono ?_; rintro e w' ⟨rfl, hw⟩; rw [hw]; clear hw)
          refine ((FD _).out HB1.out).mono ?_
          rintro e w2 ⟨rfl, hb2⟩
          have HB2 : Hid (Below w.heap.size w w2) := HB1.out.trans (hb2.mono HB1.out.size)
          clear hb2 HB1 FD CC
          go_wp2_with fail
          go_returns
          exact ⟨_, _, _, rfl, Rl.nil _, HB2.out.alloc HB2.out.size _⟩
        · have e1 : beginE l c q = 0 := by rw [HE.out, hf]; simp only; rw [if_neg h1]
          by_cases h2 : m.s = q
          · have e2 : beginF l c q = false := by rw [HF.out, hf]; simp only; rw [decide_eq_false (by omega)]
            have e3 : beginL l c q = l := by unfold beginL; rw [e1, e2]; rfl
            rw [e1, e2, e3]
            rw [h2] at FD
            clear e1 e2 e3 HE HF hf WI h1 h2
            have CL := fun W => hide (fun hW : Below w.heap.size w W => FnM.clone_any (cv := cp) (H.out.below hW))
            go_enter Try.func13, Try.ntmps13
            go_wp2_with fail
            refine ((CK _).out (Below.refl _ _)).mono ?_
            rintro e w1 ⟨rfl, hb1⟩
            have HB1 := hide hb1
            clear hb1 CK
            go_wp2_with (go_at_call 27; refine (CC _).out.mono ?_; rintro e w' ⟨rfl, hw⟩; rw [hw]; clear hw)
            refine ((FD _).out HB1.out).mono ?_
            rintro e w2 ⟨rfl, hb2⟩
            have HB2 : Hid (Below w.heap.size w w2) := HB1.out.trans (hb2.mono HB1.out.size)
            clear hb2 HB1 FD CC
            go_wp2_with fail
            refine ((CL _).out (HB2.out.alloc HB2.out.size _)).mono ?_
            rintro e w3 ⟨a3, c3, rfl, hb3, hm3⟩
            have HM3 : Hid (Ms w3 a3 n l) := ms_row hm3 hroom
            have HB3 : Hid (Below w.heap.size w w3) := (HB2.out.alloc HB2.out.size _).trans (hb3.mono (HB2.out.alloc HB2.out.size _).size)
            clear hm3 hb3 CL
            go_wp2_with fail
            go_returns
            exact ⟨_, _, _, rfl, HM3.out, HB3.out⟩
          · have e2 : beginF l c q = true := by rw [HF.out, hf]; simp only; rw [decide_eq_true (by omega)]
            have e3 : beginL l c q = withL l (opened c q) := by unfold beginL; rw [e1, e2]; rfl
            rw [e1, e2, e3]
            clear e1 e2 e3 HE HF hf
            go_enter Try.func13, Try.ntmps13
            go_wp2_with fail
            refine ((CK _).out (Below.refl _ _)).mono ?_
            rintro e w1 ⟨rfl, hb1⟩
            have HB1 := hide hb1
            clear hb1 CK
            go_wp2_with (go_at_call 27; refine (CC _).out.mono ?_; rintro e w' ⟨rfl, hw⟩; rw [hw]; clear hw)
            refine ((FD _).out HB1.out).mono ?_
            rintro e w2 ⟨rfl, hb2⟩
            have HB2 : Hid (Below w.heap.size w w2) := HB1.out.trans (hb2.mono HB1.out.size)
            clear hb2 HB1 FD CC
            go_wp2_with fail
            refine ((WI _).out (HB2.out.alloc HB2.out.size _)).mono ?_
            rintro e w3 ⟨a3, n3, c3, rfl, hm3, hb3⟩
            have HM3 := hide hm3
            have HB3 : Hid (Below w.heap.size w w3) := (HB2.out.alloc HB2.out.size _).trans (hb3.mono (HB2.out.alloc HB2.out.size _).size)
            clear hm3 hb3 WI
            go_wp2_with fail
            go_returns
            exact ⟨_, _, _, rfl, HM3.out, HB3.out⟩
set_option maxRecDepth 100000 in
set_option maxHeartbeats 1000000 in
theorem isopen_any {w : World} {a : Option Addr} {n cp : Nat} {l : List Mk} {c q : Int} (h : Ms w a n l) :
    Calls Try.prog 33 #[.slice a n cp, .int .i64 c, .int .i64 q] w fun e w' => e = .returned (.int .i64 (openE l c q)) ∧ Below w.heap.size w w' := by
  have H := hide h
  clear h
  have CK := fun W => hide (fun hW : Below w.heap.size w W => check_any (c := cp) (H.out.below hW))
  have FD := fun W => hide (fun hW : Below w.heap.size w W => find_any (cp := cp) (c := c) (H.out.below hW))
  cases hq : rightB 0 l with
  | false =>
    have e1 : openE l c q = 21 := by unfold openE; rw [hq]; rfl
    rw [e1]
    rw [check_no hq] at CK
    clear e1 hq FD
    go_enter Try.func33, Try.ntmps33
    go_wp2_with fail
    refine ((CK _).out (Below.refl _ _)).mono ?_
    rintro e w1 ⟨rfl, hb1⟩
    have HB1 := hide hb1
    clear hb1 CK
    go_wp2_with fail
    go_returns
    exact ⟨rfl, HB1.out⟩
  | true =>
    rw [check_ok hq] at CK
    rw [find_ok hq] at FD
    have HO : Hid (openE l c q = if (match lkM l c with | some m => decide (m.s = q) && m.o | none => false) = true then 0 else 60) := by show _ = _; unfold openE openB; rw [hq]; rfl
    clear hq
    cases hf : lkM l c with
    | none =>
      have e1 : openE l c q = 60 := by rw [HO.out, hf]; rfl
      rw [e1]
      rw [hf, show (none : Option Mk).getD mk0 = mk0 from rfl] at FD
      unfold mval mk0 an0 at FD
      clear e1 HO hf
      go_enter Try.func33, Try.ntmps33
      go_wp2_with fail
      refine ((CK _).out (Below.refl _ _)).mono ?_
      rintro e w1 ⟨rfl, hb1⟩
      have HB1 := hide hb1
      clear hb1 CK
      go_wp2_with fail
      refine ((FD _).out HB1.out).mono ?_
      rintro e w2 ⟨rfl, hb2⟩
      have HB2 : Hid (Below w.heap.size w w2) := HB1.out.trans (hb2.mono HB1.out.size)
      clear hb2 HB1 FD
      go_wp2_with fail
      go_returns
      exact ⟨rfl, HB2.out.alloc HB2.out.size _⟩
    | some m =>
      rw [hf] at HO
      simp only at HO
      rw [hf, show (some m).getD mk0 = m from rfl] at FD
      unfold mval at FD
      clear hf
      obtain ⟨mc, ms, mo, ma⟩ := m
      simp only at HO FD
      by_cases h1 : ms = q
      · subst h1
        cases mo
        · have e1 : openE l c ms = 60 := by rw [HO.out]; simp
          rw [e1]
          clear e1 HO
          go_enter Try.func33, Try.ntmps33
          go_wp2_with fail
          refine ((CK _).out (Below.refl _ _)).mono ?_
          rintro e w1 ⟨rfl, hb1⟩
          have HB1 := hide hb1
          clear hb1 CK
          go_wp2_with fail
          refine ((FD _).out HB1.out).mono ?_
          rintro e w2 ⟨rfl, hb2⟩
          have HB2 : Hid (Below w.heap.size w w2) := HB1.out.trans (hb2.mono HB1.out.size)
          clear hb2 HB1 FD
          go_wp2_with fail
          go_returns
          exact ⟨rfl, HB2.out.alloc HB2.out.size _⟩
        · have e1 : openE l c ms = 0 := by rw [HO.out]; simp
          rw [e1]
          clear e1 HO
          go_enter Try.func33, Try.ntmps33
          go_wp2_with fail
          refine ((CK _).out (Below.refl _ _)).mono ?_
          rintro e w1 ⟨rfl, hb1⟩
          have HB1 := hide hb1
          clear hb1 CK
          go_wp2_with fail
          refine ((FD _).out HB1.out).mono ?_
          rintro e w2 ⟨rfl, hb2⟩
          have HB2 : Hid (Below w.heap.size w w2) := HB1.out.trans (hb2.mono HB1.out.size)
          clear hb2 HB1 FD
          go_wp2_with fail
          go_returns
          exact ⟨rfl, HB2.out.alloc HB2.out.size _⟩
      · have e1 : openE l c q = 60 := by rw [HO.out]; simp [h1]
        rw [e1]
        have h2 : (ms != q) = true := by simpa using h1
        clear e1 HO
        go_enter Try.func33, Try.ntmps33
        go_wp2_with fail
        refine ((CK _).out (Below.refl _ _)).mono ?_
        rintro e w1 ⟨rfl, hb1⟩
        have HB1 := hide hb1
        clear hb1 CK
        go_wp2_with fail
        refine ((FD _).out HB1.out).mono ?_
        rintro e w2 ⟨rfl, hb2⟩
        have HB2 : Hid (Below w.heap.size w w2) := HB1.out.trans (hb2.mono HB1.out.size)
        clear hb2 HB1 FD
        go_wp2_with fail
        go_returns
        exact ⟨rfl, HB2.out.alloc HB2.out.size _⟩
set_option maxRecDepth 100000 in
set_option maxHeartbeats 1000000 in
theorem end_any {w : World} {a : Option Addr} {n cp : Nat} {l : List Mk} {c q : Int} {x : An} (h : Ms w a n l) :
    Calls Try.prog 15 #[.slice a n cp, .int .i64 c, .int .i64 q, aval x] w fun e w' => ∃ a' n' c', e = .returned (.tuple #[.slice a' n' c', .int .i64 (openE l c q)]) ∧ Ms w' a' n' (endL l c q x) ∧ Below w.heap.size w w' := by
  have H := hide h
  clear h
  have OP := fun W => hide (fun hW : Below w.heap.size w W => isopen_any (cp := cp) (c := c) (q := q) (H.out.below hW))
  unfold aval
  by_cases h0 : openE l c q = 0
  · obtain ⟨hr, _, h1, h2, h3, h4⟩ := open_of h0
    have e1 : endL l c q x = withL l ⟨c, q, false, x⟩ := by unfold endL; rw [if_pos h0]
    rw [h0] at OP
    rw [h0, e1]
    have WI := fun W => hide (fun hW : Below w.heap.size w W => with_any (cp := cp) (H.out.below hW) hr (may_ended (s := q) (c := c) x ⟨h1, h2⟩ ⟨by omega, h4⟩))
    unfold mval at WI
    clear h0 e1 hr h1 h2 h3 h4
    go_enter Try.func15, Try.ntmps15
    go_wp2_with fail
    refine ((OP _).out (by go_grown)).mono ?_
    rintro e w1 ⟨rfl, hb1⟩
    have HX : Hid (w1.heap[w.heap.size]? = some (.cells #[.int .i64 x.e, .int .i64 x.v, .int .i64 x.lo, .int .i64 x.hi] 25 (0, 0))) := (hb1.block _ (by simp)).trans (heap_alloc_new w _)
    have z0 : w1.cell? ⟨w.heap.size, 0, none⟩ = some (.int .i64 x.e) := by rw [cell_of_row _ _ _ _ _ _ HX.out]; rfl
    have z1 : w1.cell? ⟨w.heap.size, 1, none⟩ = some (.int .i64 x.v) := by rw [cell_of_row _ _ _ _ _ _ HX.out]; rfl
    have z2 : w1.cell? ⟨w.heap.size, 2, none⟩ = some (.int .i64 x.lo) := by rw [cell_of_row _ _ _ _ _ _ HX.out]; rfl
    have z3 : w1.cell? ⟨w.heap.size, 3, none⟩ = some (.int .i64 x.hi) := by rw [cell_of_row _ _ _ _ _ _ HX.out]; rfl
    have HB1 : Hid (Below w.heap.size w w1) := (Below.alloc (Below.refl _ _) (Nat.le_refl _) _).trans (hb1.mono (by simp))
    clear OP hb1
    go_wp2_with fail
    refine ((WI _).out HB1.out).mono ?_
    rintro e w2 ⟨a2, n2, c2, rfl, hm2, hb2⟩
    have HM2 := hide hm2
    have HB2 : Hid (Below w.heap.size w w2) := HB1.out.trans (hb2.mono HB1.out.size)
    clear hm2 hb2
    go_wp2_with fail
    go_returns
    exact ⟨_, _, _, rfl, HM2.out, HB2.out⟩
  · have e1 : endL l c q x = [] := by unfold endL; rw [if_neg h0]
    rw [e1]
    obtain ⟨r, er⟩ : ∃ r, r = openE l c q := ⟨_, rfl⟩
    rw [← er] at OP h0 ⊢
    have h2 : (r != 0) = true := by simpa using h0
    clear er e1
    go_enter Try.func15, Try.ntmps15
    go_wp2_with fail
    refine ((OP _).out (by go_grown)).mono ?_
    rintro e w1 ⟨rfl, hb1⟩
    have HB1 : Hid (Below w.heap.size w w1) := (Below.alloc (Below.refl _ _) (Nat.le_refl _) _).trans (hb1.mono (by simp))
    clear OP hb1
    go_wp2_with fail
    go_returns
    exact ⟨_, _, _, rfl, Rl.nil _, HB1.out⟩
set_option maxRecDepth 100000 in
set_option maxHeartbeats 1000000 in
theorem lose_any {w : World} {a : Option Addr} {n cp : Nat} {l : List Mk} {c q : Int} (h : Ms w a n l) :
    Calls Try.prog 17 #[.slice a n cp, .int .i64 c, .int .i64 q] w fun e w' => ∃ a' n' c', e = .returned (.tuple #[.slice a' n' c', .int .i64 (openE l c q)]) ∧ Ms w' a' n' (loseL l c q) ∧ Below w.heap.size w w' := by
  have H := hide h
  clear h
  have OP := fun W => hide (fun hW : Below w.heap.size w W => isopen_any (cp := cp) (c := c) (q := q) (H.out.below hW))
  by_cases h0 : openE l c q = 0
  · obtain ⟨hr, _, h1, h2, h3, h4⟩ := open_of h0
    have e1 : loseL l c q = withL l ⟨c, q - 1, false, lost⟩ := by unfold loseL; rw [if_pos h0]
    rw [h0] at OP
    rw [h0, e1]
    have WI := fun W => hide (fun hW : Below w.heap.size w W => with_any (cp := cp) (H.out.below hW) hr (may_ended (s := q - 1) (c := c) lost ⟨h1, h2⟩ ⟨by omega, by omega⟩))
    unfold mval lost at WI
    clear h0 e1 hr h1 h2
    go_enter Try.func17, Try.ntmps17
    go_wp2_with fail
    refine ((OP _).out (Below.refl _ _)).mono ?_
    rintro e w1 ⟨rfl, hb1⟩
    have HB1 := hide hb1
    clear OP hb1
    go_wp2_with fail
    refine ((WI _).out (HB1.out.alloc HB1.out.size _)).mono ?_
    rintro e w2 ⟨a2, n2, c2, rfl, hm2, hb2⟩
    have HM2 := hide hm2
    have HB2 : Hid (Below w.heap.size w w2) := (HB1.out.alloc HB1.out.size _).trans (hb2.mono (HB1.out.alloc HB1.out.size _).size)
    clear hm2 hb2
    go_wp2_with fail
    go_returns
    exact ⟨_, _, _, rfl, HM2.out, HB2.out⟩
  · have e1 : loseL l c q = [] := by unfold loseL; rw [if_neg h0]
    rw [e1]
    obtain ⟨r, er⟩ : ∃ r, r = openE l c q := ⟨_, rfl⟩
    rw [← er] at OP h0 ⊢
    have h2 : (r != 0) = true := by simpa using h0
    clear er e1
    go_enter Try.func17, Try.ntmps17
    go_wp2_with fail
    refine ((OP _).out (Below.refl _ _)).mono ?_
    rintro e w1 ⟨rfl, hb1⟩
    have HB1 := hide hb1
    clear OP hb1
    go_wp2_with fail
    go_returns
    exact ⟨_, _, _, rfl, Rl.nil _, HB1.out⟩
end Go.Proofs.Ytbeikdppcfpplaa
