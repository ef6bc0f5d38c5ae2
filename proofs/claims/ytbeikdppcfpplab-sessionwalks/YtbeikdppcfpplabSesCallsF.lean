/- What Begin, End and Lose answer lies in new memory: the landed code once more. Condition: the list can be read. -/
import Derived.Test.YtbeikdppcfpplabSesHelp
namespace Go.Proofs.Ytbeikdppcfpplab
open Go.ChangeShapes Go.WideShapes Go.ChangeAt Go.RowKit Sn
set_option linter.unusedVariables false

/-- a list lies in a block from B on, or in none -/
def Fr (B : Nat) (a : Option Addr) : Prop := ∀ ad, a = some ad → B ≤ ad.block
theorem fr_none (B : Nat) : Fr B none := fun ad h => by cases h
theorem Fr.mono {B B' : Nat} {a : Option Addr} (h : Fr B a) (hb : B' ≤ B) : Fr B' a := fun ad e => Nat.le_trans hb (h ad e)
theorem fr_row {w : World} {B B' B'' T sz n c : Nat} {a : Option Addr} {xs : List Value} (h : w.ownsRow B T sz (.slice a n c) n xs) (h1 : B' ≤ B) (h2 : B'' ≤ B') : Fr B'' a := fun ad e => by
  subst e
  exact Nat.le_trans h2 (Nat.le_trans h1 (h.lt ad.block rfl).1)
set_option maxRecDepth 100000 in
set_option maxHeartbeats 1000000 in
theorem with_anyF {w : World} {a : Option Addr} {n cp : Nat} {l : List Mk} {m : Mk} (h : Ms w a n l) (hr : Right l) (hm : mayB m = true) :
    Calls Try.prog 13 #[.slice a n cp, mval m] w fun e w' => ∃ a' n' c', e = .returned (.slice a' n' c') ∧ Ms w' a' n' (withL l m) ∧ Below w.heap.size w w' ∧ Fr w.heap.size a' := by
  have H := hide h
  have hn : n ≤ 8 := by rw [← h.len]; exact right_length hr
  have HL : Hid (l.length = n) := h.len
  have HR := hide hr
  have HM := hide hm
  clear h hr hm
  unfold mval
  go_enter Try.func13, Try.ntmps13
  go_wp2_with fail
  have HB0 : Hid (Below w.heap.size w (w.alloc (.cells #[.int .i64 m.c, .int .i64 m.s, .bool m.o, .int .i64 m.a.e, .int .i64 m.a.v, .int .i64 m.a.lo, .int .i64 m.a.hi] 30))) := (Below.refl _ _).alloc (Nat.le_refl _) _
  obtain ⟨w1, ew⟩ : ∃ w1, w1 = w.alloc (.cells #[.int .i64 m.c, .int .i64 m.s, .bool m.o, .int .i64 m.a.e, .int .i64 m.a.v, .int .i64 m.a.lo, .int .i64 m.a.hi] 30) := ⟨_, rfl⟩
  have HBX : Hid (w1.heap[w.heap.size]? = some (.cells #[.int .i64 m.c, .int .i64 m.s, .bool m.o, .int .i64 m.a.e, .int .i64 m.a.v, .int .i64 m.a.lo, .int .i64 m.a.hi] 30 (0, 0))) := by show _ = _; rw [ew]; exact heap_alloc_new w _
  rw [← ew] at HB0 ⊢
  have hs1 : w.heap.size < w1.heap.size := (Array.getElem?_eq_some_iff.1 HBX.out).1
  clear ew
  refine (FnM.clone_any (H.out.below HB0.out)).mono ?_
  rintro e w2 ⟨a1, c1, rfl, hb2, ho2⟩
  have HB2 := hide hb2
  have HO2 := hide ho2
  have HX2 : Hid (w2.heap[w.heap.size]? = _) := (hb2.block _ hs1).trans HBX.out
  obtain ⟨x0, x1, x2, x3, x4, x5, x6⟩ := mk_row m HX2.out
  have HM2 : Hid (Ms w2 a1 n l) := Rl.of_row mflat ho2 (by omega)
  clear hb2 ho2
  go_wp2_with fail
  refine (place_any HM2.out HR.out).mono ?_
  rintro e w3 ⟨rfl, hb3⟩
  have HX3 : Hid (w3.heap[w.heap.size]? = _) := (hb3.block _ (Nat.lt_of_lt_of_le hs1 HB2.out.size)).trans HX2.out
  have HO3 := hide (row_keeps HO2.out hb3)
  have HB3 := hide hb3
  clear hb3 x0 x1 x2 x3 x4 x5 x6
  obtain ⟨x0, x1, x2, x3, x4, x5, x6⟩ := mk_row m HX3.out
  have HB13 : Hid (Below w.heap.size w w3) := HB0.out.trans ((HB2.out.trans (HB3.out.mono HB2.out.size)).mono HB0.out.size)
  have hs3 : w1.heap.size ≤ w3.heap.size := Nat.le_trans HB2.out.size HB3.out.size
  obtain ⟨p, ep⟩ : ∃ p, p = posL m.c l := ⟨_, rfl⟩
  have hpn : p ≤ n := by rw [ep, ← HL.out]; exact posL_le _ _
  have EP := hide ep
  rw [← ep]
  clear ep
  cases hq : lkM l m.c with
  | none =>
    have HW : Hid (withL l m = l.take p ++ [m] ++ l.drop p) := by show _ = _; rw [EP.out]; exact with_new HR.out HM.out hq
    clear hq
    go_wp2_with fail
    refine (FnM.insert_any (x := m) (HO3.out.alloc _) (Nat.le_trans hs3 (by simp)) (heap_alloc_new w3 _) (fun hk => by have := (HO3.out.lt _ hk).2; omega) hpn (by omega)).mono ?_
    rintro e w4 ⟨a4, c4, rfl, ho4, hc4⟩
    have HO4 := hide ho4
    have HC4 := hide hc4
    clear ho4 hc4
    go_wp2_with fail
    go_returns
    refine ⟨_, _, _, rfl, ?_, ?_, fr_row HO4.out (Nat.le_refl _) HB0.out.size⟩
    · rw [HW.out]
      exact Rl.of_row mflat HO4.out (by omega)
    · exact (HB13.out.alloc HB13.out.size _).trans (HC4.out.below (Nat.le_trans HB13.out.size (by simp)) (fun k hk => by have := (HO3.out.lt k hk).1; omega))
  | some y =>
    have HW := hide (with_old HR.out HM.out hq)
    rw [← EP.out] at HW
    clear hq
    have hlt : p < n := by rw [← HL.out]; exact HW.out.2
    have ho' := HO3.out
    obtain ⟨_, ⟨e1, e2⟩ | ⟨g, cpp, cur, e1, hBg, hg, _⟩⟩ := id ho'
    · omega
    obtain ⟨rfl, rfl⟩ : a1 = some ⟨g, 0, none⟩ ∧ c1 = cpp := by simpa using e1
    have hfz : ∀ o, w3.frozen? ⟨g, o, none⟩ = false := fun o => frozen_of_row _ _ _ _ _ hg
    obtain ⟨b, off, z, eb, hz, _, M⟩ := ms_at (Rl.of_row (by_ := 56) mflat ho' (by omega)) hlt
    obtain ⟨rfl, rfl⟩ : g = b ∧ 0 = off := by simpa using eb
    rw [Nat.zero_add] at M
    obtain ⟨y0, y1, y2, y3, y4, y5, y6⟩ := M
    have HG := hide hBg
    have HS := hide (row_set mflat ho' hlt m)
    rw [set7] at HS
    have hi1 : (p : Int) < (n : Int) := by omega
    have hgw : ¬ g = w.heap.size := by omega
    clear hz ho' hg eb e1 hBg
    go_wp2_with fail
    go_returns
    refine ⟨_, _, _, rfl, ?_, ?_, fr_row HS.out.1 (Nat.le_refl _) HB0.out.size⟩
    · rw [HW.out.1]
      exact Rl.of_row mflat HS.out.1 (by omega)
    · exact HB13.out.grown HS.out.2 HB13.out.size (fun k hk => by cases hk; have := HG.out; have := HB0.out.size; omega)
set_option maxRecDepth 100000 in
set_option maxHeartbeats 1000000 in
theorem begin_anyF {w : World} {a : Option Addr} {n cp : Nat} {l : List Mk} {c q : Int} (h : Ms w a n l) :
    Calls Try.prog 9 #[.slice a n cp, .int .i64 c, .int .i64 q] w fun e w' => ∃ a' n' c', e = .returned (.tuple #[.slice a' n' c', .bool (beginF l c q), .int .i64 (beginE l c q)]) ∧ Ms w' a' n' (beginL l c q) ∧ Below w.heap.size w w' ∧ Fr w.heap.size a' := by
  have H := hide h
  have hroom := h.room
  clear h
  have CK := fun W => hide (fun hW : Below w.heap.size w W => check_any (c := cp) (H.out.below hW))
  cases hq : rightB 0 l with
  | false =>
    have e1 : beginE l c q = 21 := by unfold beginE; rw [hq]; rfl
    have e2 : beginF l c q = false := by unfold beginF; rw [hq]; rfl
    have e3 : beginL l c q = [] := by unfold beginL; rw [e1]; rfl
    rw [e1, e2, e3]
    rw [check_no hq] at CK
    clear e1 e2 e3 hq
    go_enter Try.func9, Try.ntmps9
    go_wp2_with fail
    refine ((CK _).out (Below.refl _ _)).mono ?_
    rintro e w1 ⟨rfl, hb1⟩
    have HB1 := hide hb1
    clear hb1 CK
    go_wp2_with fail
    go_returns
    exact ⟨_, _, _, rfl, Rl.nil _, HB1.out, fr_none _⟩
  | true =>
    rw [check_ok hq] at CK
    have HR : Hid (Right l) := hq
    have CC := fun W => hide (client_any c W)
    cases hc : (cliB c && seqB q) with
    | false =>
      have e1 : beginE l c q = 1 := by unfold beginE; rw [hq, hc]; rfl
      have e2 : beginF l c q = false := by unfold beginF; rw [hq, Bool.true_and, hc]; rfl
      have e3 : beginL l c q = [] := by unfold beginL; rw [e1]; rfl
      rw [e1, e2, e3]
      have HS : Hid ((cliB c && seqB q) = false) := hc
      clear e1 e2 e3 hq hc
      generalize cliB c = b at CC HS
      cases b
      · go_enter Try.func9, Try.ntmps9
        go_wp2_with fail
        refine ((CK _).out (Below.refl _ _)).mono ?_
        rintro e w1 ⟨rfl, hb1⟩
        have HB1 := hide hb1
        clear hb1 CK
        go_wp2_with (go_at_call 14; refine (CC _).out.mono ?_; rintro e w' ⟨rfl, hw⟩; rw [hw]; clear hw)
        go_returns
        exact ⟨_, _, _, rfl, Rl.nil _, HB1.out, fr_none _⟩
      · have h1 : ¬ (1 ≤ q ∧ q ≤ 4611686018427387904) := by simpa [seqB] using HS.out
        clear HS
        by_cases h2 : q < 1
        · go_enter Try.func9, Try.ntmps9
          go_wp2_with fail
          refine ((CK _).out (Below.refl _ _)).mono ?_
          rintro e w1 ⟨rfl, hb1⟩
          have HB1 := hide hb1
          clear hb1 CK
          go_wp2_with (go_at_call 14; refine (CC _).out.mono ?_; rintro e w' ⟨rfl, hw⟩; rw [hw]; clear hw)
          go_returns
          exact ⟨_, _, _, rfl, Rl.nil _, HB1.out, fr_none _⟩
        · have h3 : 4611686018427387904 < q := by omega
          go_enter Try.func9, Try.ntmps9
          go_wp2_with fail
          refine ((CK _).out (Below.refl _ _)).mono ?_
          rintro e w1 ⟨rfl, hb1⟩
          have HB1 := hide hb1
          clear hb1 CK
          go_wp2_with (go_at_call 14; refine (CC _).out.mono ?_; rintro e w' ⟨rfl, hw⟩; rw [hw]; clear hw)
          go_returns
          exact ⟨_, _, _, rfl, Rl.nil _, HB1.out, fr_none _⟩
    | true =>
      simp only [Bool.and_eq_true] at hc
      obtain ⟨hc1, hc2⟩ := hc
      have FD := fun W => hide (fun hW : Below w.heap.size w W => find_any (cp := cp) (c := c) (H.out.below hW))
      rw [find_ok hq] at FD
      have hs : 1 ≤ q ∧ q ≤ 4611686018427387904 := by simpa [seqB] using hc2
      have hcc : 1 ≤ c ∧ c ≤ 8 := by simpa [cliB] using hc1
      rw [hc1] at CC
      have HE : Hid (beginE l c q = (match lkM l c with | some m => if q < m.s then 80 else 0 | none => 0)) := by show _ = _; unfold beginE; rw [hq, hc1, hc2]; rfl
      have HF : Hid (beginF l c q = (match lkM l c with | some m => decide (m.s < q) | none => true)) := by show _ = _; unfold beginF; rw [hq, hc1, hc2]; rfl
      have HM : Hid (mayB (opened c q) = true) := may_opened hcc hs
      have g1 : ¬ q < 1 := by omega
      have g2 : ¬ 4611686018427387904 < q := by omega
      have WI := fun W => hide (fun hW : Below w.heap.size w W => with_anyF (cp := cp) (H.out.below hW) HR.out HM.out)
      unfold mval opened an0 at WI
      clear hq hc1 hc2 hs hcc
      cases hf : lkM l c with
      | none =>
        have e1 : beginE l c q = 0 := by rw [HE.out, hf]
        have e2 : beginF l c q = true := by rw [HF.out, hf]
        have e3 : beginL l c q = withL l (opened c q) := by unfold beginL; rw [e1, e2]; rfl
        rw [e1, e2, e3]
        rw [hf, show (none : Option Mk).getD mk0 = mk0 from rfl] at FD
        unfold mval mk0 an0 at FD
        clear e1 e2 e3 HE HF hf
        go_enter Try.func9, Try.ntmps9
        go_wp2_with fail
        refine ((CK _).out (Below.refl _ _)).mono ?_
        rintro e w1 ⟨rfl, hb1⟩
        have HB1 := hide hb1
        clear hb1 CK
        go_wp2_with (go_at_call 14; refine (CC _).out.mono ?_; rintro e w' ⟨rfl, hw⟩; rw [hw]; clear hw)
        refine ((FD _).out HB1.out).mono ?_
        rintro e w2 ⟨rfl, hb2⟩
        have HB2 : Hid (Below w.heap.size w w2) := HB1.out.trans (hb2.mono HB1.out.size)
        clear hb2 HB1 FD CC
        go_wp2_with fail
        refine ((WI _).out (HB2.out.alloc HB2.out.size _)).mono ?_
        rintro e w3 ⟨a3, n3, c3, rfl, hm3, hb3, hf3⟩
        have HM3 := hide hm3
        have HB3 : Hid (Below w.heap.size w w3) := (HB2.out.alloc HB2.out.size _).trans (hb3.mono (HB2.out.alloc HB2.out.size _).size)
        have HF3 : Hid (Fr w.heap.size a3) := hf3.mono (HB2.out.alloc HB2.out.size _).size
        clear hm3 hb3 WI
        go_wp2_with fail
        go_returns
        exact ⟨_, _, _, rfl, HM3.out, HB3.out, HF3.out⟩
      | some m =>
        rw [hf, show (some m).getD mk0 = m from rfl] at FD
        unfold mval at FD
        by_cases h1 : q < m.s
        · have e1 : beginE l c q = 80 := by rw [HE.out, hf]; simp only; rw [if_pos h1]
          have e2 : beginF l c q = false := by rw [HF.out, hf]; simp only; rw [decide_eq_false (by omega)]
          have e3 : beginL l c q = [] := by unfold beginL; rw [e1]; rfl
          rw [e1, e2, e3]
          clear e1 e2 e3 HE HF hf WI
          go_enter Try.func9, Try.ntmps9
          go_wp2_with fail
          refine ((CK _).out (Below.refl _ _)).mono ?_
          rintro e w1 ⟨rfl, hb1⟩
          have HB1 := hide hb1
          clear hb1 CK
          go_wp2_with (go_at_call 14; refine (CC _).out.mono ?_; rintro e w' ⟨rfl, hw⟩; rw [hw]; clear hw)
          refine ((FD _).out HB1.out).mono ?_
          rintro e w2 ⟨rfl, hb2⟩
          have HB2 : Hid (Below w.heap.size w w2) := HB1.out.trans (hb2.mono HB1.out.size)
          clear hb2 HB1 FD CC
          go_wp2_with fail
          go_returns
          exact ⟨_, _, _, rfl, Rl.nil _, HB2.out.alloc HB2.out.size _, fr_none _⟩
        · have e1 : beginE l c q = 0 := by rw [HE.out, hf]; simp only; rw [if_neg h1]
          by_cases h2 : m.s = q
          · have e2 : beginF l c q = false := by rw [HF.out, hf]; simp only; rw [decide_eq_false (by omega)]
            have e3 : beginL l c q = l := by unfold beginL; rw [e1, e2]; rfl
            rw [e1, e2, e3]
            rw [h2] at FD
            clear e1 e2 e3 HE HF hf WI h1 h2
            have CL := fun W => hide (fun hW : Below w.heap.size w W => FnM.clone_any (cv := cp) (H.out.below hW))
            go_enter Try.func9, Try.ntmps9
            go_wp2_with fail
            refine ((CK _).out (Below.refl _ _)).mono ?_
            rintro e w1 ⟨rfl, hb1⟩
            have HB1 := hide hb1
            clear hb1 CK
            go_wp2_with (go_at_call 14; refine (CC _).out.mono ?_; rintro e w' ⟨rfl, hw⟩; rw [hw]; clear hw)
            refine ((FD _).out HB1.out).mono ?_
            rintro e w2 ⟨rfl, hb2⟩
            have HB2 : Hid (Below w.heap.size w w2) := HB1.out.trans (hb2.mono HB1.out.size)
            clear hb2 HB1 FD CC
            go_wp2_with fail
            refine ((CL _).out (HB2.out.alloc HB2.out.size _)).mono ?_
            rintro e w3 ⟨a3, c3, rfl, hb3, hm3⟩
            have HM3 : Hid (Ms w3 a3 n l) := ms_row hm3 hroom
            have HF3 : Hid (Fr w.heap.size a3) := fr_row hm3 (Nat.le_refl _) (HB2.out.alloc HB2.out.size _).size
            have HB3 : Hid (Below w.heap.size w w3) := (HB2.out.alloc HB2.out.size _).trans (hb3.mono (HB2.out.alloc HB2.out.size _).size)
            clear hm3 hb3 CL
            go_wp2_with fail
            go_returns
            exact ⟨_, _, _, rfl, HM3.out, HB3.out, HF3.out⟩
          · have e2 : beginF l c q = true := by rw [HF.out, hf]; simp only; rw [decide_eq_true (by omega)]
            have e3 : beginL l c q = withL l (opened c q) := by unfold beginL; rw [e1, e2]; rfl
            rw [e1, e2, e3]
            clear e1 e2 e3 HE HF hf
            go_enter Try.func9, Try.ntmps9
            go_wp2_with fail
            refine ((CK _).out (Below.refl _ _)).mono ?_
            rintro e w1 ⟨rfl, hb1⟩
            have HB1 := hide hb1
            clear hb1 CK
            go_wp2_with (go_at_call 14; refine (CC _).out.mono ?_; rintro e w' ⟨rfl, hw⟩; rw [hw]; clear hw)
            refine ((FD _).out HB1.out).mono ?_
            rintro e w2 ⟨rfl, hb2⟩
            have HB2 : Hid (Below w.heap.size w w2) := HB1.out.trans (hb2.mono HB1.out.size)
            clear hb2 HB1 FD CC
            go_wp2_with fail
            refine ((WI _).out (HB2.out.alloc HB2.out.size _)).mono ?_
            rintro e w3 ⟨a3, n3, c3, rfl, hm3, hb3, hf3⟩
            have HM3 := hide hm3
            have HB3 : Hid (Below w.heap.size w w3) := (HB2.out.alloc HB2.out.size _).trans (hb3.mono (HB2.out.alloc HB2.out.size _).size)
            have HF3 : Hid (Fr w.heap.size a3) := hf3.mono (HB2.out.alloc HB2.out.size _).size
            clear hm3 hb3 WI
            go_wp2_with fail
            go_returns
            exact ⟨_, _, _, rfl, HM3.out, HB3.out, HF3.out⟩
set_option maxRecDepth 100000 in
set_option maxHeartbeats 1000000 in
theorem end_anyF {w : World} {a : Option Addr} {n cp : Nat} {l : List Mk} {c q : Int} {x : An} (h : Ms w a n l) :
    Calls Try.prog 7 #[.slice a n cp, .int .i64 c, .int .i64 q, aval x] w fun e w' => ∃ a' n' c', e = .returned (.tuple #[.slice a' n' c', .int .i64 (openE l c q)]) ∧ Ms w' a' n' (endL l c q x) ∧ Below w.heap.size w w' ∧ Fr w.heap.size a' := by
  have H := hide h
  clear h
  have OP := fun W => hide (fun hW : Below w.heap.size w W => isopen_any (cp := cp) (c := c) (q := q) (H.out.below hW))
  unfold aval
  by_cases h0 : openE l c q = 0
  · obtain ⟨hr, _, h1, h2, h3, h4⟩ := open_of h0
    have e1 : endL l c q x = withL l ⟨c, q, false, x⟩ := by unfold endL; rw [if_pos h0]
    rw [h0] at OP
    rw [h0, e1]
    have WI := fun W => hide (fun hW : Below w.heap.size w W => with_anyF (cp := cp) (H.out.below hW) hr (may_ended (s := q) (c := c) x ⟨h1, h2⟩ ⟨by omega, h4⟩))
    unfold mval at WI
    clear h0 e1 hr h1 h2 h3 h4
    go_enter Try.func7, Try.ntmps7
    go_wp2_with fail
    refine ((OP _).out (by go_grown)).mono ?_
    rintro e w1 ⟨rfl, hb1⟩
    have HX : Hid (w1.heap[w.heap.size]? = some (.cells #[.int .i64 x.e, .int .i64 x.v, .int .i64 x.lo, .int .i64 x.hi] 28 (0, 0))) := (hb1.block _ (by simp)).trans (heap_alloc_new w _)
    have z0 : w1.cell? ⟨w.heap.size, 0, none⟩ = some (.int .i64 x.e) := by rw [cell_of_row _ _ _ _ _ _ HX.out]; rfl
    have z1 : w1.cell? ⟨w.heap.size, 1, none⟩ = some (.int .i64 x.v) := by rw [cell_of_row _ _ _ _ _ _ HX.out]; rfl
    have z2 : w1.cell? ⟨w.heap.size, 2, none⟩ = some (.int .i64 x.lo) := by rw [cell_of_row _ _ _ _ _ _ HX.out]; rfl
    have z3 : w1.cell? ⟨w.heap.size, 3, none⟩ = some (.int .i64 x.hi) := by rw [cell_of_row _ _ _ _ _ _ HX.out]; rfl
    have HB1 : Hid (Below w.heap.size w w1) := (Below.alloc (Below.refl _ _) (Nat.le_refl _) _).trans (hb1.mono (by simp))
    clear OP hb1
    go_wp2_with fail
    refine ((WI _).out HB1.out).mono ?_
    rintro e w2 ⟨a2, n2, c2, rfl, hm2, hb2, hf2⟩
    have HM2 := hide hm2
    have HB2 : Hid (Below w.heap.size w w2) := HB1.out.trans (hb2.mono HB1.out.size)
    have HF2 : Hid (Fr w.heap.size a2) := hf2.mono HB1.out.size
    clear hm2 hb2
    go_wp2_with fail
    go_returns
    exact ⟨_, _, _, rfl, HM2.out, HB2.out, HF2.out⟩
  · have e1 : endL l c q x = [] := by unfold endL; rw [if_neg h0]
    rw [e1]
    obtain ⟨r, er⟩ : ∃ r, r = openE l c q := ⟨_, rfl⟩
    rw [← er] at OP h0 ⊢
    have h2 : (r != 0) = true := by simpa using h0
    clear er e1
    go_enter Try.func7, Try.ntmps7
    go_wp2_with fail
    refine ((OP _).out (by go_grown)).mono ?_
    rintro e w1 ⟨rfl, hb1⟩
    have HB1 : Hid (Below w.heap.size w w1) := (Below.alloc (Below.refl _ _) (Nat.le_refl _) _).trans (hb1.mono (by simp))
    clear OP hb1
    go_wp2_with fail
    go_returns
    exact ⟨_, _, _, rfl, Rl.nil _, HB1.out, fr_none _⟩
set_option maxRecDepth 100000 in
set_option maxHeartbeats 1000000 in
theorem lose_anyF {w : World} {a : Option Addr} {n cp : Nat} {l : List Mk} {c q : Int} (h : Ms w a n l) :
    Calls Try.prog 8 #[.slice a n cp, .int .i64 c, .int .i64 q] w fun e w' => ∃ a' n' c', e = .returned (.tuple #[.slice a' n' c', .int .i64 (openE l c q)]) ∧ Ms w' a' n' (loseL l c q) ∧ Below w.heap.size w w' ∧ Fr w.heap.size a' := by
  have H := hide h
  clear h
  have OP := fun W => hide (fun hW : Below w.heap.size w W => isopen_any (cp := cp) (c := c) (q := q) (H.out.below hW))
  by_cases h0 : openE l c q = 0
  · obtain ⟨hr, _, h1, h2, h3, h4⟩ := open_of h0
    have e1 : loseL l c q = withL l ⟨c, q - 1, false, lost⟩ := by unfold loseL; rw [if_pos h0]
    rw [h0] at OP
    rw [h0, e1]
    have WI := fun W => hide (fun hW : Below w.heap.size w W => with_anyF (cp := cp) (H.out.below hW) hr (may_ended (s := q - 1) (c := c) lost ⟨h1, h2⟩ ⟨by omega, by omega⟩))
    unfold mval lost at WI
    clear h0 e1 hr h1 h2
    go_enter Try.func8, Try.ntmps8
    go_wp2_with fail
    refine ((OP _).out (Below.refl _ _)).mono ?_
    rintro e w1 ⟨rfl, hb1⟩
    have HB1 := hide hb1
    clear OP hb1
    go_wp2_with fail
    refine ((WI _).out (HB1.out.alloc HB1.out.size _)).mono ?_
    rintro e w2 ⟨a2, n2, c2, rfl, hm2, hb2, hf2⟩
    have HM2 := hide hm2
    have HB2 : Hid (Below w.heap.size w w2) := (HB1.out.alloc HB1.out.size _).trans (hb2.mono (HB1.out.alloc HB1.out.size _).size)
    have HF2 : Hid (Fr w.heap.size a2) := hf2.mono (HB1.out.alloc HB1.out.size _).size
    clear hm2 hb2
    go_wp2_with fail
    go_returns
    exact ⟨_, _, _, rfl, HM2.out, HB2.out, HF2.out⟩
  · have e1 : loseL l c q = [] := by unfold loseL; rw [if_neg h0]
    rw [e1]
    obtain ⟨r, er⟩ : ∃ r, r = openE l c q := ⟨_, rfl⟩
    rw [← er] at OP h0 ⊢
    have h2 : (r != 0) = true := by simpa using h0
    clear er e1
    go_enter Try.func8, Try.ntmps8
    go_wp2_with fail
    refine ((OP _).out (Below.refl _ _)).mono ?_
    rintro e w1 ⟨rfl, hb1⟩
    have HB1 := hide hb1
    clear OP hb1
    go_wp2_with fail
    go_returns
    exact ⟨_, _, _, rfl, Rl.nil _, HB1.out, fr_none _⟩
end Go.Proofs.Ytbeikdppcfpplab
