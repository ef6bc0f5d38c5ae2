/- ChunkForks: a fork is alike, and neither shows what is done to the other; a box that is cleared is as a new one; a nil box. Condition: the table of the half bytes is as the program's text lays it (the card). -/
import Derived.Test.YtokdlkfjimihjaaDoorChuRun
import Derived.Test.YtokdlkfjimihjaaDoorPlI
import Derived.Test.YtokdlkfjimihjaaDoorCards
import Derived.Test.YtokdlkfjimihjaaDoorTie
import Derived.Deep.DeepHandedRow
import Derived.Lib.LaidTab
namespace Go.Proofs.YtokdlkfjimihjaaDoor
namespace ChunkForks
open Go.ChangeShapes Go.WideShapes Go.ChangeAt Go.RowKit B8 Ck
set_option linter.unusedVariables false

theorem put_nil (p : Pv) (w : World) :
    Calls Tryd.prog 18 #[.pointer none, .agg #[.int .i64 p.k, .int .i64 p.of, .int .u32 p.sum, .slice p.a p.m p.cp]] w fun e w' => e = .returned (.int .i64 2) ∧ Below w.heap.size w w' := by
  go_enter Tryd.func18, Tryd.ntmps18
  go_wp2_with fail
  go_ret
  exact ⟨rfl, below_alloc (Below.refl _ _) _⟩
set_option maxRecDepth 100000 in
set_option maxHeartbeats 4000000 in
theorem walk {W : World} {a a' : Option Addr} {m c m' c' : Nat} {l l' : List Pv} (h : Ls W (fun k => k < W.heap.size) a m l) (h' : Ls W (fun k => k < W.heap.size) a' m' l') (ht : Tab W) :
    Calls Tryd.prog 7 #[.slice a m c, .slice a' m' c'] W fun e w' => e = .returned (.bool true) ∧ Below W.heap.size W w' := by
  have H := hide h
  have H' := hide h'
  have HT := hide ht
  have rm := h.room
  have rm' := h'.room
  obtain ⟨B, eB⟩ : ∃ B, B = W.heap.size := ⟨_, rfl⟩
  have CN := hide (bxn_new W (Below.refl W.heap.size W))
  rw [← eB] at CN
  clear h h' ht eB
  go_enter Tryd.func7, Tryd.ntmps7
  go_wp2_with fail
  refine CN.out.mono ?_
  rintro e w1 ⟨rfl, hb1, hn1⟩
  have N1 := hide hn1
  clear hb1 hn1 CN
  go_wp2_with fail
  refine (awake_any (HT.out.below N1.out.below)).mono ?_
  rintro e w2 ⟨rfl, hb2⟩
  have N2 := hide (N1.out.next hb2)
  clear hb2
  go_wp2_with fail
  go_loopw [6] (fun x wr => ∃ (k : Nat) (mo : Option Nat) (s : Bx), k ≤ m ∧ x = .int .i64 k ∧ Hid (BxN W wr B mo s)) (fun x _ => m - (intOf x).toNat)
  case atStart => exact ⟨0, none, newS, Nat.zero_le _, rfl, N2⟩
  case round =>
    obtain ⟨k, mo, s, hk, rfl, HN⟩ := hrel
    by_cases hlt : k < m
    · have i1 : (k : Int) < (m : Int) := by omega
      have i2 : (0 : Int) ≤ (k : Int) := by omega
      obtain ⟨b, off, p, rfl, _, _, hpl, c0, c1, c2, c3⟩ := (H.out.below HN.out.below).at hlt
      have CP := hide (HN.out.put (any_ok ((H.out.below HN.out.below).each p hpl)))
      clear hpl
      go_wp2_with fail
      refine CP.out.mono ?_
      rintro e w3 ⟨rfl, ⟨mo3, hn3⟩, hc3⟩
      have N3 := hide hn3
      clear hn3 hc3 c0 c1 c2 c3
      go_wp2_with fail
      go_roundw
      case rel => exact ⟨k + 1, mo3, _, by omega, by go_num, N3⟩
      case measure => simp [intOf]; omega
    · clear N1 N2
      have LM : Hid ((missL s).length ≤ 16) := by
        show _ ≤ _
        have h1 := missN_length s.ps (max s.of 1).toNat
        have h2 := HN.out.bm.ok.of
        unfold missL
        omega
      obtain ⟨nL, enL⟩ : ∃ nL, nL = (missL s).length := ⟨_, rfl⟩
      obtain ⟨nX, enX⟩ : ∃ nX, nX = (doneL s).length := ⟨_, rfl⟩
      have LX : Hid (nX ≤ 8192) := by show _ ≤ _; rw [enX]; exact doneL_length HN.out.bm.ok
      have CM : Hid (∀ y, Bm y (fun _ => True) B mo s → Calls Tryd.prog 23 #[.pointer (some ⟨B, 0, none⟩)] y fun e w' => ∃ a c, e = .returned (.slice a nL c) ∧ Below y.heap.size y w' ∧ w'.ownsRow y.heap.size 3 1 (.slice a nL c) nL (I8.vals (missL s))) := fun y hy => by rw [enL]; exact missing_any hy
      have CD : Hid (∀ y, Bm y (fun _ => True) B mo s → Tab y → Calls Tryd.prog 20 #[.pointer (some ⟨B, 0, none⟩)] y fun e w' => ∃ a c, e = .returned (.tuple #[.slice a nX c, .bool (doneB s)]) ∧ Below y.heap.size y w' ∧ w'.ownsRow y.heap.size 5 1 (.slice a nX c) nX (B8.vals (doneL s))) := fun y hy ht => by rw [enX]; exact done_any hy ht
      have WI : Hid (I8.wfs (missL s)) := missL_wfs s HN.out.bm.ok
      have WD : Hid (wfs (doneL s)) := HN.out.bm.wfsD
      have EL := hide enL
      have EX := hide enX
      rw [← enL] at LM
      clear enL enX
      go_wp2_with fail
      refine (fork_any HN.out.bm).mono ?_
      rintro e w3 ⟨B2, mo2, rfl, hb3, hm3, hg3⟩
      have F3 : Hid (BxN wr w3 B2 mo2 s) := ⟨hb3, hm3, hg3⟩
      have M3 := hide (HN.out.bm.below hb3)
      have HF := hide (missing_any hm3)
      rw [← EL.out] at HF
      clear hb3 hm3 hg3
      go_wp2_with fail
      refine HF.out.mono ?_
      rintro e w4 ⟨a4, c4, rfl, hb4, hr4⟩
      have F4 := hide (F3.out.next hb4)
      have R4 := hide hr4
      clear hb4 hr4 HF
      go_wp2_with fail
      refine (CM.out _ (HN.out.bm.below F4.out.below)).mono ?_
      rintro e w5 ⟨a5, c5, rfl, hb5, hr5⟩
      have F5 := hide (F4.out.next hb5)
      have CE : Hid (Calls Tryd.prog 22 #[.slice a4 nL c4, .slice a5 nL c5] w5 fun e w' => e = .returned (.bool true) ∧ ∃ n, w' = w5.drewN n) := by
        obtain ⟨x1, y1, e1, q1⟩ := I8.sq_of_row EL.out.symm WI.out (I8.row_below R4.out hb5)
        obtain ⟨x2, y2, e2, q2⟩ := I8.sq_of_row EL.out.symm WI.out hr5
        obtain ⟨rfl, rfl⟩ : a4 = x1 ∧ c4 = y1 := by simpa using e1
        obtain ⟨rfl, rfl⟩ : a5 = x2 ∧ c5 = y2 := by simpa using e2
        exact I8.plain_sq q1 q2 (by have := LM.out; omega)
      clear hb5 hr5
      go_wp2_with fail
      refine CE.out.mono ?_
      rintro e w6 ⟨rfl, n6, e6⟩
      have F6 : Hid (BxN wr w6 B2 mo2 s) := by rw [e6]; exact F5.out.next (below_drewN8 (Below.refl _ _) _)
      clear e6 CE R4
      go_wp2_with fail
      refine (CM.out _ (HN.out.bm.below F6.out.below)).mono ?_
      rintro e w7 ⟨aL, cL, rfl, hb7, hr7⟩
      have F7 := hide (F6.out.next hb7)
      have R7 := hide hr7
      clear hb7 hr7
      go_wp2_with fail
      refine (CD.out _ (HN.out.bm.below F7.out.below) (HT.out.below (below_step HN.out.below F7.out.below))).mono ?_
      rintro e w8 ⟨aX, cX, rfl, hb8, hr8⟩
      have F8 := hide (F7.out.next hb8)
      have R8 := hide (I8.row_below R7.out hb8)
      have X8 := hide hr8
      clear hb8 hr8 R7
      go_wp2_with fail
      refine (clear_any F8.out.bm).mono ?_
      rintro e w9 ⟨rfl, hc9, hm9⟩
      have F9 : Hid (BxN wr w9 B2 mo2 newS) := ⟨F8.out.below.trans (hc9.below F8.out.below.size F8.out.base), hm9, F8.out.base⟩
      have R9 := hide (row_box R8.out (by decide) F8.out.bm hc9)
      have X9 := hide (row_box X8.out (by decide) F8.out.bm hc9)
      obtain ⟨T1, eT1⟩ : ∃ T1, T1 = w6.heap.size := ⟨_, rfl⟩
      obtain ⟨T2, eT2⟩ : ∃ T2, T2 = w7.heap.size := ⟨_, rfl⟩
      rw [← eT1] at R9
      rw [← eT2] at X9
      obtain ⟨V, eV⟩ : ∃ V, V = wr := ⟨_, rfl⟩
      rw [← eV] at HN F9
      clear hc9 hm9 eT1 eT2 F3 F4 F5 F6 F7 F8 R8 X8 M3
      subst eV
      go_wp2_with fail
      go_loopw [11] (fun x wr => ∃ (k : Nat) (mo3 : Option Nat) (s3 : Bx), k ≤ m' ∧ x = .int .i64 k ∧ Hid (BxN V wr B2 mo3 s3) ∧ Hid (wr.ownsRow T1 3 1 (.slice aL nL cL) nL (I8.vals (missL s))) ∧ Hid (wr.ownsRow T2 5 1 (.slice aX nX cX) nX (B8.vals (doneL s)))) (fun x _ => m' - (intOf x).toNat)
      case atStart => exact ⟨0, mo2, newS, Nat.zero_le _, rfl, F9, R9, X9⟩
      case round =>
        obtain ⟨k2, mo3, s3, hk2, rfl, HF, HR, HX⟩ := hrel
        have BW : Hid (Below W.heap.size W wr) := below_step HN.out.below HF.out.below
        by_cases hlt2 : k2 < m'
        · have i1 : (k2 : Int) < (m' : Int) := by omega
          have i2 : (0 : Int) ≤ (k2 : Int) := by omega
          obtain ⟨b, off, p, rfl, _, _, hpl, c0, c1, c2, c3⟩ := (H'.out.below BW.out).at hlt2
          have CP := hide (HF.out.put (any_ok ((H'.out.below BW.out).each p hpl)))
          clear hpl
          go_wp2_with fail
          refine CP.out.mono ?_
          rintro e w10 ⟨rfl, ⟨mo4, hn4⟩, hc4⟩
          have N4 := hide hn4
          have R4 := hide (row_box HR.out (by decide) HF.out.bm hc4)
          have X4 := hide (row_box HX.out (by decide) HF.out.bm hc4)
          clear hn4 hc4 c0 c1 c2 c3 CP
          go_wp2_with fail
          go_roundw
          case rel => exact ⟨k2 + 1, mo4, _, by omega, by go_num, N4, R4, X4⟩
          case measure => simp [intOf]; omega
        · have MB := hide (HN.out.bm.below HF.out.below)
          go_wp2_with fail
          refine (CD.out _ MB.out (HT.out.below BW.out)).mono ?_
          rintro e w11 ⟨aY, cY, rfl, hb11, hr11⟩
          have B11 : Hid (Below W.heap.size W w11) := below_step BW.out hb11
          have M11 := hide (MB.out.below hb11)
          have R11 := hide (I8.row_below HR.out hb11)
          have X11 := hide (row_below HX.out hb11)
          have Y11 := hide hr11
          clear hb11 hr11
          go_wp2_with fail
          refine (CM.out _ M11.out).mono ?_
          rintro e w12 ⟨a12, c12, rfl, hb12, hr12⟩
          have B12 : Hid (Below W.heap.size W w12) := below_step B11.out hb12
          have M12 := hide (M11.out.below hb12)
          have CE : Hid (Calls Tryd.prog 22 #[.slice a12 nL c12, .slice aL nL cL] w12 fun e w' => e = .returned (.bool true) ∧ ∃ n, w' = w12.drewN n) := by
            obtain ⟨x1, y1, e1, q1⟩ := I8.sq_of_row EL.out.symm WI.out (I8.row_below R11.out hb12)
            obtain ⟨x2, y2, e2, q2⟩ := I8.sq_of_row EL.out.symm WI.out hr12
            obtain ⟨rfl, rfl⟩ : aL = x1 ∧ cL = y1 := by simpa using e1
            obtain ⟨rfl, rfl⟩ : a12 = x2 ∧ c12 = y2 := by simpa using e2
            exact I8.plain_sq q2 q1 (by have := LM.out; omega)
          have SX : Hid (Sq w12 aX nX cX (doneL s)) := by
            obtain ⟨x1, y1, e1, q1⟩ := sq_of_row EX.out.symm WD.out (row_below X11.out hb12)
            obtain ⟨rfl, rfl⟩ : aX = x1 ∧ cX = y1 := by simpa using e1
            exact q1
          have SY : Hid (Sq w12 aY nX cY (doneL s)) := by
            obtain ⟨x1, y1, e1, q1⟩ := sq_of_row EX.out.symm WD.out (row_below Y11.out hb12)
            obtain ⟨rfl, rfl⟩ : aY = x1 ∧ cY = y1 := by simpa using e1
            exact q1
          clear hb12 hr12 R11 X11 Y11
          go_wp2_with fail
          refine CE.out.mono ?_
          rintro e w13 ⟨rfl, n13, e13⟩
          have CY : Hid (Calls Tryd.prog 25 #[.slice aX nX cX, .slice aY nX cY] w13 fun e w' => e = .returned (.bool true) ∧ Below w13.heap.size w13 w') := by
            rw [e13]
            exact bytes_lit (SX.out.drew n13) (SY.out.drew n13) (by have := LX.out; omega) (by simp)
          have B13 : Hid (Below W.heap.size W w13) := by rw [e13]; exact below_drewN8 B12.out _
          have M13 : Hid (Bm w13 (fun _ => True) B mo s) := by rw [e13]; exact M12.out.drewN _
          clear e13 CE SX SY
          go_wp2_with fail
          refine CY.out.mono ?_
          rintro e w14 ⟨rfl, hb14⟩
          have B14 : Hid (Below W.heap.size W w14) := below_step B13.out hb14
          have M14 := hide (M13.out.below hb14)
          obtain ⟨dB, eD⟩ : ∃ dB, dB = doneB s := ⟨_, rfl⟩
          clear hb14 CY CD CM
          rw [← eD]
          clear eD
          cases dB
          all_goals
            go_wp2_with fail
            refine (clear_any M14.out).mono ?_
            rintro e w15 ⟨rfl, hc15, hm15⟩
            have B15 : Hid (Below W.heap.size W w15) := B14.out.trans (hc15.below B14.out.size HN.out.base)
            have M15 := hide hm15
            clear hc15 hm15
            go_wp2_with fail
            refine (clear_nil _).mono ?_
            rintro e w16 ⟨rfl, rfl⟩
            go_wp2_with fail
            refine (done_nil _).mono ?_
            rintro e w16 ⟨rfl, rfl⟩
            go_wp2_with fail
            refine (missing_any M15.out).mono ?_
            rintro e w17 ⟨a17, c17, rfl, hb17, hr17⟩
            have e17 : missL newS = [0] := by decide
            rw [e17] at hr17 ⊢
            have B17 : Hid (Below W.heap.size W w17) := below_step B15.out hb17
            obtain ⟨u, eu⟩ : ∃ u, u = w17.alloc (.cells #[.int .i64 0] 3) := ⟨_, rfl⟩
            have B18 : Hid (Below W.heap.size W u) := by rw [eu]; exact below_alloc B17.out _
            have CZ : Hid (Calls Tryd.prog 22 #[.slice a17 1 c17, .slice (some ⟨w17.heap.size, 0, none⟩) 1 1] u fun e w' => e = .returned (.bool true) ∧ ∃ n, w' = u.drewN n) := by
              have hw : I8.wfs [0] := I8.wfs_cons (by decide) I8.wfs_nil
              obtain ⟨x1, y1, e1, q1⟩ := I8.sq_of_row (zs := [0]) (len := 1) rfl hw (I8.row_below hr17 (show Below w17.heap.size w17 u by rw [eu]; exact below_alloc (Below.refl _ _) _))
              obtain ⟨rfl, rfl⟩ : a17 = x1 ∧ c17 = y1 := by simpa using e1
              refine I8.plain_sq q1 ⟨rfl, Nat.le_refl _, fun h => absurd h (by simp), fun _ => ⟨w17.heap.size, 0, rfl, fun j hj => ?_⟩, hw⟩ (by omega)
              have hh := heap_alloc_new w17 (.cells #[.int .i64 0] 3)
              rw [← eu] at hh
              obtain rfl : j = 0 := by omega
              rw [cell_of_row _ _ _ _ _ _ hh]
              rfl
            rw [eu] at CZ
            have EU := hide eu
            clear hb17 hr17 eu e17
            simp only [List.length_cons, List.length_nil, Nat.zero_add]
            go_wp2_with fail
            refine CZ.out.mono ?_
            rintro e w18 ⟨rfl, n18, e18⟩
            rw [← EU.out] at e18
            have B19 : Hid (Below W.heap.size W w18) := by rw [e18]; exact below_drewN8 B18.out _
            clear e18 CZ
            go_wp2_with fail
            refine (put_nil ⟨0, 1, 0, none, 0, 0, []⟩ _).mono ?_
            rintro e w20 ⟨rfl, hb20⟩
            have B20 : Hid (Below W.heap.size W w20) := below_step B19.out hb20
            clear hb20
            go_wp2_with fail
            refine (missing_nil _).mono ?_
            rintro e w21 ⟨rfl, rfl⟩
            go_wp2_with fail
            refine (fork_nil _).mono ?_
            rintro e w21 ⟨rfl, rfl⟩
            go_wp2_with fail
            go_ret
            exact ⟨rfl, B20.out⟩
theorem gTab : Tryd.prog.globalNamed "purse/codec.halves" = some 0 := by kernel_rfl
theorem gTabType : (Tryd.prog.globals[0]?).map (·.type) = some 66 := by kernel_rfl
theorem cellsT : Tryd.prog.cellsOf 66 = 16 := by kernel_rfl
theorem cellsE : Tryd.prog.cellsOf 31 = 1 := by kernel_rfl
theorem table {W : World} (h : laidMetH Tryd.prog Rows.chunkForksRow.laid W) : Tab W := by
  have t : Lib.TabIs Tryd.prog W "purse/codec.halves" .u32 Crc.tab := Lib.tabIs_of_head (rest := []) gTab gTabType Tryd.underlying66 Tryd.underlying31 cellsE cellsT h
  intro j hj
  rw [t.cell gTab j hj]
  simp [List.getD]
theorem contract (H : Type) (enc : TypeId × Value → H) (W : World) (base : Nat) (args : Array Value) (ds gs : List (DataW H)) (before : List MemPlace)
    (hval0 : ∀ (j : Nat) t v, Tryd.f7.params[j]? = some t → args[j]? = some v → Value.okWide Tryd.prog W .any base t v)
    (hW : DataW.Whole enc Tryd.prog Tryd.f7.params.toList Rows.chunkForksSpec.vars false W args.toList ds gs before)
    (hsz0 : (DataW.weightsEach Tryd.prog (Tryd.f7.params.toList ++ Rows.chunkForksSpec.plain.varTypes Tryd.prog) (ds ++ gs)).all (· ≤ reachBytes) = true) (hL : laidMetH Tryd.prog Rows.chunkForksRow.laid W) :
    Calls Tryd.prog 7 args W fun e W' => ∃ v, e = .returned v ∧ Rows.chunkForksSpec.post enc Tryd.prog Tryd.f7 false true false false W args v W' := by
  have hsz : (DataW.weightsEach Tryd.prog (Tryd.f7.params.toList ++ Rows.chunkForksSpec.plain.varTypes Tryd.prog) (ds ++ gs)).all (· ≤ reachBytes) = true := hsz0
  have hval : ∀ (j : Nat) t v, Tryd.f7.params[j]? = some t → args[j]? = some v → Value.okWide Tryd.prog W .any base t v := hval0
  have hW' := hW
  obtain ⟨p, q, hA0, hV, rfl, hfz, hnd⟩ := hW
  have hA : DataW.TrodAll enc Tryd.prog W 0 (fun _ => true) true Tryd.f7.params.toList args.toList ds p := hA0
  rw [Tryd.params7] at hA hval hsz
  obtain ⟨v0, vs0, d0, ds0, p0, q0, hargs, rfl, rfl, h0, r0⟩ := trodAll_cons hA
  obtain ⟨v1, vs1, d1, ds1, p1, q1, rfl, rfl, rfl, h1, r1⟩ := trodAll_cons r0
  obtain ⟨rfl, rfl, rfl⟩ := trodAll_nil r1
  obtain rfl : args = #[v0, v1] := by cases args; simp_all
  obtain ⟨rfl, rfl⟩ := trodVars_none hV
  have lt0 : ∀ x ∈ p0, x.block < W.heap.size := by obtain ⟨m, hm⟩ := h0; exact DataW.trod_lt m _ _ _ hm
  obtain ⟨a, m, c, l, rfl, h⟩ := open_pieces_held (hval 0 24 v0 rfl rfl) h0 (fun n hn => by have h := List.all_eq_true.1 hsz n (DataW.weights_mem_each (j := 0) rfl rfl n hn); simpa using h)
  have lt1 : ∀ x ∈ p1, x.block < W.heap.size := by obtain ⟨m, hm⟩ := h1; exact DataW.trod_lt m _ _ _ hm
  obtain ⟨a', m', c', l', rfl, h'⟩ := open_pieces_held (hval 1 24 v1 rfl rfl) h1 (fun n hn => by have h := List.all_eq_true.1 hsz n (DataW.weights_mem_each (j := 1) rfl rfl n hn); simpa using h)
  clear hA0 hval0
  refine (walk h h' (table hL)).mono fun e W' ⟨he, bel⟩ => ?_
  subst he
  exact ⟨_, rfl, _, _, _, [], _, [], hW', trodAll_mk1 (shut_bool Tryd.underlying4 _), (trodAll_cons_mk (Below.trod laidOut (by kernel_rfl) (of_decide_eq_true (by kernel_rfl)) h0 bel lt0) (trodAll_cons_mk (Below.trod laidOut (by kernel_rfl) (of_decide_eq_true (by kernel_rfl)) h1 bel lt1) trodAll_mk0)), rfl, bel.frame _, fun h => by cases h⟩

noncomputable def laidWorld (os : Os) : World :=
  { World.holding Tryd.prog os ⟨#[], #[], []⟩ with heap := (World.holding Tryd.prog os ⟨#[], #[], []⟩).heap.modify 0 fun
      | .cells _ t frozen => .cells #[.int .u32 0, .int .u32 498536548, .int .u32 997073096, .int .u32 651767980, .int .u32 1994146192, .int .u32 1802195444, .int .u32 1303535960, .int .u32 1342533948, .int .u32 3988292384, .int .u32 4027552580, .int .u32 3604390888, .int .u32 3412177804, .int .u32 2607071920, .int .u32 2262029012, .int .u32 2685067896, .int .u32 3183342108] t frozen
      | o => o }
theorem laid_met (os : Os) : laidMet Tryd.prog Rows.chunkForksRow.laid ((laidWorld os).forCall (fun _ _ => 0) ⟨#[], #[Value.slice none 0 0, Value.slice none 0 0], []⟩).memory :=
  laidMet_of_run' 8 (by kernel_rfl) (by kernel_rfl)
theorem reads (os : Os) {H : Type} (enc : TypeId × Value → H) : ∃ places, DataW.whole enc Tryd.prog ((laidWorld os).forCall (fun _ _ => 0) ⟨#[], #[Value.slice none 0 0, Value.slice none 0 0], []⟩).memory Tryd.f7.params.toList Rows.chunkForksSpec.vars false #[Value.slice none 0 0, Value.slice none 0 0].toList 8 = some ([.nil, .nil], [], places) :=
  ⟨[], by kernel_rfl⟩
set_option maxRecDepth 100000 in
theorem lifted (os : Os) (started : os.Started) (H : Type) (enc : TypeId × Value → H) (F : Stop.Interp) :
    ReturnsInHanded {} Tryd.checked os 7 .any ((OpenSpec.ofChange Rows.chunkForksSpec).preRow enc Tryd.prog Tryd.f7 Rows.chunkForksRow.domain false Rows.chunkForksRow.laid) (((OpenSpec.ofChange Rows.chunkForksSpec).at F).post enc Tryd.prog Tryd.f7 false true false false) := by
  obtain ⟨places, hx⟩ := reads os enc
  refine returnsInHanded_of_row (C := Tryd.checked) (s := OpenSpec.ofChange Rows.chunkForksSpec) own started (by kernel_rfl) Tryd.func7
    (witness_row_at (enc := enc) (C := Tryd.checked) false (laidWorld os) #[Value.slice none 0 0, Value.slice none 0 0] rfl (by kernel_rfl) (by kernel_rfl) (by kernel_rfl)
      (OpenSpec.preRow_of_cond 8 hx (by kernel_rfl) (fun k hk => by cases hk) (by kernel_rfl) (laid_met os))) ?_
  intro W base args ds gs before hval hW _ _ hsz hL _ _
  exact contract H enc W base args ds gs before hval hW hsz hL

theorem said : Rows.ChunkForksSaid :=
  OpenClaim.holds_of_cond 7 Tryd.f7 rfl rfl rfl rfl rfl rfl rfl ⟨rfl, rfl, rfl, rfl, rfl⟩ rfl rfl rfl rfl rfl (by kernel_rfl) Tryd.func7 (by kernel_rfl)
    (of_decide_eq_true (by kernel_rfl)) (by unfold Func.isWrapper; first | (rw [if_pos (by decide +kernel)]; kernel_rfl) | (rw [if_neg (by decide +kernel)]; exact ⟨rfl, rfl⟩))
    (fun os started H enc _ F => by rw [OpenClaim.pre_eq_preRow]; exact lifted os started H enc F)
theorem plain (f : FuncId) (fn : Func) (hf : Tryd.pinned.checked.prog.funcNamed "purse/purselaw12.ChunkForks" = some f) (hfn : Tryd.pinned.checked.prog.funcs[f]? = some fn) :
    true = Tryd.pinned.checked.prog.looks [] ∧ ∀ (j : Nat) t, fn.params[j]? = some t → Tryd.pinned.checked.prog.wantsStandIn t = false := by
  obtain rfl : f = 7 := Option.some.inj ((show Tryd.prog.funcNamed "purse/purselaw12.ChunkForks" = some 7 by kernel_rfl).symm.trans hf) |>.symm
  obtain rfl : fn = Tryd.f7 := (Option.some.inj (Tryd.func7.symm.trans hfn)).symm
  refine ⟨by kernel_rfl, fun j t ht => ?_⟩
  rw [Tryd.params7] at ht
  have hmem := Array.mem_of_getElem? ht
  have ht2 : t = 24 := by simp at hmem; omega
  rcases ht2 with rfl
  exact (show Tryd.prog.wantsStandIn 24 = false by kernel_rfl)
theorem card : Rows.ChunkForksCardSaid :=
  Claim7.holds_tied_plain_at .later [] _ _ _ _ said (fun _ h => by cases h) (by kernel_rfl) (fun _ h => by cases h) chunkForks_row_tie rfl ⟨rfl, rfl⟩ (by kernel_rfl) rfl plain (by kernel_rfl)
#print axioms card
end ChunkForks
theorem chunkForks_holds : Rows.ChunkForksCardSaid := ChunkForks.card
end Go.Proofs.YtokdlkfjimihjaaDoor
