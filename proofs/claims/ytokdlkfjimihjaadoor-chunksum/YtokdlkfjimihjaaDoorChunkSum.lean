/- ChunkSum: what is done has the sum that its pieces say, whatever they are. Condition: the table of the half bytes is as the program's text lays it (the card). -/
import Derived.Test.YtokdlkfjimihjaaDoorChuRun
import Derived.Test.YtokdlkfjimihjaaDoorCards
import Derived.Test.YtokdlkfjimihjaaDoorTie
import Derived.Deep.DeepHandedRow
import Derived.Lib.LaidTab
namespace Go.Proofs.YtokdlkfjimihjaaDoor
namespace ChunkSum
open Go.ChangeShapes Go.WideShapes Go.ChangeAt Go.RowKit B8 Ck
set_option linter.unusedVariables false

/-- the box and the bytes, whatever its map -/
def Kp (W : World) (B : Nat) (s : Bx) (a : Option Addr) (n c : Nat) (xs : List Int) (y : World) : Prop := (∃ mo, BxN W y B mo s) ∧ Bi y (fun _ => True) a n c xs
set_option maxRecDepth 100000 in
set_option maxHeartbeats 4000000 in
theorem walk {W : World} {a : Option Addr} {m c : Nat} {l : List Pv} (h : Ls W (fun k => k < W.heap.size) a m l) (ht : Tab W) :
    Calls Tryd.prog 6 #[.slice a m c] W fun e w' => e = .returned (.bool true) ∧ Below W.heap.size W w' := by
  have H := hide h
  have HT := hide ht
  have rm := h.room
  obtain ⟨B, eB⟩ : ∃ B, B = W.heap.size := ⟨_, rfl⟩
  have CN := hide (bxn_new W (Below.refl W.heap.size W))
  rw [← eB] at CN
  have EB := hide eB
  clear h ht eB
  go_enter Tryd.func6, Tryd.ntmps6
  go_wp2_with fail
  refine CN.out.mono ?_
  rintro e w1 ⟨rfl, hb1, hn1⟩
  have N1 := hide hn1
  clear hb1 hn1 CN
  go_wp2_with fail
  refine (awake_any (HT.out.below N1.out.below)).mono ?_
  rintro e w2 ⟨rfl, hb2⟩
  have N2 := hide (N1.out.next hb2)
  clear hb2
  go_wp2_with fail
  go_loopw [4] (fun x wr => ∃ (k : Nat) (mo : Option Nat) (s : Bx), k ≤ m ∧ x = .int .i64 k ∧ Hid (BxN W wr B mo s)) (fun x _ => m - (intOf x).toNat)
  case atStart => exact ⟨0, none, newS, Nat.zero_le _, rfl, N2⟩
  case round =>
    obtain ⟨k, mo, s, hk, rfl, HN⟩ := hrel
    by_cases hlt : k < m
    · have i1 : (k : Int) < (m : Int) := by omega
      have i2 : (0 : Int) ≤ (k : Int) := by omega
      obtain ⟨b, off, p, rfl, _, _, hpl, c0, c1, c2, c3⟩ := (H.out.below HN.out.below).at hlt
      have CP := hide (HN.out.put (any_ok ((H.out.below HN.out.below).each p hpl)))
      clear hpl
      go_wp2_with fail
      refine CP.out.mono ?_
      rintro e w3 ⟨rfl, ⟨mo3, hn3⟩, _⟩
      have N3 := hide hn3
      clear hn3 c0 c1 c2 c3
      go_wp2_with fail
      go_roundw
      case rel => exact ⟨k + 1, mo3, _, by omega, by go_num, N3⟩
      case measure => simp [intOf]; omega
    · have hkm : k = m := by omega
      clear hk
      subst hkm
      obtain ⟨m', em'⟩ : ∃ m', m' = k := ⟨_, rfl⟩
      subst em'
      have CD := hide (done_any HN.out.bm (HT.out.below HN.out.below))
      have DL := hide (doneL_length HN.out.bm.ok)
      cases hd : doneB s with
      | false =>
        rw [hd, done_no hd] at CD
        simp only [List.length_nil] at CD
        clear hd
        go_wp2_with fail
        refine CD.out.mono ?_
        rintro e w4 ⟨a4, c4, rfl, hb4, _⟩
        have N4 := hide (HN.out.next hb4)
        clear hb4
        go_wp2_with fail
        go_ret
        exact ⟨rfl, N4.out.below⟩
      | true =>
        have D1 := hide (done_sum hd).1
        have D2 := hide (done_sum hd).2
        rw [hd] at CD
        obtain ⟨xs, ex⟩ : ∃ xs, xs = doneL s := ⟨_, rfl⟩
        rw [← ex] at CD DL D2
        obtain ⟨n5, e5⟩ : ∃ n5, n5 = xs.length := ⟨_, rfl⟩
        rw [← e5] at CD DL
        have EX := hide ex
        have E5 := hide e5
        clear hd ex e5
        have j5 : (n5 : Int) ≤ 8192 := by have := DL.out; omega
        go_wp2_with fail
        refine CD.out.mono ?_
        rintro e w4 ⟨a4, c4, rfl, hb4, hr4⟩
        have N4 := hide (HN.out.next hb4)
        have WX : Hid (wfs xs) := by show wfs _; rw [EX.out]; exact HN.out.bm.wfsD
        have X4 : Hid (Bi w4 (fun _ => True) a4 n5 c4 xs) := bi_row E5.out.symm WX.out hr4 (fun _ _ => trivial)
        obtain ⟨S, eS⟩ : ∃ S : Int, S = s.sum := ⟨_, rfl⟩
        rw [← eS] at D2
        have ES := hide eS
        clear hb4 hr4 CD eS
        go_wp2_with fail
        go_loopw [7] (fun x wr => ∃ (k : Nat) (mo : Option Nat) (s' : Bx), k ≤ m' ∧ x = .int .i64 k ∧ Hid (BxN W wr B mo s') ∧ Hid (s'.sum = S ∧ s'.ps ≠ []) ∧ Hid (Bi wr (fun _ => True) a4 n5 c4 xs)) (fun x _ => m' - (intOf x).toNat)
        case atStart => exact ⟨0, mo, s, Nat.zero_le _, rfl, N4, ⟨ES.out.symm, D1.out⟩, X4⟩
        case round =>
          obtain ⟨k, mo1, s1, hk, rfl, HN1, HS, HX⟩ := hrel
          by_cases hlt : k < m'
          · have i1 : (k : Int) < (m' : Int) := by omega
            have i2 : (0 : Int) ≤ (k : Int) := by omega
            obtain ⟨b, off, p, rfl, hbl, _, hpl, e0, e1, e2, e3⟩ := H.out.at hlt
            have LB := hide hbl
            have E0 := hide e0
            have E1 := hide e1
            have E2 := hide e2
            have E3 := hide e3
            have c0 := (HN1.out.below.cell (p := ⟨b, off + k * 4, none⟩) hbl).trans e0
            have c1 := (HN1.out.below.cell (p := ⟨b, off + k * 4 + 1, none⟩) hbl).trans e1
            have c2 := (HN1.out.below.cell (p := ⟨b, off + k * 4 + 2, none⟩) hbl).trans e2
            have c3 := (HN1.out.below.cell (p := ⟨b, off + k * 4 + 3, none⟩) hbl).trans e3
            have CP := hide (HN1.out.drew.put (any_ok ((H.out.below HN1.out.drew.below).each p hpl)))
            have PS := hide (put_sum HS.out.2 p.pc)
            have NB : Hid (∀ k, BM B mo1 k → NoB wr.drew k) := fun k hk => HN1.out.drew.bm.noB k hk
            have HXD : Hid (Bi wr.drew (fun _ => True) a4 n5 c4 xs) := HX.out.same (fun _ _ _ => rfl)
            have PL := hide hpl
            clear e0 e1 e2 e3 hbl hpl
            rcases put_cases s1 p.pc with hz | hz | hz
            · rw [hz] at CP
              have hsum : p.sum = S := by
                have h1 := PS.out.2.2 hz
                rw [HS.out.1] at h1
                exact h1
              rw [hsum] at c2 E2
              have ST : Hid (sumB xs = fsum xs) := sumB_fsum xs
              clear hz
              go_wp2_with fail
              go_region_held3 (fun v => v.cell? ⟨b, off + k * 4, none⟩ = some (.int .i64 p.k) ∧ v.cell? ⟨b, off + k * 4 + 1, none⟩ = some (.int .i64 p.of) ∧ v.cell? ⟨b, off + k * 4 + 2, none⟩ = some (.int .u32 S) ∧ v.cell? ⟨b, off + k * 4 + 3, none⟩ = some (.slice p.a p.m p.cp)) (first | go_keep | exact ⟨c0, c1, c2, c3⟩ | exact ⟨d0, d1, d2, d3⟩) ((first | (go_at_call 18; rw [← hsum]; refine CP.out.mono ?_; rintro e w3 ⟨rfl, ⟨mo3, hn3⟩, hc3⟩; have N3 := hide hn3; have X3 : Hid (Bi w3 (fun _ => True) a4 n5 c4 xs) := HXD.out.chg hc3 (fun k hk => .inr (NB.out k hk)); have d0 := (hn3.below.cell (p := ⟨b, off + k * 4, none⟩) LB.out).trans E0.out; have d1 := (hn3.below.cell (p := ⟨b, off + k * 4 + 1, none⟩) LB.out).trans E1.out; have d2 := (hn3.below.cell (p := ⟨b, off + k * 4 + 2, none⟩) LB.out).trans E2.out; have d3 := (hn3.below.cell (p := ⟨b, off + k * 4 + 3, none⟩) LB.out).trans E3.out; clear hn3 hc3) | (go_at_call 26; refine (refsum_sq X3.out.1 (by have := DL.out; omega)).mono ?_; rintro e w5 ⟨rfl, rfl⟩; rw [ST.out, D2.out])))
              all_goals
                go_wp2_with fail
                go_roundw
                case rel => exact ⟨k + 1, mo3, _, by omega, by go_num, N3, ⟨by rw [PS.out.1]; exact HS.out.1, PS.out.2.1⟩, X3⟩
                case measure => simp [intOf]; omega
            · have hz2 : putS s1 p.pc = s1 := putS_ne (by rw [hz]; decide)
              have KP : Hid (∀ y : World, Kp W B s1 a4 n5 c4 xs y → Calls Tryd.prog 18 #[.pointer (some ⟨B, 0, none⟩), .agg #[.int .i64 p.k, .int .i64 p.of, .int .u32 p.sum, .slice p.a p.m p.cp]] y fun e w' => e = .returned (.int .i64 21) ∧ Kp W B s1 a4 n5 c4 xs w' ∧ AllCells w' [(⟨b, off + k * 4, none⟩, .int .i64 p.k), (⟨b, off + k * 4 + 1, none⟩, .int .i64 p.of), (⟨b, off + k * 4 + 2, none⟩, .int .u32 p.sum), (⟨b, off + k * 4 + 3, none⟩, .slice p.a p.m p.cp)]) := fun y hy => by
                obtain ⟨⟨mo, hn⟩, hx⟩ := hy
                have C := hn.put (any_ok ((H.out.below hn.below).each p PL.out))
                rw [hz, hz2] at C
                refine C.mono fun e w' hw => ⟨hw.1, ⟨hw.2.1, hx.chg hw.2.2 (fun k hk => .inr (hn.bm.noB k hk))⟩, ?_⟩
                obtain ⟨mo', hn'⟩ := hw.2.1
                exact ⟨(hn'.below.cell (p := ⟨b, off + k * 4, none⟩) LB.out).trans E0.out, (hn'.below.cell (p := ⟨b, off + k * 4 + 1, none⟩) LB.out).trans E1.out, (hn'.below.cell (p := ⟨b, off + k * 4 + 2, none⟩) LB.out).trans E2.out, (hn'.below.cell (p := ⟨b, off + k * 4 + 3, none⟩) LB.out).trans E3.out, trivial⟩
              clear hz hz2 CP
              go_wp2_with fail
              refine wp_region_heldK (Kp W B s1 a4 n5 c4 xs) [(⟨b, off + k * 4, none⟩, .int .i64 p.k), (⟨b, off + k * 4 + 1, none⟩, .int .i64 p.of), (⟨b, off + k * 4 + 2, none⟩, .int .u32 p.sum), (⟨b, off + k * 4 + 3, none⟩, .slice p.a p.m p.cp)] (by kernel_rfl) (by kernel_rfl) ⟨⟨mo1, HN1.out.drew⟩, HXD.out⟩ (by exact ⟨c0, c1, c2, c3, trivial⟩) ?_
              intro hne qq
              simp only [AllCells, and_true] at qq
              clear c0 c1 c2 c3
              repeat (go_big_quiet_step (first | (go_at_call 18; exact HeldK.call _ (KP.out _ (HeldK.ok _)))))
              refine wpQuiet_nil ?_
              rintro _ ⟨y, rfl⟩
              obtain ⟨⟨mo3, hn3⟩, hx3⟩ := y.ok
              have N3 := hide hn3
              have X3 := hide hx3
              clear qq hne hn3 hx3 KP
              go_wp2_with fail
              go_roundw
              case rel => exact ⟨k + 1, mo3, _, by omega, by go_num, N3, HS, X3⟩
              case measure => simp [intOf]; omega
            · have hz2 : putS s1 p.pc = s1 := putS_ne (by rw [hz]; decide)
              have KP : Hid (∀ y : World, Kp W B s1 a4 n5 c4 xs y → Calls Tryd.prog 18 #[.pointer (some ⟨B, 0, none⟩), .agg #[.int .i64 p.k, .int .i64 p.of, .int .u32 p.sum, .slice p.a p.m p.cp]] y fun e w' => e = .returned (.int .i64 120) ∧ Kp W B s1 a4 n5 c4 xs w' ∧ AllCells w' [(⟨b, off + k * 4, none⟩, .int .i64 p.k), (⟨b, off + k * 4 + 1, none⟩, .int .i64 p.of), (⟨b, off + k * 4 + 2, none⟩, .int .u32 p.sum), (⟨b, off + k * 4 + 3, none⟩, .slice p.a p.m p.cp)]) := fun y hy => by
                obtain ⟨⟨mo, hn⟩, hx⟩ := hy
                have C := hn.put (any_ok ((H.out.below hn.below).each p PL.out))
                rw [hz, hz2] at C
                refine C.mono fun e w' hw => ⟨hw.1, ⟨hw.2.1, hx.chg hw.2.2 (fun k hk => .inr (hn.bm.noB k hk))⟩, ?_⟩
                obtain ⟨mo', hn'⟩ := hw.2.1
                exact ⟨(hn'.below.cell (p := ⟨b, off + k * 4, none⟩) LB.out).trans E0.out, (hn'.below.cell (p := ⟨b, off + k * 4 + 1, none⟩) LB.out).trans E1.out, (hn'.below.cell (p := ⟨b, off + k * 4 + 2, none⟩) LB.out).trans E2.out, (hn'.below.cell (p := ⟨b, off + k * 4 + 3, none⟩) LB.out).trans E3.out, trivial⟩
              clear hz hz2 CP
              go_wp2_with fail
              refine wp_region_heldK (Kp W B s1 a4 n5 c4 xs) [(⟨b, off + k * 4, none⟩, .int .i64 p.k), (⟨b, off + k * 4 + 1, none⟩, .int .i64 p.of), (⟨b, off + k * 4 + 2, none⟩, .int .u32 p.sum), (⟨b, off + k * 4 + 3, none⟩, .slice p.a p.m p.cp)] (by kernel_rfl) (by kernel_rfl) ⟨⟨mo1, HN1.out.drew⟩, HXD.out⟩ (by exact ⟨c0, c1, c2, c3, trivial⟩) ?_
              intro hne qq
              simp only [AllCells, and_true] at qq
              clear c0 c1 c2 c3
              repeat (go_big_quiet_step (first | (go_at_call 18; exact HeldK.call _ (KP.out _ (HeldK.ok _)))))
              refine wpQuiet_nil ?_
              rintro _ ⟨y, rfl⟩
              obtain ⟨⟨mo3, hn3⟩, hx3⟩ := y.ok
              have N3 := hide hn3
              have X3 := hide hx3
              clear qq hne hn3 hx3 KP
              go_wp2_with fail
              go_roundw
              case rel => exact ⟨k + 1, mo3, _, by omega, by go_num, N3, HS, X3⟩
              case measure => simp [intOf]; omega
          · go_wp2_with fail
            go_ret
            exact ⟨rfl, HN1.out.below⟩
theorem gTab : Tryd.prog.globalNamed "purse/codec.halves" = some 0 := by kernel_rfl
theorem gTabType : (Tryd.prog.globals[0]?).map (·.type) = some 66 := by kernel_rfl
theorem cellsT : Tryd.prog.cellsOf 66 = 16 := by kernel_rfl
theorem cellsE : Tryd.prog.cellsOf 31 = 1 := by kernel_rfl
theorem table {W : World} (h : laidMetH Tryd.prog Rows.chunkSumRow.laid W) : Tab W := by
  have t : Lib.TabIs Tryd.prog W "purse/codec.halves" .u32 Crc.tab := Lib.tabIs_of_head (rest := []) gTab gTabType Tryd.underlying66 Tryd.underlying31 cellsE cellsT h
  intro j hj
  rw [t.cell gTab j hj]
  simp [List.getD]
theorem contract (H : Type) (enc : TypeId × Value → H) (W : World) (base : Nat) (args : Array Value) (ds gs : List (DataW H)) (before : List MemPlace)
    (hval0 : ∀ (j : Nat) t v, Tryd.f6.params[j]? = some t → args[j]? = some v → Value.okWide Tryd.prog W .any base t v)
    (hW : DataW.Whole enc Tryd.prog Tryd.f6.params.toList Rows.chunkSumSpec.vars false W args.toList ds gs before)
    (hsz0 : (DataW.weightsEach Tryd.prog (Tryd.f6.params.toList ++ Rows.chunkSumSpec.plain.varTypes Tryd.prog) (ds ++ gs)).all (· ≤ reachBytes) = true) (hL : laidMetH Tryd.prog Rows.chunkSumRow.laid W) :
    Calls Tryd.prog 6 args W fun e W' => ∃ v, e = .returned v ∧ Rows.chunkSumSpec.post enc Tryd.prog Tryd.f6 false true false false W args v W' := by
  have hsz : (DataW.weightsEach Tryd.prog (Tryd.f6.params.toList ++ Rows.chunkSumSpec.plain.varTypes Tryd.prog) (ds ++ gs)).all (· ≤ reachBytes) = true := hsz0
  have hval : ∀ (j : Nat) t v, Tryd.f6.params[j]? = some t → args[j]? = some v → Value.okWide Tryd.prog W .any base t v := hval0
  have hW' := hW
  obtain ⟨p, q, hA0, hV, rfl, hfz, hnd⟩ := hW
  have hA : DataW.TrodAll enc Tryd.prog W 0 (fun _ => true) true Tryd.f6.params.toList args.toList ds p := hA0
  rw [Tryd.params6] at hA hval hsz
  obtain ⟨v0, vs0, d0, ds0, p0, q0, hargs, rfl, rfl, h0, r0⟩ := trodAll_cons hA
  obtain ⟨rfl, rfl, rfl⟩ := trodAll_nil r0
  obtain rfl : args = #[v0] := by cases args; simp_all
  obtain ⟨rfl, rfl⟩ := trodVars_none hV
  have lt0 : ∀ x ∈ p0, x.block < W.heap.size := by obtain ⟨m, hm⟩ := h0; exact DataW.trod_lt m _ _ _ hm
  obtain ⟨a, m, c, l, rfl, h⟩ := open_pieces_held (hval 0 24 v0 rfl rfl) h0 (fun n hn => by have h := List.all_eq_true.1 hsz n (DataW.weights_mem_each (j := 0) rfl rfl n hn); simpa using h)
  clear hA0 hval0
  refine (walk h (table hL)).mono fun e W' ⟨he, bel⟩ => ?_
  subst he
  exact ⟨_, rfl, _, _, _, [], _, [], hW', trodAll_mk1 (shut_bool Tryd.underlying4 _), (trodAll_cons_mk (Below.trod laidOut (by kernel_rfl) (of_decide_eq_true (by kernel_rfl)) h0 bel lt0) trodAll_mk0), rfl, bel.frame _, fun h => by cases h⟩

noncomputable def laidWorld (os : Os) : World :=
  { World.holding Tryd.prog os ⟨#[], #[], []⟩ with heap := (World.holding Tryd.prog os ⟨#[], #[], []⟩).heap.modify 0 fun
      | .cells _ t frozen => .cells #[.int .u32 0, .int .u32 498536548, .int .u32 997073096, .int .u32 651767980, .int .u32 1994146192, .int .u32 1802195444, .int .u32 1303535960, .int .u32 1342533948, .int .u32 3988292384, .int .u32 4027552580, .int .u32 3604390888, .int .u32 3412177804, .int .u32 2607071920, .int .u32 2262029012, .int .u32 2685067896, .int .u32 3183342108] t frozen
      | o => o }
theorem laid_met (os : Os) : laidMet Tryd.prog Rows.chunkSumRow.laid ((laidWorld os).forCall (fun _ _ => 0) ⟨#[], #[Value.slice none 0 0], []⟩).memory :=
  laidMet_of_run' 8 (by kernel_rfl) (by kernel_rfl)
theorem reads (os : Os) {H : Type} (enc : TypeId × Value → H) : ∃ places, DataW.whole enc Tryd.prog ((laidWorld os).forCall (fun _ _ => 0) ⟨#[], #[Value.slice none 0 0], []⟩).memory Tryd.f6.params.toList Rows.chunkSumSpec.vars false #[Value.slice none 0 0].toList 8 = some ([.nil], [], places) :=
  ⟨[], by kernel_rfl⟩
set_option maxRecDepth 100000 in
theorem lifted (os : Os) (started : os.Started) (H : Type) (enc : TypeId × Value → H) (F : Stop.Interp) :
    ReturnsInHanded {} Tryd.checked os 6 .any ((OpenSpec.ofChange Rows.chunkSumSpec).preRow enc Tryd.prog Tryd.f6 Rows.chunkSumRow.domain false Rows.chunkSumRow.laid) (((OpenSpec.ofChange Rows.chunkSumSpec).at F).post enc Tryd.prog Tryd.f6 false true false false) := by
  obtain ⟨places, hx⟩ := reads os enc
  refine returnsInHanded_of_row (C := Tryd.checked) (s := OpenSpec.ofChange Rows.chunkSumSpec) own started (by kernel_rfl) Tryd.func6
    (witness_row_at (enc := enc) (C := Tryd.checked) false (laidWorld os) #[Value.slice none 0 0] rfl (by kernel_rfl) (by kernel_rfl) (by kernel_rfl)
      (OpenSpec.preRow_of_cond 8 hx (by kernel_rfl) (fun k hk => by cases hk) (by kernel_rfl) (laid_met os))) ?_
  intro W base args ds gs before hval hW _ _ hsz hL _ _
  exact contract H enc W base args ds gs before hval hW hsz hL

theorem said : Rows.ChunkSumSaid :=
  OpenClaim.holds_of_cond 6 Tryd.f6 rfl rfl rfl rfl rfl rfl rfl ⟨rfl, rfl, rfl, rfl, rfl⟩ rfl rfl rfl rfl rfl (by kernel_rfl) Tryd.func6 (by kernel_rfl)
    (of_decide_eq_true (by kernel_rfl)) (by unfold Func.isWrapper; first | (rw [if_pos (by decide +kernel)]; kernel_rfl) | (rw [if_neg (by decide +kernel)]; exact ⟨rfl, rfl⟩))
    (fun os started H enc _ F => by rw [OpenClaim.pre_eq_preRow]; exact lifted os started H enc F)
theorem plain (f : FuncId) (fn : Func) (hf : Tryd.pinned.checked.prog.funcNamed "purse/purselaw12.ChunkSum" = some f) (hfn : Tryd.pinned.checked.prog.funcs[f]? = some fn) :
    true = Tryd.pinned.checked.prog.looks [] ∧ ∀ (j : Nat) t, fn.params[j]? = some t → Tryd.pinned.checked.prog.wantsStandIn t = false := by
  obtain rfl : f = 6 := Option.some.inj ((show Tryd.prog.funcNamed "purse/purselaw12.ChunkSum" = some 6 by kernel_rfl).symm.trans hf) |>.symm
  obtain rfl : fn = Tryd.f6 := (Option.some.inj (Tryd.func6.symm.trans hfn)).symm
  refine ⟨by kernel_rfl, fun j t ht => ?_⟩
  rw [Tryd.params6] at ht
  have hmem := Array.mem_of_getElem? ht
  have ht2 : t = 24 := by simpa using hmem
  rcases ht2 with rfl
  exact (show Tryd.prog.wantsStandIn 24 = false by kernel_rfl)
theorem card : Rows.ChunkSumCardSaid :=
  Claim7.holds_tied_plain_at .later [] _ _ _ _ said (fun _ h => by cases h) (by kernel_rfl) (fun _ h => by cases h) chunkSum_row_tie rfl ⟨rfl, rfl⟩ (by kernel_rfl) rfl plain (by kernel_rfl)
#print axioms card
end ChunkSum
theorem chunkSum_holds : Rows.ChunkSumCardSaid := ChunkSum.card
end Go.Proofs.YtokdlkfjimihjaaDoor
