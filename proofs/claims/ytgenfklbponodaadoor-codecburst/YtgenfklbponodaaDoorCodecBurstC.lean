/- CodecBurst: for every list of bytes, number and mask: a frame of whose sum bits are turned, or of whose bytes some that lie within 32 neighbouring ones, is refused. Condition: the table of the half bytes as the program's text lays it (the card ties it). -/
import Derived.Test.YtgenfklbponodaaDoorCodecOpen
import Derived.Test.YtgenfklbponodaaDoorCodecAwake
import Derived.Test.YtgenfklbponodaaDoorCodecAt
import Derived.Test.YtgenfklbponodaaDoorCodecBurstA
import Derived.Test.YtgenfklbponodaaDoorCards
import Derived.Test.YtgenfklbponodaaDoorTie
import Derived.Deep.DeepHandedRow
import Derived.Lib.LaidTab
namespace Go.Proofs.YtgenfklbponodaaDoor
namespace CodecBurst
open Go.ChangeShapes Go.WideShapes Go.ChangeAt Go.RowKit B8 Cm Uf
set_option linter.unusedVariables false

set_option maxRecDepth 20000 in
set_option maxHeartbeats 4000000 in
theorem short_sumb {a : Option Addr} {cap : Nat} {bs : List Int} {w : World} (h : Sq w a 0 cap bs) (ht : Tab w) (t : Int) (t0 : -9223372036854775808 ≤ t) (t1 : t ≤ 9223372036854775807) (M : Nat) (hM : M < 4294967296) (h0 : 0 ≤ 65536) (hodd : ¬ t.tmod 2 = 0) :
    Calls Tryd.prog 3 #[.slice a 0 cap, .int .i64 t, .int .u32 M] w fun e w' => e = .returned (.bool true) ∧ Below w.heap.size w w' := by
  have HL := hide h.length
  have H := hide h
  have HT := hide ht
  have HW := hide h.wf
  have WF := fframe_wfs bs h.wf (by rw [h.length]; omega)
  have LF : (fframe bs).length = 0 + 8 := by rw [fframe_length, HL.out]
  have UA := unfA_frame bs [] (by rw [HL.out]; omega)
  rw [List.append_nil] at UA
  have C1 := cframe_sq h ht h0
  rw [LF] at C1
  obtain ⟨N, eN⟩ : ∃ N, N = 0 + 8 := ⟨_, rfl⟩
  obtain ⟨nb, ebits⟩ : ∃ nb, nb = 32 := ⟨_, rfl⟩
  obtain ⟨first, hf, ef⟩ := rem_form (t.tdiv 2) nb (by omega)
  obtain ⟨A, eA⟩ : ∃ A, A = 32 + first := ⟨_, rfl⟩
  obtain ⟨E, eE⟩ : ∃ E, E = 32 + nb := ⟨_, rfl⟩
  have hN : E ≤ 8 * N := by omega
  have hr : (32 ≤ A ∧ E = 64) ∨ (64 ≤ A ∧ E = 64 + 8 * bs.length) := by rw [HL.out]; omega
  rw [← eN] at LF C1
  have hNm : N ≤ 65544 := by omega
  have hN8 : 8 ≤ N := by omega
  have BAD : Hid (∀ G k, k ≤ 32 → Turned (fframe bs) G A E M k true → unfA G = ([], 0, 23)) := fun G k hk hT => turned_bad (by rw [HL.out]; omega) HW.out hk hT hr
  have SAME : Hid (∀ G k, Turned (fframe bs) G A E M k false → unfA G = (bs, 8 + (bs.length : Int), 0)) := fun G k hT => by rw [turned_same WF hT]; exact UA
  obtain ⟨F, eF⟩ : ∃ F, F = fframe bs := ⟨_, rfl⟩
  rw [← eF] at WF LF C1 BAD SAME
  have C1 := hide C1
  have HF := hide LF
  have HWF := hide WF
  have EN := hide eN
  have EA := hide eA
  have EE := hide eE
  subst ebits
  have ef' : (IntKind.u64.wrap (t.tdiv 2)).tmod 32 = (first : Int) := ef
  have p1 : (t.tmod 2 == 0) = false := by simpa using hodd
  clear hodd ef
  clear h ht UA LF WF eF eN eA eE hr
  go_enter Tryd.func3, Tryd.ntmps3
  go_wp2_with fail
  refine C1.out.mono ?_
  rintro e w1 ⟨y, rfl, o1, b1⟩
  obtain ⟨af, cf, rfl, q1⟩ := sq_of_row HF.out HWF.out o1
  have B1 := hide b1
  obtain ⟨g, eg, hg, fr1⟩ : ∃ g, af = some ⟨g, 0, none⟩ ∧ w.heap.size ≤ g ∧ Fr w1 g N cf F := by
    obtain ⟨am, cm, em, mm⟩ := mine_of_row HF.out HWF.out o1
    obtain ⟨rfl, rfl⟩ : af = am ∧ cf = cm := by simpa using em
    obtain ⟨b, off, ee, _⟩ := q1.cells (by omega)
    subst ee
    obtain ⟨g, cur, e1, e2, e3, e4⟩ := mm.2 _ rfl
    obtain ⟨rfl, rfl⟩ : b = g ∧ off = 0 := by simpa using e1
    exact ⟨b, rfl, e2, q1, fun j hj => by simp [World.frozen?, e3]⟩
  subst eg
  have FR1 := hide fr1
  clear o1 b1 q1 C1 fr1
  go_wp2_with fail
  refine (awake_any w1).mono ?_
  rintro e w2 ⟨rfl, b2⟩
  have B2 := hide (below_step B1.out b2)
  have FR2 := hide (FR1.out.below (by omega) b2)
  have T2 := hide (HT.out.below B2.out)
  have HG0 : Hid (some 0 ≠ some g) := fun e => by cases e; have := World.block_lt_of_cell? w _ (HT.out 0 (by omega)); exact absurd hg (by have h0 : (0 : Nat) < w.heap.size := this; omega)
  clear b2 FR1 B1
  go_wp2_with fail
  go_loopw [12, 13, 14] (fun sm kv _ wr => ∃ (k : Nat) (s : Bool) (G : List Int), k ≤ 32 ∧ sm = .bool s ∧ kv = .int .i64 k ∧ Hid (Turned F G A E M k s) ∧ Hid (Fr wr g N cf G) ∧ Hid (Tab wr) ∧ Hid (Below w.heap.size w wr)) (fun _ kv _ _ => 33 - (intOf kv).toNat)
  case atStart => exact ⟨0, false, F, by omega, rfl, rfl, turned_none F HWF.out A E M, FR2, T2, B2⟩
  case round =>
    obtain ⟨k, s, G, hk, rfl, rfl, TU, FR, TT, BB⟩ := hrel
    by_cases hgo : k < 32 ∧ A + k < E
    · have i1 : (k : Int) < 32 := by omega
      have i2 : (first : Int) + (k : Int) < (32 : Int) := by have := EA.out; have := EE.out; omega
      by_cases hm : M / 2 ^ k % 2 = 1
      · have qm := (mask_form M k hM).trans (decide_eq_true hm)
        obtain ⟨P, eP⟩ : ∃ P, P = A + k := ⟨_, rfl⟩
        have hP8 : P / 8 < N := by omega
        have TU' := turned_flip TU.out hm hgo.2 (by rw [TU.out.length, HF.out]; omega)
        rw [← eP] at TU'
        have FR' := FR.out.set P hP8
        have z := bounds_u8 (FR.out.sq.wf (P / 8))
        have hfz := FR.out.free (P / 8) hP8
        obtain ⟨bq, oq, ee, hcc⟩ := FR.out.sq.cells (by omega)
        obtain ⟨rfl, rfl⟩ : g = bq ∧ 0 = oq := by simpa using ee
        have hcell := hcc (P / 8) hP8
        rw [Nat.zero_add] at hcell
        obtain ⟨x, ex⟩ : ∃ x : Nat, (x : Int) = G[P / 8]?.getD 0 := ⟨(G[P / 8]?.getD 0).toNat, by omega⟩
        rw [← ex] at hcell FR' z
        rw [Int.toNat_natCast] at FR'
        have hx : x < 256 := by omega
        obtain ⟨D, eD⟩ : ∃ D, D = P / 8 := ⟨_, rfl⟩
        obtain ⟨Rm, eR⟩ : ∃ Rm, Rm = P % 8 := ⟨_, rfl⟩
        rw [← eD] at hcell hfz FR' hP8
        rw [← eR] at FR'
        have hR : Rm < 8 := by omega
        have tf := turn_form x Rm hx hR
        have s1 : (32 : Int) + (first : Int) = (A : Int) := by have := EA.out; omega
        have s2 : (A : Int) + (k : Int) = (P : Int) := by omega
        have s3 : (P : Int) / 8 = (D : Int) := by omega
        have s4 : (P : Int) % 8 = (Rm : Int) := by omega
        have s3' : (P : Int).tdiv 8 = (D : Int) := by rw [Int.tdiv_eq_ediv_of_nonneg (by omega)]; exact s3
        have s4' : (P : Int).tmod 8 = (Rm : Int) := by rw [Int.tmod_eq_emod_of_nonneg (by omega)]; exact s4
        have s9 : (0 : Int) ≤ (Rm : Int) := by omega
        have s11 : P / 8 = D := by omega
        have s13 : IntKind.i64.wrap (D : Int) = (D : Int) := by rw [IntKind.wrap_i64]; omega
        have s14 : IntKind.i64.wrap (Rm : Int) = (Rm : Int) := by rw [IntKind.wrap_i64]; omega
        have s12 : P % 8 = Rm := by omega
        have s10 : (Rm : Int) < 8 := by omega
        have s5 : (D : Int) < (N : Int) := by omega
        have s6 : (0 : Int) ≤ (D : Int) := by omega
        have s7 : (0 : Int) ≤ (P : Int) := by omega
        have s8 : (P : Int) ≤ 1000000 := by omega
        have TUh := hide TU'
        have FRh := hide FR'
        have KD := hide hcell
        clear TU' FR' ee hcc eP ex eD eR
        go_wp2_with fail
        have V0 := hide (valAt_at hcell)
        have V1 : valAt ⟨g, D, none⟩ wr = (x : Int) := valAt_eq hcell
        have V2 : valAt ⟨g, D, none⟩ wr.drew = (x : Int) := valAt_eq hcell
        have KS : Hid ((wr.setCell ⟨g, D, none⟩ (.int .u8 ((x ^^^ 2 ^ Rm : Nat) : Int))).drew.cell? ⟨g, D, none⟩ = some (.int .u8 (valAt ⟨g, D, none⟩ (wr.setCell ⟨g, D, none⟩ (.int .u8 ((x ^^^ 2 ^ Rm : Nat) : Int))).drew))) := valAt_at (w := (wr.setCell ⟨g, D, none⟩ (.int .u8 ((x ^^^ 2 ^ Rm : Nat) : Int))).drew) (World.cell?_setCell_same _ _ _ hcell)
        go_region_with (fail)
        go_wp2_with fail
        go_roundw
        case rel =>
          refine ⟨k + 1, true, flipAt G P, by omega, rfl, by go_num, TUh, ⟨FRh.out.sq.drew 1, FRh.out.free⟩, ?_, ?_⟩
          · exact fun j hj => (grown_setCell wr g D _).cell (TT.out j hj) HG0.out
          · exact below_drewN (BB.out.grown (grown_setCell wr g D _) BB.out.size (fun k hk => by cases hk; exact hg)) 1
        case measure => simp [intOf]; omega
      · have qm := (mask_form M k hM).trans (decide_eq_false hm)
        have TUs := hide (turned_skip TU.out hm)
        go_wp2_with fail
        go_roundw
        case rel => exact ⟨k + 1, s, G, by omega, rfl, by go_num, TUs, FR, TT, BB⟩
        case measure => simp [intOf]; omega
    · have hend : k = 32 ∨ (k < 32 ∧ 32 ≤ first + k) := by have := EA.out; have := EE.out; omega
      have CUA := unf_land FR.out.sq TT.out (by omega)
      unfold Unf at CUA
      cases s
      · rw [SAME.out G k TU.out] at CUA
        have CUB : Calls Tryd.prog 6 #[.slice (some ⟨g, 0, none⟩) N cf] wr fun e w' => ∃ a cp, e = .returned (.tuple #[.slice a bs.length cp, .int .i64 (8 + (bs.length : Int)), .int .i64 0]) ∧ Sq w' a bs.length cp bs ∧ Below wr.heap.size wr w' := CUA
        rw [HL.out] at CUB
        have CU := hide CUB
        clear CUA CUB
        rcases hend with rfl | ⟨hk32, hnb⟩
        · go_wp2_with fail
          refine CU.out.mono ?_
          rintro e w3 ⟨a3, c3, rfl, q3, b3⟩
          have B3 := hide (below_step BB.out b3)
          have Q3 := hide q3
          clear b3 q3 CU
          go_wp2_with fail
          refine (bytes_sq Q3.out (H.out.below B3.out) (by omega)).mono ?_
          rintro e w4 ⟨rfl, m4, rfl⟩
          go_wp2_with fail
          go_ret
          exact ⟨rfl, below_drewN B3.out _⟩
        · have j1 : (k : Int) < 32 := by omega
          have j2 : (32 : Int) ≤ (first : Int) + (k : Int) := by omega
          go_wp2_with fail
          refine CU.out.mono ?_
          rintro e w3 ⟨a3, c3, rfl, q3, b3⟩
          have B3 := hide (below_step BB.out b3)
          have Q3 := hide q3
          clear b3 q3 CU
          go_wp2_with fail
          refine (bytes_sq Q3.out (H.out.below B3.out) (by omega)).mono ?_
          rintro e w4 ⟨rfl, m4, rfl⟩
          go_wp2_with fail
          go_ret
          exact ⟨rfl, below_drewN B3.out _⟩
      · rw [BAD.out G k hk TU.out] at CUA
        have CUB : Calls Tryd.prog 6 #[.slice (some ⟨g, 0, none⟩) N cf] wr fun e w' => ∃ a cp, e = .returned (.tuple #[.slice a 0 cp, .int .i64 0, .int .i64 23]) ∧ Sq w' a 0 cp [] ∧ Below wr.heap.size wr w' := CUA
        have CU := hide CUB
        clear CUA CUB
        rcases hend with rfl | ⟨hk32, hnb⟩
        · go_wp2_with fail
          refine CU.out.mono ?_
          rintro e w3 ⟨a3, c3, rfl, q3, b3⟩
          have B3 := hide (below_step BB.out b3)
          clear b3 q3 CU
          go_wp2_with fail
          go_ret
          exact ⟨rfl, B3.out⟩
        · have j1 : (k : Int) < 32 := by omega
          have j2 : (32 : Int) ≤ (first : Int) + (k : Int) := by omega
          go_wp2_with fail
          refine CU.out.mono ?_
          rintro e w3 ⟨a3, c3, rfl, q3, b3⟩
          have B3 := hide (below_step BB.out b3)
          clear b3 q3 CU
          go_wp2_with fail
          go_ret
          exact ⟨rfl, B3.out⟩

end CodecBurst
end Go.Proofs.YtgenfklbponodaaDoor
