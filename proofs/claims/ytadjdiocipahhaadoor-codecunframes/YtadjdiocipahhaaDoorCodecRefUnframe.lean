/- What the document's own Unframe (purseref02) returns, at the landed code. No condition. -/
import Derived.Test.YtadjdiocipahhaaDoorCodecRefFrame
import Derived.BigQuiet
namespace Go.Proofs.YtadjdiocipahhaaDoor
open Go.ChangeShapes Go.WideShapes Go.ChangeAt Go.RowKit B8 Cm
set_option linter.unusedVariables false

/-- the number that the first four bytes say -/
def wordV (bs : List Int) : Int := bs[0]?.getD 0 + bs[1]?.getD 0 * 256 + bs[2]?.getD 0 * 65536 + bs[3]?.getD 0 * 16777216

theorem reframe_word (b off len cap : Nat) (bs : List Int) (w : World) (hl : bs.length = len) (h4 : 4 ≤ len) (hz : wfs bs)
    (hcell : ∀ j, j < len → w.cell? ⟨b, off + j, none⟩ = some (.int .u8 (bs[j]?.getD 0))) :
    Calls Tryd.prog 31 #[.slice (some ⟨b, off, none⟩) len cap] w fun e w' => e = .returned (.int .u32 (wordV bs)) ∧ ∃ n, w' = w.drewN n := by
  have c0 : w.cell? ⟨b, off, none⟩ = some (.int .u8 (bs[0]?.getD 0)) := hcell 0 (by omega)
  have c1 := hcell 1 (by omega)
  have c2 := hcell 2 (by omega)
  have c3 := hcell 3 (by omega)
  have z0 := bounds_u8 (hz 0)
  have z1 := bounds_u8 (hz 1)
  have z2 := bounds_u8 (hz 2)
  have z3 := bounds_u8 (hz 3)
  have l0 : (0 : Int) < (len : Int) := by omega
  have l1 : (1 : Int) < (len : Int) := by omega
  have l2 : (2 : Int) < (len : Int) := by omega
  have l3 : (3 : Int) < (len : Int) := by omega
  obtain ⟨x0, e0⟩ : ∃ x, x = bs[0]?.getD 0 := ⟨_, rfl⟩
  obtain ⟨x1, e1⟩ : ∃ x, x = bs[1]?.getD 0 := ⟨_, rfl⟩
  obtain ⟨x2, e2⟩ : ∃ x, x = bs[2]?.getD 0 := ⟨_, rfl⟩
  obtain ⟨x3, e3⟩ : ∃ x, x = bs[3]?.getD 0 := ⟨_, rfl⟩
  have HV : Hid (wordV bs = x0 + x1 * 256 + x2 * 65536 + x3 * 16777216) := by show _ = _; rw [e0, e1, e2, e3]; rfl
  rw [← e0] at c0 z0
  rw [← e1] at c1 z1
  rw [← e2] at c2 z2
  rw [← e3] at c3 z3
  clear e0 e1 e2 e3 hcell hz hl
  go_enter Tryd.func31, Tryd.ntmps31
  go_wp2_with fail
  go_quiet (fail)
  go_wp2_with fail
  go_ret
  exact ⟨ret1 HV.out.symm, nq, rfl⟩

theorem wordV_bd (bs : List Int) (hz : wfs bs) : 0 ≤ wordV bs ∧ wordV bs ≤ 4294967295 := by
  have z0 := bounds_u8 (hz 0)
  have z1 := bounds_u8 (hz 1)
  have z2 := bounds_u8 (hz 2)
  have z3 := bounds_u8 (hz 3)
  unfold wordV
  omega

theorem refunframe_short (a : Option Addr) (len cap : Nat) (w : World) (h : len < 8) :
    Calls Tryd.prog 20 #[.slice a len cap] w fun e w' => e = .returned (.tuple #[.slice none 0 0, .int .i64 0, .int .i64 20]) ∧ w' = w := by
  go_enter Tryd.func20, Tryd.ntmps20
  go_wp2_with fail
  go_ret3
  exact ⟨rfl, rfl⟩

theorem refunframe_long (b off len cap : Nat) (bs : List Int) (w : World) (h : Sq w (some ⟨b, off, none⟩) len cap bs) (h8 : 8 ≤ len)
    (hcell : ∀ j, j < len → w.cell? ⟨b, off + j, none⟩ = some (.int .u8 (bs[j]?.getD 0))) (hn : 65536 < wordV bs) :
    Calls Tryd.prog 20 #[.slice (some ⟨b, off, none⟩) len cap] w fun e w' => e = .returned (.tuple #[.slice none 0 0, .int .i64 0, .int .i64 22]) ∧ Below w.heap.size w w' := by
  have hb := wordV_bd bs h.wf
  have c := hide (reframe_word b off len cap bs w h.length (by omega) h.wf hcell)
  clear h hcell
  go_enter Tryd.func20, Tryd.ntmps20
  go_wp2_with fail
  refine c.out.mono ?_
  rintro e w' ⟨rfl, n, rfl⟩
  go_wp2_with fail
  go_ret3
  exact ⟨rfl, below_drewN (Below.refl _ _) _⟩

theorem refunframe_less (b off len cap : Nat) (bs : List Int) (w : World) (h : Sq w (some ⟨b, off, none⟩) len cap bs) (h8 : 8 ≤ len)
    (hcell : ∀ j, j < len → w.cell? ⟨b, off + j, none⟩ = some (.int .u8 (bs[j]?.getD 0))) (hn : wordV bs ≤ 65536) (hl : (len : Int) < 8 + wordV bs) :
    Calls Tryd.prog 20 #[.slice (some ⟨b, off, none⟩) len cap] w fun e w' => e = .returned (.tuple #[.slice none 0 0, .int .i64 0, .int .i64 20]) ∧ Below w.heap.size w w' := by
  have hb := wordV_bd bs h.wf
  have c := hide (reframe_word b off len cap bs w h.length (by omega) h.wf hcell)
  clear h hcell
  go_enter Tryd.func20, Tryd.ntmps20
  go_wp2_with fail
  refine c.out.mono ?_
  rintro e w' ⟨rfl, n, rfl⟩
  go_wp2_with fail
  go_ret3
  exact ⟨rfl, below_drewN (Below.refl _ _) _⟩

set_option maxHeartbeats 2000000 in
theorem refunframe_some (b off len cap n : Nat) (bs : List Int) (w : World) (h : Sq w (some ⟨b, off, none⟩) len cap bs) (h8 : 8 + n ≤ len) (hm : len ≤ 140737488351232)
    (hcell : ∀ j, j < len → w.cell? ⟨b, off + j, none⟩ = some (.int .u8 (bs[j]?.getD 0))) (hn : wordV bs = n) (hn1 : n ≤ 65536) :
    Calls Tryd.prog 20 #[.slice (some ⟨b, off, none⟩) len cap] w fun e w' =>
      (((∀ j, j < 8 → (frameB ((bs.drop 8).take n))[j]?.getD 0 = bs[j]?.getD 0) ∧ ∃ y, e = .returned (.tuple #[y, .int .i64 (8 + n), .int .i64 0]) ∧ w'.ownsRow w.heap.size 5 1 y n (vals ((bs.drop 8).take n)))
      ∨ ((∃ j, j < 8 ∧ (frameB ((bs.drop 8).take n))[j]?.getD 0 ≠ bs[j]?.getD 0) ∧ e = .returned (.tuple #[.slice none 0 0, .int .i64 0, .int .i64 23]))) ∧ Below w.heap.size w w' := by
  have H := hide h
  have HC := hide hcell
  have c := reframe_word b off len cap bs w h.length (by omega) h.wf hcell
  rw [hn] at c
  have C := hide c
  clear h hcell c hn
  go_enter Tryd.func20, Tryd.ntmps20
  go_wp2_with fail
  refine C.out.mono ?_
  rintro e w' ⟨rfl, nd, rfl⟩
  have r0 := row_new (w.drewN nd) w.heap.size (Nat.le_refl _) #[] (by decide)
  have wo : wfs ((bs.drop 8).take n) := wfs_take (wfs_drop H.out.wf 8) n
  have lo : ((bs.drop 8).take n).length = n := by have := H.out.length; simp; omega
  have bA : Below w.heap.size w ((w.drewN nd).alloc (.cells #[] 5)) := below_alloc (below_drewN (Below.refl _ _) nd) _
  have hlc := H.out.lecap
  have hcase : (cap = 8 ∧ n = 0) ∨ 8 < cap := by omega
  have R0 := hide r0
  have BA := hide bA
  have WO := hide wo
  have LO := hide lo
  clear r0 bA wo lo C
  rcases hcase with ⟨rfl, rfl⟩ | hc8
  · have sB : Sq ((w.drewN nd).alloc (.cells #[] 5)) (some ⟨b, off, none⟩) 0 0 ((bs.drop 8).take 0) := ⟨LO.out, by omega, fun h => absurd h (by simp), fun h => by omega, WO.out⟩
    go_wp2_with (first
      | (at_builtin; refine wp_append_sq _ rfl (.tmp 23) (.tmp 27) rfl w.heap.size (.slice (some ⟨w.heap.size, 0, none⟩) 0 0) 0 [] rfl R0.out (some ⟨b, off, none⟩) 0 0 ((bs.drop 8).take 0) rfl sB (by omega) BA.out.size ?_; intro v2 w2 hown2 hgrow2))
    have b2 : Below w.heap.size w w2 := below_grown BA.out R0.out (Nat.le_refl _) hgrow2
    simp only [List.nil_append, Nat.zero_add] at hown2
    obtain ⟨a2, cp2, e2, q2⟩ := sq_of_row LO.out WO.out hown2
    subst e2
    obtain ⟨F, eF⟩ : ∃ F, F = frameB ((bs.drop 8).take 0) := ⟨_, rfl⟩
    have cF := refframe_sq q2 (by omega)
    rw [← eF] at cF
    have lF : F.length = 0 + 8 := by rw [eF, frameB_length, LO.out]
    have wF : wfs F := by rw [eF]; exact frameB_wfs _ WO.out (by rw [LO.out]; omega)
    have CF := hide cF
    have EF := hide eF
    have K2 := hide hown2
    have B2 := hide b2
    clear cF eF hown2 b2 hgrow2 q2 R0 BA
    refine CF.out.mono ?_
    rintro e w3 ⟨y, rfl, hownF, hb3⟩
    rw [lF] at hownF
    obtain ⟨g, cp, ey, hg, qF⟩ := sq_row lF (by omega) wF hownF
    obtain ⟨g', og', eg, hcF⟩ := qF.cells (by omega)
    obtain ⟨rfl, rfl⟩ : g = g' ∧ 0 = og' := by simpa using eg
    have B3 := hide (below_step B2.out hb3)
    have K3 := hide (row_below K2.out hb3)
    have HF := hide hcF
    rw [ey]
    clear ey eg hcF qF hownF hb3 K2 B2 CF hg wF
    go_wp2_with fail
    go_loopw [9] (fun i wr => ∃ k m : Nat, k ≤ 8 ∧ i = .int .i64 k ∧ wr = w3.drewN m ∧ Hid (∀ j, j < k → F[j]?.getD 0 = bs[j]?.getD 0)) (fun i _ => 8 - (intOf i).toNat)
    case atStart => exact ⟨0, 0, Nat.zero_le _, rfl, rfl, fun j hj => absurd hj (by omega)⟩
    case round =>
      obtain ⟨k, m, hk, rfl, rfl, HE⟩ := hrel
      by_cases hlt : k < 8
      · have d1 := HF.out k (by omega)
        rw [Nat.zero_add] at d1
        have d2 := (B3.out.cell (p := ⟨b, off + k, none⟩) (World.block_lt_of_cell? w _ (HC.out k (by omega)))).trans (HC.out k (by omega))
        obtain ⟨x, ex⟩ : ∃ x, x = F[k]?.getD 0 := ⟨_, rfl⟩
        obtain ⟨z, ez⟩ : ∃ z, z = bs[k]?.getD 0 := ⟨_, rfl⟩
        rw [← ex] at d1
        rw [← ez] at d2
        have EX := hide ex
        have EZ := hide ez
        clear ex ez
        have i1 : (k : Int) < (0 : Int) + 8 := by omega
        have i2 : (k : Int) < (len : Int) := by omega
        have i3 : (0 : Int) ≤ (k : Int) := by omega
        by_cases hxz : x = z
        · subst hxz
          go_wp2_with fail
          go_quiet (fail)
          go_wp2_with fail
          go_roundw
          case rel =>
            refine ⟨k + 1, _, by omega, by go_num, rfl, fun j hj => ?_⟩
            by_cases e : j = k
            · subst e; exact EX.out.symm.trans EZ.out
            · exact HE.out j (by omega)
          case measure => simp [intOf]; omega
        · have n1 : (x == z) = false := by simpa using hxz
          have n2 : (x != z) = true := by simpa using hxz
          go_wp2_with fail
          go_quiet (fail)
          go_wp2_with fail
          go_ret3
          refine ⟨.inr ⟨⟨k, hlt, fun h => hxz ?_⟩, rfl⟩, below_drewN (below_drewN B3.out _) _⟩
          rw [← EF.out] at h
          exact EX.out.trans (h.trans EZ.out.symm)
      · obtain rfl : k = 8 := by omega
        go_wp2_with fail
        go_ret3
        refine ⟨.inl ⟨?_, _, rfl, K3.out⟩, below_drewN B3.out _⟩
        rw [← EF.out]
        exact HE.out
  · have sA : Sq ((w.drewN nd).alloc (.cells #[] 5)) (some ⟨b, off + 8, none⟩) n (cap - 8) ((bs.drop 8).take n) :=
      ((H.out.below BA.out).drop 8 (by omega) (some ⟨b, off + 8, none⟩) (fun h => absurd h (by simp)) (fun _ => rfl)).take n (by omega)
    have e8 : 8 + n - 8 = n := by omega
    have sA' : Sq ((w.drewN nd).alloc (.cells #[] 5)) (some ⟨b, off + 8, none⟩) (8 + n - 8) (cap - 8) ((bs.drop 8).take n) := by rw [e8]; exact sA
    have E8 := hide e8
    clear e8 sA
    go_wp2_with (first
      | (at_builtin; refine wp_append_sq _ rfl (.tmp 23) (.tmp 27) rfl w.heap.size (.slice (some ⟨w.heap.size, 0, none⟩) 0 0) 0 [] rfl R0.out (some ⟨b, off + 8, none⟩) (8 + n - 8) (cap - 8) ((bs.drop 8).take n) rfl sA' (by omega) BA.out.size ?_; intro v2 w2 hown2 hgrow2))
    have b2 : Below w.heap.size w w2 := below_grown BA.out R0.out (Nat.le_refl _) hgrow2
    simp only [List.nil_append, Nat.zero_add] at hown2
    rw [E8.out] at hown2
    obtain ⟨a2, cp2, e2, q2⟩ := sq_of_row LO.out WO.out hown2
    subst e2
    obtain ⟨F, eF⟩ : ∃ F, F = frameB ((bs.drop 8).take n) := ⟨_, rfl⟩
    have cF := refframe_sq q2 (by omega)
    rw [← eF] at cF
    have lF : F.length = n + 8 := by rw [eF, frameB_length, LO.out]
    have wF : wfs F := by rw [eF]; exact frameB_wfs _ WO.out (by rw [LO.out]; omega)
    have CF := hide cF
    have EF := hide eF
    have K2 := hide hown2
    have B2 := hide b2
    clear cF eF hown2 b2 hgrow2 q2 R0 BA
    refine CF.out.mono ?_
    rintro e w3 ⟨y, rfl, hownF, hb3⟩
    rw [lF] at hownF
    obtain ⟨g, cp, ey, hg, qF⟩ := sq_row lF (by omega) wF hownF
    obtain ⟨g', og', eg, hcF⟩ := qF.cells (by omega)
    obtain ⟨rfl, rfl⟩ : g = g' ∧ 0 = og' := by simpa using eg
    have B3 := hide (below_step B2.out hb3)
    have K3 := hide (row_below K2.out hb3)
    have HF := hide hcF
    rw [ey]
    clear ey eg hcF qF hownF hb3 K2 B2 CF hg wF
    go_wp2_with fail
    go_loopw [9] (fun i wr => ∃ k m : Nat, k ≤ 8 ∧ i = .int .i64 k ∧ wr = w3.drewN m ∧ Hid (∀ j, j < k → F[j]?.getD 0 = bs[j]?.getD 0)) (fun i _ => 8 - (intOf i).toNat)
    case atStart => exact ⟨0, 0, Nat.zero_le _, rfl, rfl, fun j hj => absurd hj (by omega)⟩
    case round =>
      obtain ⟨k, m, hk, rfl, rfl, HE⟩ := hrel
      by_cases hlt : k < 8
      · have d1 := HF.out k (by omega)
        rw [Nat.zero_add] at d1
        have d2 := (B3.out.cell (p := ⟨b, off + k, none⟩) (World.block_lt_of_cell? w _ (HC.out k (by omega)))).trans (HC.out k (by omega))
        obtain ⟨x, ex⟩ : ∃ x, x = F[k]?.getD 0 := ⟨_, rfl⟩
        obtain ⟨z, ez⟩ : ∃ z, z = bs[k]?.getD 0 := ⟨_, rfl⟩
        rw [← ex] at d1
        rw [← ez] at d2
        have EX := hide ex
        have EZ := hide ez
        clear ex ez
        have i1 : (k : Int) < (n : Int) + 8 := by omega
        have i2 : (k : Int) < (len : Int) := by omega
        have i3 : (0 : Int) ≤ (k : Int) := by omega
        by_cases hxz : x = z
        · subst hxz
          go_wp2_with fail
          go_quiet (fail)
          go_wp2_with fail
          go_roundw
          case rel =>
            refine ⟨k + 1, _, by omega, by go_num, rfl, fun j hj => ?_⟩
            by_cases e : j = k
            · subst e; exact EX.out.symm.trans EZ.out
            · exact HE.out j (by omega)
          case measure => simp [intOf]; omega
        · have n1 : (x == z) = false := by simpa using hxz
          have n2 : (x != z) = true := by simpa using hxz
          go_wp2_with fail
          go_quiet (fail)
          go_wp2_with fail
          go_ret3
          refine ⟨.inr ⟨⟨k, hlt, fun h => hxz ?_⟩, rfl⟩, below_drewN (below_drewN B3.out _) _⟩
          rw [← EF.out] at h
          exact EX.out.trans (h.trans EZ.out.symm)
      · obtain rfl : k = 8 := by omega
        go_wp2_with fail
        go_ret3
        refine ⟨.inl ⟨?_, _, rfl, K3.out⟩, below_drewN B3.out _⟩
        rw [← EF.out]
        exact HE.out
end Go.Proofs.YtadjdiocipahhaaDoor
