/- What the landed Frame returns: the frame of some bytes, in memory of its own, or ErrLong. Condition: the table of the half bytes holds its numbers. -/
import Derived.Test.YtgenfklbponodaaDoorCodecFeed
import Derived.Test.YtgenfklbponodaaDoorSm8
namespace Go.Proofs.YtgenfklbponodaaDoor
open Go.ChangeShapes Go.WideShapes Go.ChangeAt Go.RowKit B8
set_option linter.unusedVariables false

/-- a frame -/
def fframe (bs : List Int) : List Int := fword bs.length ++ fword (fsum (fword bs.length ++ bs)) ++ bs
theorem fframe_length (bs : List Int) : (fframe bs).length = bs.length + 8 := by unfold fframe fword; simp
theorem fframe_wfs (bs : List Int) (h : wfs bs) (hl : bs.length ≤ 4294967295) : wfs (fframe bs) := by
  have := fsum_lt (fword bs.length ++ bs)
  exact wfs_append (wfs_append (fword_wfs _ (by omega) (by omega)) (fword_wfs _ (by omega) (by omega))) h
theorem four_sq (w : World) (v : Int) (h0 : 0 ≤ v) (h1 : v ≤ 4294967295) (t : TypeId) :
    Sq (w.alloc (.cells #[.int .u8 (v % 256), .int .u8 (v / 256 % 256), .int .u8 (v / 65536 % 256), .int .u8 (v / 16777216)] t)) (some ⟨w.heap.size, 0, none⟩) 4 4 (fword v) := by
  refine ⟨rfl, Nat.le_refl _, fun h => absurd h (by simp), fun _ => ⟨w.heap.size, 0, rfl, fun j hj => ?_⟩, fword_wfs v h0 h1⟩
  match j, hj with
  | 0, _ => simp [fword]
  | 1, _ => simp [fword]
  | 2, _ => simp [fword]
  | 3, _ => simp [fword]

theorem cframe_long (a : Option Addr) (len cap : Nat) (w : World) (h : 65536 < len) :
    Calls Tryd.prog 4 #[.slice a len cap] w fun e w' => e = .returned (.tuple #[.slice none 0 0, .int .i64 22]) ∧ w' = w := by
  go_enter Tryd.func4, Tryd.ntmps4
  go_wp2_with fail
  go_ret2
  exact ⟨rfl, rfl⟩

set_option maxHeartbeats 1000000 in
theorem cframe_sq {a : Option Addr} {len cap : Nat} {bs : List Int} {w : World} (h : Sq w a len cap bs) (ht : Tab w) (hr : len ≤ 65536) :
    Calls Tryd.prog 4 #[.slice a len cap] w fun e w' => ∃ y, e = .returned (.tuple #[y, .int .i64 0]) ∧ w'.ownsRow w.heap.size 5 1 y (fframe bs).length (vals (fframe bs)) ∧ Below w.heap.size w w' := by
  obtain ⟨i0, hi, hz0, hz1, hz2⟩ := info_parts B8.info
  have HL := hide h.length
  have H := hide h
  have HT := hide ht
  clear h ht
  have c1 := hide (lowfirst_any (len : Int) w (by omega) (by omega))
  go_enter Tryd.func4, Tryd.ntmps4
  go_wp2_with fail
  refine c1.out.mono ?_
  rintro e w1 ⟨rfl, b1⟩
  have B1 := hide b1
  clear b1
  go_wp2_with fail
  have q2 := four_sq w1 (len : Int) (by omega) (by omega) 33
  have B2 := hide (below_alloc B1.out (.cells #[.int .u8 ((len : Int) % 256), .int .u8 ((len : Int) / 256 % 256), .int .u8 ((len : Int) / 65536 % 256), .int .u8 ((len : Int) / 16777216)] 33))
  have hs2 : w1.heap.size < (w1.alloc (.cells #[.int .u8 ((len : Int) % 256), .int .u8 ((len : Int) / 256 % 256), .int .u8 ((len : Int) / 65536 % 256), .int .u8 ((len : Int) / 16777216)] 33)).heap.size := by simp
  obtain ⟨w2, e2⟩ : ∃ w2, w2 = w1.alloc (.cells #[.int .u8 ((len : Int) % 256), .int .u8 ((len : Int) / 256 % 256), .int .u8 ((len : Int) / 65536 % 256), .int .u8 ((len : Int) / 16777216)] 33) := ⟨_, rfl⟩
  rw [← e2] at q2 B2 hs2 ⊢
  have cs := cframesum_sq q2 (H.out.below B2.out) (HT.out.below B2.out) (by omega) (by omega)
  obtain ⟨sm, esm⟩ : ∃ sm, sm = fsum (fword (len : Int) ++ bs) := ⟨_, rfl⟩
  have hsm : sm < 4294967296 := by rw [esm]; exact fsum_lt _
  rw [← esm] at cs
  have ES := hide esm
  have Q2 := hide q2
  have CS := hide cs
  clear e2 q2 cs esm B1 c1
  refine CS.out.mono ?_
  rintro e wx ⟨rfl, rfl⟩
  have c3 := hide (lowfirst_any (sm : Int) wx (by omega) (by omega))
  go_wp2_with fail
  refine c3.out.mono ?_
  rintro e w3 ⟨rfl, b3⟩
  have hs3 := b3.size
  have B3 := hide (below_step B2.out b3)
  have Q3 := hide (Q2.out.below b3)
  have q4 := four_sq w3 (sm : Int) (by omega) (by omega) 33
  have b4 := Below.alloc (Below.refl w3.heap.size w3) (Nat.le_refl _) (.cells #[.int .u8 ((sm : Int) % 256), .int .u8 ((sm : Int) / 256 % 256), .int .u8 ((sm : Int) / 65536 % 256), .int .u8 ((sm : Int) / 16777216)] 33)
  obtain ⟨w4, e4⟩ : ∃ w4, w4 = w3.alloc (.cells #[.int .u8 ((sm : Int) % 256), .int .u8 ((sm : Int) / 256 % 256), .int .u8 ((sm : Int) / 65536 % 256), .int .u8 ((sm : Int) / 16777216)] 33) := ⟨_, rfl⟩
  rw [← e4] at q4 b4
  have B4 := hide (below_step B3.out b4)
  have Q4 := hide q4
  have Q3' := hide (Q3.out.below b4)
  have H4 := hide (H.out.below B4.out)
  have W4 : Hid (w4 = w3.alloc (.cells #[.int .u8 ((sm : Int) % 256), .int .u8 ((sm : Int) / 256 % 256), .int .u8 ((sm : Int) / 65536 % 256), .int .u8 ((sm : Int) / 16777216)] 33)) := e4
  clear b3 b4 q4 e4 Q2 Q3 B2 B3 CS c3
  go_wp2_with (first
    | (at_make; rw [← W4.out]; refine wpList_make_own _ rfl _ _ 22 rfl w4.heap.size 5 i0 (.int .u8 0) 1 Tryd.underlying22 hi hz0 hz1 _ _ _ (8 + len) rfl rfl (by omega) ?b2 ?b3 (Nat.le_refl _) ?_; rotate_right; intro w5 o5 g5; have b5 : Below w4.heap.size w4 w5 := (Below.refl _ _).grown g5 (Nat.le_refl _) (fun k hk => by cases hk); have B5 := hide b5; have O5 := hide o5; clear o5 g5 b5)
    | (at_builtin; refine wp_append_sq _ rfl (.tmp 22) (.tmp 23) rfl w4.heap.size (.slice (some ⟨w4.heap.size, 0, none⟩) 0 (8 + len)) 0 [] rfl O5.out (some ⟨w1.heap.size, 0, none⟩) 4 4 (fword (len : Int)) rfl (Q3'.out.below B5.out) (by omega) B5.out.size ?_; intro v6 w6 o6 g6; have B6 := hide (below_grown B5.out O5.out (Nat.le_refl _) g6); have O6 := hide o6; clear o6 g6)
    | (at_builtin; refine wp_append_sq _ rfl (.tmp 25) (.tmp 26) rfl w4.heap.size v6 (0 + 4) ([] ++ fword (len : Int)) rfl O6.out (some ⟨w3.heap.size, 0, none⟩) 4 4 (fword (sm : Int)) rfl (Q4.out.below B6.out) (by omega) B6.out.size ?_; intro v7 w7 o7 g7; have B7 := hide (below_grown B6.out O6.out (Nat.le_refl _) g7); have O7 := hide o7; clear o7 g7)
    | (at_builtin; refine wp_append_sq _ rfl (.tmp 28) (.tmp 29) rfl w4.heap.size v7 (0 + 4 + 4) ([] ++ fword (len : Int) ++ fword (sm : Int)) rfl O7.out a len cap bs rfl (H4.out.below B7.out) (by omega) B7.out.size ?_; intro v8 w8 o8 g8; have B8' := hide (below_grown B7.out O7.out (Nat.le_refl _) g8); have O8 := hide o8; clear o8 g8))
  · go_ret2
    refine ⟨v8, rfl, ?_, below_step B4.out B8'.out⟩
    have o8 := row_base O8.out (B' := w.heap.size) B4.out.size
    rw [fframe_length, HL.out, show len + 8 = 0 + 4 + 4 + len by omega]
    unfold fframe
    rw [HL.out, ← ES.out]
    exact o8
  · rw [hz2]; omega
  · unfold maxLen; omega

/-- the number that the first four bytes say -/
def fwordV (bs : List Int) : Int := bs[0]?.getD 0 + bs[1]?.getD 0 * 256 + bs[2]?.getD 0 * 65536 + bs[3]?.getD 0 * 16777216
theorem fwordV_bd (bs : List Int) (hz : wfs bs) : 0 ≤ fwordV bs ∧ fwordV bs ≤ 4294967295 := by
  have z0 := bounds_u8 (hz 0)
  have z1 := bounds_u8 (hz 1)
  have z2 := bounds_u8 (hz 2)
  have z3 := bounds_u8 (hz 3)
  unfold fwordV
  omega
theorem or_up (a d k : Nat) (h : a < 2 ^ k) (hd : a + d * 2 ^ k < 4294967296) : bits .or .u32 (a : Int) ((d * 2 ^ k : Nat) : Int) = ((a + d * 2 ^ k : Nat) : Int) := by
  rw [u32_or_nat _ _ (by omega) (by omega)]
  have := Nat.two_pow_add_eq_or_of_lt (i := k) (b := a) h d
  rw [Nat.or_comm, Nat.mul_comm d, ← this]
  omega
theorem or_four (x0 x1 x2 x3 : Int) (z0 : 0 ≤ x0 ∧ x0 ≤ 255) (z1 : 0 ≤ x1 ∧ x1 ≤ 255) (z2 : 0 ≤ x2 ∧ x2 ≤ 255) (z3 : 0 ≤ x3 ∧ x3 ≤ 255) :
    bits .or .u32 (bits .or .u32 (bits .or .u32 x0 (x1 * 256)) (x2 * 65536)) (x3 * 16777216) = x0 + x1 * 256 + x2 * 65536 + x3 * 16777216 := by
  obtain ⟨y0, rfl⟩ := Int.eq_ofNat_of_zero_le z0.1
  obtain ⟨y1, rfl⟩ := Int.eq_ofNat_of_zero_le z1.1
  obtain ⟨y2, rfl⟩ := Int.eq_ofNat_of_zero_le z2.1
  obtain ⟨y3, rfl⟩ := Int.eq_ofNat_of_zero_le z3.1
  rw [show ((y1 : Int) * 256) = ((y1 * 2 ^ 8 : Nat) : Int) by omega, or_up y0 y1 8 (by omega) (by omega)]
  rw [show ((y2 : Int) * 65536) = ((y2 * 2 ^ 16 : Nat) : Int) by omega, or_up _ y2 16 (by omega) (by omega)]
  rw [show ((y3 : Int) * 16777216) = ((y3 * 2 ^ 24 : Nat) : Int) by omega, or_up _ y3 24 (by omega) (by omega)]
  omega
theorem fromlow_any (b off len cap : Nat) (bs : List Int) (w : World) (h4 : 4 ≤ len) (hz : wfs bs)
    (hcell : ∀ j, j < 4 → w.cell? ⟨b, off + j, none⟩ = some (.int .u8 (bs[j]?.getD 0))) :
    Calls Tryd.prog 14 #[.slice (some ⟨b, off, none⟩) len cap] w fun e w' => e = .returned (.int .u32 (fwordV bs)) ∧ ∃ n, w' = w.drewN n := by
  have c0 : w.cell? ⟨b, off, none⟩ = some (.int .u8 (bs[0]?.getD 0)) := hcell 0 (by omega)
  have c1 := hcell 1 (by omega)
  have c2 := hcell 2 (by omega)
  have c3 := hcell 3 (by omega)
  have z0 := bounds_u8 (hz 0)
  have z1 := bounds_u8 (hz 1)
  have z2 := bounds_u8 (hz 2)
  have z3 := bounds_u8 (hz 3)
  have l0 : (0 : Int) < (len : Int) := by omega
  have l1 : (1 : Int) < (len : Int) := by omega
  have l2 : (2 : Int) < (len : Int) := by omega
  have l3 : (3 : Int) < (len : Int) := by omega
  obtain ⟨x0, e0⟩ : ∃ x, x = bs[0]?.getD 0 := ⟨_, rfl⟩
  obtain ⟨x1, e1⟩ : ∃ x, x = bs[1]?.getD 0 := ⟨_, rfl⟩
  obtain ⟨x2, e2⟩ : ∃ x, x = bs[2]?.getD 0 := ⟨_, rfl⟩
  obtain ⟨x3, e3⟩ : ∃ x, x = bs[3]?.getD 0 := ⟨_, rfl⟩
  have HV : Hid (fwordV bs = x0 + x1 * 256 + x2 * 65536 + x3 * 16777216) := by show _ = _; rw [e0, e1, e2, e3]; rfl
  rw [← e0] at c0 z0
  rw [← e1] at c1 z1
  rw [← e2] at c2 z2
  rw [← e3] at c3 z3
  clear e0 e1 e2 e3 hcell hz
  go_enter Tryd.func14, Tryd.ntmps14
  go_wp2_with fail
  go_quiet (fail)
  go_wp2_with fail
  go_ret
  refine ⟨ret1 ?_, nq, rfl⟩
  rw [HV.out]
  exact or_four x0 x1 x2 x3 z0 z1 z2 z3
end Go.Proofs.YtgenfklbponodaaDoor
