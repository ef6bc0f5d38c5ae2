/- What the document's own Word and Sum (purseref02) return, at the landed code. No condition but that the numbers are of their kinds. -/
import Derived.Test.YtanfmpeblhegpaaDoorSq8
import Derived.Test.YtanfmpeblhegpaaDoorCodecCrc
import Derived.Laws.BitsAllLaws
namespace Go.Proofs.YtanfmpeblhegpaaDoor
open Go.ChangeShapes Go.WideShapes Go.ChangeAt Go.RowKit B8
set_option linter.unusedVariables false


/-- bit k of bytes -/
def bitAt (bs : List Int) (k : Nat) : Nat := (bs[k / 8]?.getD 0).toNat / 2 ^ (k % 8) % 2
theorem bitAt_le (bs : List Int) (k : Nat) : bitAt bs k ≤ 1 := by unfold bitAt; omega
/-- the sum of bytes -/
def sumB (bs : List Int) : Nat := 4294967295 - Crc.run 4294967295 (bitAt bs) (8 * bs.length)

theorem and_one (a : Int) (h1 : 0 ≤ a) (h2 : a < 4294967296) : bits .and .u32 a 1 = a % 2 := by
  rw [u32_and a 1 h1 h2 (by omega) (by omega)]
  rw [show (1 : Int).toNat = 1 from rfl, Nat.and_one_is_mod]
  omega
theorem xor_one (a b : Int) (h1 : 0 ≤ a) (h2 : a ≤ 1) (h3 : 0 ≤ b) (h4 : b ≤ 1) : bits .xor .u32 a b = (a + b) % 2 := by
  rcases (show a = 0 ∨ a = 1 from by omega) with rfl | rfl <;> rcases (show b = 0 ∨ b = 1 from by omega) with rfl | rfl <;> decide
theorem pow_cast (q : Nat) : ((2 ^ q : Nat) : Int) = (2 : Int) ^ q := by simp
theorem low_form (c : Nat) (z : Int) (q : Nat) (hc : c < 2 ^ 32) (z0 : 0 ≤ z) (z1 : z ≤ 255) :
    (bits .xor .u32 (bits .and .u32 (c : Int) 1) (bits .and .u32 (z / 2 ^ q % 4294967296) 1) == 1) = decide ((c + z.toNat / 2 ^ q % 2) % 2 = 1) := by
  obtain ⟨Zn, rfl⟩ := Int.eq_ofNat_of_zero_le z0
  have e : ((Zn : Int) / 2 ^ q) = ((Zn / 2 ^ q : Nat) : Int) := by rw [← pow_cast]; exact (Int.natCast_ediv _ _).symm
  have hle : Zn / 2 ^ q ≤ Zn := Nat.div_le_self _ _
  rw [e, and_one _ (by omega) (by omega), and_one _ (by omega) (by omega), xor_one _ _ (by omega) (by omega) (by omega) (by omega), Int.toNat_natCast]
  rw [Bool.eq_iff_iff, beq_iff_eq, decide_eq_true_iff]
  omega
theorem poly_form (c : Nat) (hc : c < 2 ^ 32) : bits .xor .u32 ((c : Int) / 2) 3988292384 = ((c / 2 ^^^ Crc.poly : Nat) : Int) := by
  rw [u32_xor _ _ (by omega) (by omega) (by omega) (by omega)]
  rw [show ((c : Int) / 2).toNat = c / 2 from by omega]
  rfl

theorem not32 (s : Nat) (h : s < 4294967296) : bits .xor .u32 IntKind.u32.max (s : Int) = ((4294967295 - s : Nat) : Int) := by
  show IntKind.u32.wrap ((BitVec.ofInt 32 IntKind.u32.max ^^^ BitVec.ofInt 32 (s : Int)).toNat : Int) = _
  have h1 : BitVec.ofInt 32 IntKind.u32.max = BitVec.allOnes 32 := by decide
  rw [h1, BitVec.allOnes_xor, BitVec.toNat_not, BitVec.toNat_ofInt, wrapU32]
  omega

theorem refsum_some (b off len cap : Nat) (bs : List Int) (w : World) (hl : bs.length = len) (hm : len ≤ 140737488355328) (hz : wfs bs)
    (hcell : ∀ j, j < len → w.cell? ⟨b, off + j, none⟩ = some (.int .u8 (bs[j]?.getD 0))) :
    Calls Tryd.prog 26 #[.slice (some ⟨b, off, none⟩) len cap] w fun e w' => e = .returned (.int .u32 (sumB bs : Nat)) ∧ w' = w := by
  have hu : IntKind.u32.signed = false := rfl
  have HZ := hide hz
  have HC := hide hcell
  have HL := hide hl
  clear hz hcell hl
  go_enter Tryd.func26, Tryd.ntmps26
  go_wp2_with fail
  go_loop [3, 4, 5, 6] (fun c i _ _ => ∃ (k s : Nat), k ≤ 8 * len ∧ i = .int .i64 k ∧ c = .int .u32 s ∧ Hid (s = Crc.run 4294967295 (bitAt bs) k) ∧ s < 4294967296) (fun _ i _ _ => 8 * len - (intOf i).toNat)
  case atStart => exact ⟨0, 4294967295, Nat.zero_le _, rfl, rfl, rfl, by omega⟩
  case round =>
    obtain ⟨k, s, hk, rfl, rfl, HS, s1⟩ := hrel
    by_cases hlt : k < 8 * len
    · have hck := HC.out (k / 8) (by omega)
      have hv := bounds_u8 (HZ.out (k / 8))
      have hi : (k : Int) / 8 < (len : Int) := by omega
      have hlow := low_form s (bs[k / 8]?.getD 0) (k % 8) (by omega) hv.1 hv.2
      by_cases hb : (s + bitAt bs k) % 2 = 1
      · have ht := hlow.trans (decide_eq_true hb)
        have HP := hide (poly_form s (by omega))
        have HN : Hid (s / 2 ^^^ Crc.poly = Crc.run 4294967295 (bitAt bs) (k + 1)) := by
          show _ = Crc.step _ _
          rw [← HS.out]
          exact (if_pos hb).symm
        have HQ : Hid (s / 2 ^^^ Crc.poly < 4294967296) := by
          have : s / 2 ^^^ Crc.poly < 2 ^ 32 := Nat.xor_lt_two_pow (by omega) (by decide)
          exact this
        clear hlow hb
        go_wp2_with fail
        go_round
        case rel => exact ⟨k + 1, s / 2 ^^^ Crc.poly, by omega, by go_num, by rw [HP.out], HN, HQ⟩
        case measure => simp [intOf]; omega
      · have ht := hlow.trans (decide_eq_false hb)
        have HN : Hid (s / 2 = Crc.run 4294967295 (bitAt bs) (k + 1)) := by
          show _ = Crc.step _ _
          rw [← HS.out]
          exact (if_neg hb).symm
        clear hlow hb
        go_wp2_with fail
        go_round
        case rel => exact ⟨k + 1, s / 2, by omega, by go_num, by go_num, HN, by omega⟩
        case measure => simp [intOf]; omega
    · obtain rfl : k = 8 * len := by omega
      have HV : Hid (bits .xor .u32 IntKind.u32.max (s : Int) = ((sumB bs : Nat) : Int)) := by
        show _ = _
        rw [not32 s s1]
        unfold sumB
        rw [HL.out, ← HS.out]
      go_wp2_with fail
      go_ret
      exact ⟨ret1 HV.out, rfl⟩

theorem refsum_none (a : Option Addr) (cap : Nat) (w : World) :
    Calls Tryd.prog 26 #[.slice a 0 cap] w fun e w' => e = .returned (.int .u32 (sumB [] : Nat)) ∧ w' = w := by
  have hu : IntKind.u32.signed = false := rfl
  have HV := hide (not32 4294967295 (by omega))
  go_enter Tryd.func26, Tryd.ntmps26
  go_wp2_with fail
  refine wp_loop_rounds 1 ?_
  rw [rounds_succ]
  go_wp2_with fail
  go_ret
  exact ⟨ret1 HV.out, rfl⟩

theorem refsum_sq {a : Option Addr} {len cap : Nat} {bs : List Int} {w : World} (h : Sq w a len cap bs) (hr : len ≤ 140737488355328) :
    Calls Tryd.prog 26 #[.slice a len cap] w fun e w' => e = .returned (.int .u32 (sumB bs : Nat)) ∧ w' = w := by
  by_cases h0 : 0 < len
  · obtain ⟨b, off, rfl, hc⟩ := h.cells h0
    exact refsum_some b off len cap bs w h.length hr h.wf hc
  · obtain rfl : len = 0 := by omega
    have hz : bs = [] := List.eq_nil_of_length_eq_zero h.length
    subst hz
    exact refsum_none a cap w
theorem sumB_lt (bs : List Int) : sumB bs < 4294967296 := by unfold sumB; omega
end Go.Proofs.YtanfmpeblhegpaaDoor
