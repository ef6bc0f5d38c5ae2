/- What the landed feed, Sum and frameSum answer: the sum of bytes. Condition: the table of the half bytes holds its sixteen numbers. -/
import Derived.Test.YtanfmpeblhegpaaDoorSq8
import Derived.Test.YtanfmpeblhegpaaDoorCodecNib
import Derived.Laws.BitsAllLaws
namespace Go.Proofs.YtanfmpeblhegpaaDoor
open Go.ChangeShapes Go.WideShapes Go.ChangeAt Go.RowKit B8
set_option linter.unusedVariables false

/-- the table lies where the program's text lays it -/
def Tab (w : World) : Prop := ∀ j, j < 16 → w.cell? ⟨0, j, none⟩ = some (.int .u32 (Crc.tab[j]?.getD 0))
theorem Tab.below {w w' : World} (h : Tab w) (hb : Below w.heap.size w w') : Tab w' := fun j hj => (hb.cell (p := ⟨0, j, none⟩) (World.block_lt_of_cell? w _ (h j hj))).trans (h j hj)
theorem Tab.drewN {w : World} (h : Tab w) (n : Nat) : Tab (w.drewN n) := h

/-- bit k of bytes -/
def fbit (bs : List Int) (k : Nat) : Nat := (bs[k / 8]?.getD 0).toNat / 2 ^ (k % 8) % 2
theorem fbit_le (bs : List Int) (k : Nat) : fbit bs k ≤ 1 := by unfold fbit; omega

theorem run_next (bs : List Int) (c k : Nat) (hz : 0 ≤ bs[k]?.getD 0 ∧ bs[k]?.getD 0 ≤ 255) : Crc.run c (fbit bs) (8 * (k + 1)) = Crc.byteStep (Crc.run c (fbit bs) (8 * k)) (bs[k]?.getD 0).toNat := by
  rw [show 8 * (k + 1) = 8 * k + 8 by omega, Crc.run_split, Crc.byteStep_run _ _ (by omega)]
  refine Crc.run_congr _ _ _ 8 (fun i hi => ?_)
  show fbit bs (8 * k + i) = _
  unfold fbit
  rw [show (8 * k + i) / 8 = k by omega, show (8 * k + i) % 8 = i by omega, show i % 8 = i by omega]

theorem half_form (c : Nat) (hc : c < 2 ^ 32) : bits .xor .u32 ((c : Int) / 16) (Crc.tab[c % 16]?.getD 0) = ((Crc.half c : Nat) : Int) := by
  rw [Crc.tab_all (c % 16) (by omega), u32_xor _ _ (by omega) (by omega) (by omega) (by have := Crc.Zs_lt 4 (c % 16) (by omega); omega)]
  rw [show ((c : Int) / 16).toNat = c / 16 by omega, Int.toNat_natCast]
  rfl
theorem and15 (c : Nat) (hc : c < 2 ^ 32) : bits .and .u32 (c : Int) 15 = ((c % 16 : Nat) : Int) := by
  rw [u32_and _ 15 (by omega) (by omega) (by omega) (by omega), Int.toNat_natCast, show (15 : Int).toNat = 15 from rfl, nat_mask4]

theorem feed_some (b off len cap c : Nat) (bs : List Int) (w : World) (hc : c < 2 ^ 32) (hl : bs.length = len) (hm : len ≤ 140737488355328) (hz : wfs bs) (ht : Tab w)
    (hcell : ∀ j, j < len → w.cell? ⟨b, off + j, none⟩ = some (.int .u8 (bs[j]?.getD 0))) :
    Calls Tryd.prog 29 #[.int .u32 c, .slice (some ⟨b, off, none⟩) len cap] w fun e w' => e = .returned (.int .u32 (Crc.run c (fbit bs) (8 * len) : Nat)) ∧ w' = w := by
  have HZ := hide hz
  have HC := hide hcell
  have HT := hide ht
  clear hz hcell hl ht
  go_enter Tryd.func29, Tryd.ntmps29
  go_wp2_with fail
  go_loop [0, 6, 9] (fun s _ i => ∃ (k x : Nat), k ≤ len ∧ i = .int .i64 k ∧ s = .int .u32 x ∧ Hid (x = Crc.run c (fbit bs) (8 * k)) ∧ x < 4294967296) (fun _ _ i => len - (intOf i).toNat)
  case atStart => exact ⟨0, c, Nat.zero_le _, rfl, rfl, rfl, by omega⟩
  case round =>
    obtain ⟨k, x, hk, rfl, rfl, HX, hx⟩ := hrel
    by_cases hlt : k < len
    · have hck := HC.out k hlt
      have hv := bounds_u8 (HZ.out k)
      have HN := hide (run_next bs c k hv)
      obtain ⟨z, ez⟩ : ∃ z, z = bs[k]?.getD 0 := ⟨_, rfl⟩
      rw [← ez] at hck hv HN
      clear ez
      obtain ⟨z', rfl⟩ := Int.eq_ofNat_of_zero_le hv.1
      have hi : (k : Int) < (len : Int) := by omega
      have hz' : z' ≤ 255 := by omega
      obtain ⟨y, ey⟩ : ∃ y, y = x ^^^ z' := ⟨_, rfl⟩
      have hy : y < 2 ^ 32 := by rw [ey]; exact Nat.xor_lt_two_pow (by omega) (by omega)
      have e1 : bits .xor .u32 (x : Int) (z' : Int) = (y : Int) := by rw [ey]; exact u32_xor_nat x z' hx (by omega)
      obtain ⟨q1, eq1⟩ : ∃ q1, q1 = y % 16 := ⟨_, rfl⟩
      have hq1 : q1 < 16 := by omega
      have e2 : bits .and .u32 (y : Int) 15 = (q1 : Int) := by rw [eq1]; exact and15 y hy
      have c1 := HT.out q1 hq1
      obtain ⟨t1, et1⟩ : ∃ t1, t1 = Crc.tab[q1]?.getD 0 := ⟨_, rfl⟩
      rw [← et1] at c1
      obtain ⟨y2, ey2⟩ : ∃ y2, y2 = Crc.half y := ⟨_, rfl⟩
      have hy2 : y2 < 2 ^ 32 := by rw [ey2]; exact Crc.half_lt y hy
      have e3 : bits .xor .u32 ((y : Int) / 16) t1 = (y2 : Int) := by rw [et1, ey2, eq1]; exact half_form y hy
      obtain ⟨q2, eq2⟩ : ∃ q2, q2 = y2 % 16 := ⟨_, rfl⟩
      have hq2 : q2 < 16 := by omega
      have e4 : bits .and .u32 (y2 : Int) 15 = (q2 : Int) := by rw [eq2]; exact and15 y2 hy2
      have c2 := HT.out q2 hq2
      obtain ⟨t2, et2⟩ : ∃ t2, t2 = Crc.tab[q2]?.getD 0 := ⟨_, rfl⟩
      rw [← et2] at c2
      obtain ⟨y3, ey3⟩ : ∃ y3, y3 = Crc.half y2 := ⟨_, rfl⟩
      have hy3 : y3 < 2 ^ 32 := by rw [ey3]; exact Crc.half_lt y2 hy2
      have e5 : bits .xor .u32 ((y2 : Int) / 16) t2 = (y3 : Int) := by rw [et2, ey3, eq2]; exact half_form y2 hy2
      have HY : Hid (y3 = Crc.run c (fbit bs) (8 * (k + 1))) := by
        show _ = _
        rw [HN.out, ← HX.out, ey3, ey2, ey]
        rfl
      clear ey eq1 et1 ey2 eq2 et2 ey3 HN
      have j1 : (q1 : Int) < 16 := by omega
      have j2 : (q2 : Int) < 16 := by omega
      have j3 : (0 : Int) ≤ (q1 : Int) := by omega
      have j4 : (0 : Int) ≤ (q2 : Int) := by omega
      go_wp2_with fail
      refine ⟨⟨k + 1, y3, by omega, by go_num, rfl, HY, by omega⟩, by simp [intOf]; omega⟩
    · go_wp2_with fail
      go_ret
      have : k = len := by omega
      subst this
      exact ⟨ret1 (by rw [HX.out]), rfl⟩

theorem feed_none (a : Option Addr) (cap c : Nat) (w : World) :
    Calls Tryd.prog 29 #[.int .u32 c, .slice a 0 cap] w fun e w' => e = .returned (.int .u32 c) ∧ w' = w := by
  go_enter Tryd.func29, Tryd.ntmps29
  go_wp2_with fail
  refine wp_loop_rounds 1 ?_
  rw [rounds_succ]
  go_wp2_with fail
  go_ret
  exact ⟨rfl, rfl⟩
theorem feed_sq {a : Option Addr} {len cap c : Nat} {bs : List Int} {w : World} (h : Sq w a len cap bs) (ht : Tab w) (hc : c < 2 ^ 32) (hm : len ≤ 140737488355328) :
    Calls Tryd.prog 29 #[.int .u32 c, .slice a len cap] w fun e w' => e = .returned (.int .u32 (Crc.run c (fbit bs) (8 * len) : Nat)) ∧ w' = w := by
  by_cases h0 : 0 < len
  · obtain ⟨b, off, rfl, hcl⟩ := h.cells h0
    exact feed_some b off len cap c bs w hc h.length hm h.wf ht hcl
  · obtain rfl : len = 0 := by omega
    exact feed_none a cap c w

/-- the sum of bytes -/
def fsum (bs : List Int) : Nat := 4294967295 - Crc.run 4294967295 (fbit bs) (8 * bs.length)
theorem fsum_lt (bs : List Int) : fsum bs < 4294967296 := by unfold fsum; omega
theorem fnot32 (s : Nat) (h : s < 4294967296) : bits .xor .u32 IntKind.u32.max (s : Int) = ((4294967295 - s : Nat) : Int) := by
  show IntKind.u32.wrap ((BitVec.ofInt 32 IntKind.u32.max ^^^ BitVec.ofInt 32 (s : Int)).toNat : Int) = _
  have h1 : BitVec.ofInt 32 IntKind.u32.max = BitVec.allOnes 32 := by decide
  rw [h1, BitVec.allOnes_xor, BitVec.toNat_not, BitVec.toNat_ofInt, wrapU32]
  omega
theorem run_append (c : Nat) (xs ys : List Int) : Crc.run c (fbit (xs ++ ys)) (8 * (xs.length + ys.length)) = Crc.run (Crc.run c (fbit xs) (8 * xs.length)) (fbit ys) (8 * ys.length) := by
  rw [Nat.mul_add, Crc.run_split]
  have e1 : Crc.run c (fbit (xs ++ ys)) (8 * xs.length) = Crc.run c (fbit xs) (8 * xs.length) := by
    refine Crc.run_congr _ _ _ _ (fun i hi => ?_)
    unfold fbit
    rw [List.getElem?_append_left (by omega)]
  rw [e1]
  refine Crc.run_congr _ _ _ _ (fun i hi => ?_)
  show fbit (xs ++ ys) (8 * xs.length + i) = fbit ys i
  unfold fbit
  rw [List.getElem?_append_right (by omega), show (8 * xs.length + i) / 8 - xs.length = i / 8 by omega, show (8 * xs.length + i) % 8 = i % 8 by omega]

theorem csum_sq {a : Option Addr} {len cap : Nat} {bs : List Int} {w : World} (h : Sq w a len cap bs) (ht : Tab w) (hm : len ≤ 140737488355328) :
    Calls Tryd.prog 25 #[.slice a len cap] w fun e w' => e = .returned (.int .u32 (fsum bs : Nat)) ∧ w' = w := by
  have C := feed_sq (c := 4294967295) h ht (by omega) hm
  have hl := h.length
  obtain ⟨x, ex⟩ : ∃ x, x = Crc.run 4294967295 (fbit bs) (8 * len) := ⟨_, rfl⟩
  have hx : x < 4294967296 := by rw [ex]; exact Crc.run_lt _ _ (by omega) _
  rw [← ex] at C
  have HV : Hid (bits .xor .u32 IntKind.u32.max (x : Int) = ((fsum bs : Nat) : Int)) := by
    show _ = _
    rw [fnot32 x hx, ex]
    unfold fsum
    rw [hl]
  have C := hide C
  clear ex h ht hl
  go_enter Tryd.func25, Tryd.ntmps25
  go_wp2_with fail
  refine C.out.mono ?_
  rintro e w1 ⟨rfl, rfl⟩
  go_wp2_with fail
  go_ret
  exact ⟨ret1 HV.out, rfl⟩

/-- four bytes, the lowest first -/
def fword (v : Int) : List Int := [v % 256, v / 256 % 256, v / 65536 % 256, v / 16777216]
theorem fword_wfs (v : Int) (h0 : 0 ≤ v) (h1 : v ≤ 4294967295) : wfs (fword v) :=
  wfs_cons (WalkArith.wf_u8 (by omega)) (wfs_cons (WalkArith.wf_u8 (by omega)) (wfs_cons (WalkArith.wf_u8 (by omega)) (wfs_cons (WalkArith.wf_u8 (by omega)) wfs_nil)))
end Go.Proofs.YtanfmpeblhegpaaDoor
