/- Whether an account is right, the document's own word. Condition: the account can be read. -/
import Derived.Test.YtjcbhgkfbilifaaFAcoEnds
namespace Go.Proofs.Ytjcbhgkfbilifaa
open Go.ChangeShapes Go.WideShapes Go.ChangeAt Go.RowKit Ao
set_option linter.unusedVariables false

theorem rkey_any (k : ByteArray) (w : World) : Calls Try.prog 86 #[.string k] w fun e w' => e = .returned (.bool (keyB k)) ∧ w' = w := by
  unfold keyB
  by_cases h1 : 1 ≤ k.size
  · by_cases h2 : k.size ≤ 16
    · rw [decide_eq_true ⟨h1, h2⟩]
      go_enter Try.func86, Try.ntmps86
      go_wp2_with fail
      go_returns
      exact ⟨by first | rfl | (simp <;> omega), rfl⟩
    · rw [decide_eq_false fun h => h2 h.2]
      go_enter Try.func86, Try.ntmps86
      go_wp2_with fail
      go_returns
      exact ⟨by simp <;> omega, rfl⟩
  · rw [decide_eq_false fun h => h1 h.1]
    go_enter Try.func86, Try.ntmps86
    go_wp2_with fail
    go_returns
    exact ⟨by simp <;> omega, rfl⟩
set_option maxRecDepth 100000 in
theorem rlocked_any (l : Lk) (w : World) : Calls Try.prog 90 #[.agg #[.int .i64 l.c, .int .i64 l.s, .int .i64 l.h, .int .i64 l.n]] w fun e w' => e = .returned (.bool (lockB l)) ∧ Below w.heap.size w w' := by
  rw [lockB_def]
  by_cases h1 : 1 ≤ l.c
  · by_cases h2 : 1 ≤ l.s
    · by_cases h3 : 1 ≤ l.h
      · go_enter Try.func90, Try.ntmps90
        go_wp2_with fail
        all_goals
          go_returns
          exact ⟨by simp [h1, h2, h3] <;> omega, by go_grown⟩
      · go_enter Try.func90, Try.ntmps90
        go_wp2_with fail
        go_returns
        exact ⟨by simp <;> omega, by go_grown⟩
    · go_enter Try.func90, Try.ntmps90
      go_wp2_with fail
      go_returns
      exact ⟨by simp <;> omega, by go_grown⟩
  · go_enter Try.func90, Try.ntmps90
    go_wp2_with fail
    go_returns
    exact ⟨by simp <;> omega, by go_grown⟩
theorem rhas_b (lo hi v : Int) (w : World) : Calls Try.prog 87 #[.agg #[.int .i64 lo, .int .i64 hi], .int .i64 v] w fun e w' => e = .returned (.bool (hasB lo hi v)) ∧ Below w.heap.size w w' :=
  (refhas_any lo hi v w).mono fun e w' h => ⟨h.1, by rw [h.2]; exact Below.alloc (Below.refl _ _) (Nat.le_refl _) _⟩
set_option maxRecDepth 100000 in
theorem above_any {z n : Int} (w : World) (h1 : -92233720368547758080 ≤ z) (h2 : z ≤ 92233720368547758080) (hn : I64 n) :
    Calls Try.prog 89 #[.agg #[.int .i64 (hiOf z), .int .u64 (loOf z)], .int .i64 n] w fun e w' => e = .returned (.bool (decide (n < z))) ∧ Below w.heap.size w w' := by
  have L := fun W => hide (less_w (z := z) (n := n) W (by omega) (by omega) hn)
  obtain ⟨h, eh⟩ : ∃ h, h = hiOf (z - n) := ⟨_, rfl⟩
  obtain ⟨l, el⟩ : ∃ l, l = loOf (z - n) := ⟨_, rfl⟩
  have hl := loOf_bd (z - n)
  rw [← el] at hl
  have key : decide (n < z) = (decide (0 < h) || (decide (h = 0) && decide (0 < l))) := by
    rw [eh, el]
    unfold hiOf loOf
    rw [Bool.eq_iff_iff]
    simp
    omega
  rw [key]
  rw [← eh, ← el] at L
  obtain ⟨zh, ezh⟩ : ∃ h, h = hiOf z := ⟨_, rfl⟩
  obtain ⟨zl, ezl⟩ : ∃ l, l = loOf z := ⟨_, rfl⟩
  rw [← ezh, ← ezl] at L ⊢
  clear eh el key h1 h2 hn ezh ezl
  by_cases g1 : 0 < h
  · go_enter Try.func89, Try.ntmps89
    go_wp2_with fail
    refine (L _).out.mono ?_
    rintro e w1 ⟨rfl, hb⟩
    have HB : Hid (Below w.heap.size w w1) := (Below.alloc (Below.refl _ _) (Nat.le_refl _) _).trans (hb.mono (by simp))
    clear hb
    go_wp2_with fail
    go_returns
    exact ⟨by simp <;> omega, HB.out.alloc HB.out.size _⟩
  · by_cases g2 : h = 0
    · subst g2
      by_cases g3 : 0 < l
      · go_enter Try.func89, Try.ntmps89
        go_wp2_with fail
        refine (L _).out.mono ?_
        rintro e w1 ⟨rfl, hb⟩
        have HB : Hid (Below w.heap.size w w1) := (Below.alloc (Below.refl _ _) (Nat.le_refl _) _).trans (hb.mono (by simp))
        clear hb
        go_wp2_with fail
        go_returns
        exact ⟨by simp <;> omega, HB.out.alloc HB.out.size _⟩
      · go_enter Try.func89, Try.ntmps89
        go_wp2_with fail
        refine (L _).out.mono ?_
        rintro e w1 ⟨rfl, hb⟩
        have HB : Hid (Below w.heap.size w w1) := (Below.alloc (Below.refl _ _) (Nat.le_refl _) _).trans (hb.mono (by simp))
        clear hb
        go_wp2_with fail
        go_returns
        exact ⟨by simp <;> omega, HB.out.alloc HB.out.size _⟩
    · go_enter Try.func89, Try.ntmps89
      go_wp2_with fail
      refine (L _).out.mono ?_
      rintro e w1 ⟨rfl, hb⟩
      have HB : Hid (Below w.heap.size w w1) := (Below.alloc (Below.refl _ _) (Nat.le_refl _) _).trans (hb.mono (by simp))
      clear hb
      go_wp2_with fail
      go_returns
      exact ⟨by simp <;> omega, HB.out.alloc HB.out.size _⟩
/-- a right account, tested in the document's order -/
theorem rightB_ref (A : Ac) : rightB A = (keyB A.key && hasB A.lo A.hi A.base && !decide (A.rd < 0) && hsB 0 A.hs && !decide (A.hi < A.base + ups A.hs) && !decide (A.base - downs A.hs - A.lo < 0) && lkB A) := by
  unfold rightB hasB
  cases keyB A.key <;> cases hsB 0 A.hs <;> cases lkB A <;> (rw [Bool.eq_iff_iff]; simp; try omega)
theorem two_wide (w : World) (x y : Int) : ∃ w1, w1 = (w.alloc (.cells #[.int .i64 (hiOf x), .int .u64 (loOf x)] 112)).alloc (.cells #[.int .i64 (hiOf y), .int .u64 (loOf y)] 112) ∧ Below w.heap.size w w1 ∧ Wb w1 w.heap.size x ∧ Wb w1 (w.heap.size + 1) y := by
  obtain ⟨w1, e1, b1, h1⟩ := wb_new w x
  obtain ⟨w2, e2, b2, h2⟩ := wb_new w1 y
  have s1 : w1.heap.size = w.heap.size + 1 := by rw [e1]; simp
  exact ⟨w2, by rw [e2, e1], b1.trans (b2.mono b1.size), h1.below b2, s1 ▸ h2⟩
--@@RIGHT
set_option maxRecDepth 100000 in
set_option maxHeartbeats 8000000 in
theorem rright_any {w : World} {a : Option Addr} {n c : Nat} {A : Ac} (h : Hs w a n A.hs) (hw : AcW A) : Calls Try.prog 37 #[.agg #[.string A.key, .int .i64 A.lo, .int .i64 A.hi, .int .i64 A.base, .int .i64 A.rd, .slice a n c, .int .i64 A.lk.c, .int .i64 A.lk.s, .int .i64 A.lk.h, .int .i64 A.lk.n]] w fun e w' => e = .returned (.bool (rightB A)) ∧ Below w.heap.size w w' := by
  have H := hide h
  have HW := hide hw
  have hlen := h.len
  have hrm := h.room
  have K := fun W => hide (rkey_any A.key W)
  have HB0 := fun W => hide (rhas_b A.lo A.hi A.base W)
  have EN := fun W => hide (fun (hW : Below w.heap.size w W) (hr : hsB 0 A.hs = true) => ends_any (c := c) (h.below hW) hw hr)
  have hfld : ∀ (a b : Int) (w : World), (Instr.field 112 (.agg #[.int .i64 a, .int .u64 b]) 0).run Try.prog w = .ok (.int .i64 a) w := fun _ _ _ => by kernel_rfl
  have HF := hide hfld
  have REF := hide (rightB_ref A)
  clear h hw hfld
  cases hk : keyB A.key
  · rw [hk] at K REF
    have E : rightB A = false := by rw [REF.out]; simp
    rw [E]
    clear E REF hk
    go_enter Try.func37, Try.ntmps37
    go_wp2_with (go_at_call 86; refine ((K _).out).mono ?_; rintro e w' ⟨rfl, hw⟩; rw [hw]; clear hw)
    go_returns
    exact ⟨rfl, by go_grown⟩
  rw [hk] at K REF
  cases hb : hasB A.lo A.hi A.base
  · rw [hb] at HB0 REF
    have E : rightB A = false := by rw [REF.out]; simp
    rw [E]
    clear E REF hk hb
    go_enter Try.func37, Try.ntmps37
    go_wp2_with (go_at_call 86; refine ((K _).out).mono ?_; rintro e w' ⟨rfl, hw⟩; rw [hw]; clear hw)
    obtain ⟨w1, ew, hb1, ha1⟩ := one_new w A a n c
    rw [← ew]
    have HB1 := hide hb1
    have HA1 := hide ha1
    clear hb1 ha1 ew
    obtain ⟨z0, z1, z2, z3, z4, z5, z6, z7, z8, z9⟩ := HA1.out.at_
    have hs1 : w.heap.size < w1.heap.size := HA1.out.lt
    refine ((HB0 _).out).mono ?_
    rintro e w2 ⟨rfl, hb⟩
    have HB2 : Hid (Below w.heap.size w w2) := HB1.out.trans (hb.mono HB1.out.size)
    have HA2 := hide (HA1.out.below hb)
    clear hb
    clear z0 z1 z2 z3 z4 z5 z6 z7 z8 z9
    obtain ⟨z0, z1, z2, z3, z4, z5, z6, z7, z8, z9⟩ := HA2.out.at_
    have hs2 : w.heap.size < w2.heap.size := HA2.out.lt
    go_wp2_with fail
    go_returns
    exact ⟨rfl, HB2.out⟩
  rw [hb] at HB0 REF
  by_cases hd : A.rd < 0
  · have E : rightB A = false := by rw [REF.out, decide_eq_true hd]; simp
    rw [E]
    clear E REF hk hb
    go_enter Try.func37, Try.ntmps37
    go_wp2_with (go_at_call 86; refine ((K _).out).mono ?_; rintro e w' ⟨rfl, hw⟩; rw [hw]; clear hw)
    obtain ⟨w1, ew, hb1, ha1⟩ := one_new w A a n c
    rw [← ew]
    have HB1 := hide hb1
    have HA1 := hide ha1
    clear hb1 ha1 ew
    obtain ⟨z0, z1, z2, z3, z4, z5, z6, z7, z8, z9⟩ := HA1.out.at_
    have hs1 : w.heap.size < w1.heap.size := HA1.out.lt
    refine ((HB0 _).out).mono ?_
    rintro e w2 ⟨rfl, hb⟩
    have HB2 : Hid (Below w.heap.size w w2) := HB1.out.trans (hb.mono HB1.out.size)
    have HA2 := hide (HA1.out.below hb)
    clear hb
    clear z0 z1 z2 z3 z4 z5 z6 z7 z8 z9
    obtain ⟨z0, z1, z2, z3, z4, z5, z6, z7, z8, z9⟩ := HA2.out.at_
    have hs2 : w.heap.size < w2.heap.size := HA2.out.lt
    go_wp2_with fail
    go_returns
    exact ⟨rfl, HB2.out⟩
  rw [decide_eq_false hd] at REF
  simp only [Bool.true_and, Bool.not_false, Bool.and_true] at REF
  have HIN : hasB A.lo A.hi A.base = true := hb
  go_enter Try.func37, Try.ntmps37
  go_wp2_with (go_at_call 86; refine ((K _).out).mono ?_; rintro e w' ⟨rfl, hw⟩; rw [hw]; clear hw)
  obtain ⟨w1, ew, hb1, ha1⟩ := one_new w A a n c
  rw [← ew]
  have HB1 := hide hb1
  have HA1 := hide ha1
  clear hb1 ha1 ew
  obtain ⟨z0, z1, z2, z3, z4, z5, z6, z7, z8, z9⟩ := HA1.out.at_
  have hs1 : w.heap.size < w1.heap.size := HA1.out.lt
  refine ((HB0 _).out).mono ?_
  rintro e w2 ⟨rfl, hb⟩
  have HB2 : Hid (Below w.heap.size w w2) := HB1.out.trans (hb.mono HB1.out.size)
  have HA2 := hide (HA1.out.below hb)
  clear hb
  clear z0 z1 z2 z3 z4 z5 z6 z7 z8 z9
  obtain ⟨z0, z1, z2, z3, z4, z5, z6, z7, z8, z9⟩ := HA2.out.at_
  have hs2 : w.heap.size < w2.heap.size := HA2.out.lt
  go_wp2_with fail
  clear z0 z1 z2 z3 z4 z5 z6 z7 z8 z9 K HB0 hk hb
  go_loopw [3, 4, 5] (fun bv iv _ wr => ∃ (k : Nat) (b : Int), k ≤ n ∧ bv = .int .i64 b ∧ iv = .int .i64 k ∧ Hid (Below w.heap.size w wr) ∧ Hid (Ab wr w.heap.size A a n c) ∧ Hid (hsB 0 A.hs = hsB b (A.hs.drop k))) (fun _ iv _ _ => n - (intOf iv).toNat)
  case atStart => exact ⟨0, 0, Nat.zero_le _, rfl, rfl, HB2.out, HA2.out, rfl⟩
  case round =>
    clear HB2 HA2 HA1 HB1
    obtain ⟨k, b, hk, rfl, rfl, HB, HA, HR⟩ := hrel
    obtain ⟨z0, z1, z2, z3, z4, z5, z6, z7, z8, z9⟩ := HA.out.at_
    have zl := HA.out.lt
    by_cases hlt : k < n
    · obtain ⟨bb, off, x, rfl, hx, hbl, M⟩ := hs_at (H.out.below HB.out) hlt
      have HX := hide (hs_drop1 (b := b) hx)
      obtain ⟨c0, c1, c2, c3⟩ := M
      have i1 : (k : Int) < (n : Int) := by omega
      have i2 : (0 : Int) ≤ (k : Int) := by omega
      have i3 : (n : Int) ≤ 9223372036854775807 := by omega
      clear hx hbl hlen
      by_cases g : b < x.nd ∧ hdB x = true
      · have XP := hd_facts g.2
        have g1 := g.1
        have HR2 : Hid (hsB 0 A.hs = hsB x.nd (A.hs.drop (k + 1))) := by show _ = _; rw [HR.out, HX.out, decide_eq_true g.1, g.2]; rfl
        have x1 : ¬ x.nd ≤ b := by omega
        have x2 : ¬ 5 < x.nd := by omega
        have x3 : ¬ x.ls < 1 := by omega
        have x4 : ¬ x.up < 0 := by omega
        have x5 : ¬ x.dn < 0 := by omega
        clear g XP g1
        go_wp2_with fail
        go_roundw
        case rel =>
          have BW : Below wr.heap.size wr (wr.alloc (.cells #[.int .i64 x.nd, .int .i64 x.ls, .int .i64 x.up, .int .i64 x.dn] 33)) := below_new _ _
          exact ⟨k + 1, x.nd, by omega, rfl, by go_num, HB.out.trans (BW.mono HB.out.size), HA.out.below BW, HR2.out⟩
        case measure => simp [intOf]; omega
      · have E : Hid (rightB A = false) := by
          show _ = _
          have : hsB 0 A.hs = false := by
            rw [HR.out, HX.out]
            by_cases g1 : b < x.nd
            · have : hdB x = false := by cases e : hdB x <;> simp_all
              rw [this]; simp
            · rw [decide_eq_false g1]; simp
          rw [REF.out, this]; simp
        clear REF
        have ng : ¬ (b < x.nd ∧ x.nd ≤ 5 ∧ 1 ≤ x.ls ∧ 0 ≤ x.up ∧ 0 ≤ x.dn) := fun hh => g ⟨hh.1, by unfold hdB; rw [decide_eq_true hh.2]⟩
        clear g
        by_cases x1 : x.nd ≤ b
        · clear ng; go_wp2_with fail; go_returns; exact ⟨by rw [E.out]; first | done | rfl, HB.out.alloc HB.out.size _⟩
        by_cases x2 : 5 < x.nd
        · clear ng; go_wp2_with fail; go_returns; exact ⟨by rw [E.out]; first | done | rfl, HB.out.alloc HB.out.size _⟩
        by_cases x3 : x.ls < 1
        · clear ng; go_wp2_with fail; go_returns; exact ⟨by rw [E.out]; first | done | rfl, HB.out.alloc HB.out.size _⟩
        by_cases x4 : x.up < 0
        · clear ng; go_wp2_with fail; go_returns; exact ⟨by rw [E.out]; first | done | rfl, HB.out.alloc HB.out.size _⟩
        have x5 : x.dn < 0 := by omega
        clear ng; go_wp2_with fail; go_returns; exact ⟨by rw [E.out]; first | done | rfl, HB.out.alloc HB.out.size _⟩
    · obtain rfl : k = n := by omega
      have HS : hsB 0 A.hs = true := by rw [HR.out, List.drop_of_length_le (by omega)]; rfl
      have EN2 := EN
      rw [HS] at REF
      simp only [Bool.true_and] at REF
      have HU := hide (ups_nonneg HS)
      have hbase := HW.out.base
      have hlo := HW.out.lo
      have hhi := HW.out.hi
      unfold hasB at HIN
      have HIN2 := of_decide_eq_true HIN
      have hn5 : k ≤ 5 := by have := hs_length HS; omega
      have sf := sums_five HW.out.hs k (by omega)
      rw [List.take_of_length_le (by omega)] at sf
      have zb : -92233720368547758080 ≤ A.base - downs A.hs ∧ A.base - downs A.hs ≤ 92233720368547758080 ∧ -92233720368547758080 ≤ A.base + ups A.hs ∧ A.base + ups A.hs ≤ 92233720368547758080 := by unfold I64 at hbase; omega
      have EN3 := fun W => hide (fun hW : Below w.heap.size w W => (EN W).out hW HS)
      obtain ⟨dl, edl⟩ : ∃ z, z = A.base - downs A.hs := ⟨_, rfl⟩
      obtain ⟨uh, euh⟩ : ∃ z, z = A.base + ups A.hs := ⟨_, rfl⟩
      rw [← edl, ← euh] at EN3 REF zb
      have AB := fun W => hide (above_any (z := uh) (n := A.hi) W zb.2.2.1 zb.2.2.2 hhi)
      have LE := fun W => hide (less_w (z := dl) (n := A.lo) W (by omega) (by omega) hlo)
      clear EN EN2 edl euh zb sf HIN HU hbase hlo hhi HIN2
      go_wp2_with fail
      clear z0 z1 z2 z3 z4 z5 z6 z7 z8 z9 zl
      refine ((EN3 _).out HB.out).mono ?_
      rintro e w5 ⟨rfl, hb⟩
      obtain ⟨w6, ew, hbu, hl6, hh6⟩ := two_wide w5 dl uh
      have hb6 : Below wr.heap.size wr w6 := hb.trans (hbu.mono hb.size)
      have HB6 : Hid (Below w.heap.size w w6) := HB.out.trans (hb6.mono HB.out.size)
      have HA6 := hide (HA.out.below hb6)
      have HL6 := hide hl6
      have HH6 := hide hh6
      have hq6 : w5.heap.size + 1 < w6.heap.size := hh6.lt
      clear hb hbu hb6 hl6 hh6 HB HA EN3
      obtain ⟨z0, z1, z2, z3, z4, z5, z6, z7, z8, z9⟩ := HA6.out.at_
      have zl := HA6.out.lt
      obtain ⟨h0, h1⟩ := HH6.out.at_
      go_upto_region 12 with fail
      rw [← ew]
      clear ew
      go_wp2_with fail
      clear z0 z1 z2 z3 z4 z5 z6 z7 z8 z9 zl h0 h1
      refine (AB _).out.mono ?_
      rintro e w7 ⟨rfl, hb⟩
      have HB7 : Hid (Below w.heap.size w w7) := HB6.out.trans (hb.mono HB6.out.size)
      have HA7 := hide (HA6.out.below hb)
      have HL7 := hide (HL6.out.below hb)
      clear hb HB6 HA6 HL6 HH6
      obtain ⟨z0, z1, z2, z3, z4, z5, z6, z7, z8, z9⟩ := HA7.out.at_
      have zl := HA7.out.lt
      by_cases ga : A.hi < uh
      · have E : Hid (rightB A = false) := by show _ = _; rw [REF.out, decide_eq_true ga]; rfl
        have ga2 : decide (A.hi < uh) = true := decide_eq_true ga
        clear REF
        go_wp2_with fail
        go_returns
        exact ⟨by rw [E.out]; first | done | rfl, HB7.out⟩
      have ga2 : decide (A.hi < uh) = false := decide_eq_false ga
      rw [ga2] at REF
      obtain ⟨l0, l1⟩ := HL7.out.at_
      have ll := HL7.out.lt
      go_wp2_with fail
      clear z0 z1 z2 z3 z4 z5 z6 z7 z8 z9 zl l0 l1 ll
      refine (LE _).out.mono ?_
      rintro e w8 ⟨rfl, hb⟩
      have HB8 : Hid (Below w.heap.size w w8) := HB7.out.trans (hb.mono HB7.out.size)
      have HA8 := hide (HA7.out.below hb)
      clear hb HB7 HA7 HL7
      have kf := HF.out
      obtain ⟨z0, z1, z2, z3, z4, z5, z6, z7, z8, z9⟩ := HA8.out.at_
      have zl := HA8.out.lt
      by_cases gl : dl - A.lo < 0
      · have E : Hid (rightB A = false) := by show _ = _; rw [REF.out, decide_eq_true gl]; rfl
        have gl2 : hiOf (dl - A.lo) < 0 := by unfold hiOf; omega
        clear REF
        go_wp2_with fail
        go_returns
        exact ⟨by rw [E.out]; first | done | rfl, HB8.out⟩
      have gl2 : ¬ hiOf (dl - A.lo) < 0 := by unfold hiOf; omega
      rw [decide_eq_false gl] at REF
      simp only [Bool.not_false, Bool.true_and] at REF
      by_cases hc : A.lk.c = 0
      · have E : Hid (rightB A = decide (A.lk = lk0)) := by show _ = _; rw [REF.out]; unfold lkB; rw [if_pos hc]
        have EQ := fun W => lk_eql A.lk lk0 W
        generalize decide (A.lk = lk0) = b0 at EQ E
        unfold lval lk0 at EQ
        rw [hc] at z6 EQ
        clear REF
        go_wp2_with fail
        go_returns
        exact ⟨by rw [E.out]; first | done | rfl, HB8.out⟩
      · have hc2 : (A.lk.c == 0) = false := by simpa using hc
        obtain ⟨q, eq⟩ : ∃ q, q = A.base + A.lk.n := ⟨_, rfl⟩
        have RL := fun W => hide (rlocked_any A.lk W)
        have E : Hid (rightB A = (lockB A.lk && decide (((k : Int)) = 0) && decide (A.lo ≤ q ∧ q ≤ A.hi))) := by
          show _ = _
          rw [REF.out, eq]
          unfold lkB
          rw [if_neg hc]
          congr 2
          cases e : A.hs with
          | nil => rw [e] at hlen; subst hlen; rfl
          | cons x r => rw [e] at hlen; subst hlen; simp; omega
        have OF := fun (W : World) (b : Nat) (o0 : W.cell? ⟨b, 0, none⟩ = some (.int .i64 A.base)) (o1 : W.cell? ⟨b, 1, none⟩ = some (.int .i64 A.lk.n)) => hide (of_two o0 o1 HW.out.base HW.out.lk.n)
        rw [← eq] at OF
        have hlo := HW.out.lo
        have hhi := HW.out.hi
        have HS2 := fun W => hide (rhas_b A.lo A.hi q W)
        clear REF eq
        go_wp2_with fail
        refine (OF _ _ (by simp) (by simp)).out.mono ?_
        rintro e w9 ⟨rfl, hb⟩
        have hba := below_new w8 (.cells #[.int .i64 A.base, .int .i64 A.lk.n] 3)
        have HB9 : Hid (Below w.heap.size w w9) := HB8.out.trans ((hba.trans (hb.mono hba.size)).mono HB8.out.size)
        have HA9 := hide ((HA8.out.below hba).below hb)
        clear hb hba HB8 HA8 z0 z1 z2 z3 z4 z5 z6 z7 z8 z9 zl
        have E2 : ∀ (b9 : Bool) (v9 : Int), (b9 = true → v9 = q) → (b9 = false → ¬ (A.lo ≤ q ∧ q ≤ A.hi)) → True := fun _ _ _ _ => trivial
        by_cases hq : I64 q
        · have IY := fun W => hide (int_yes q W hq.1 hq.2)
          go_wp2_with fail
          refine (IY _).out.mono ?_
          rintro e w10 ⟨rfl, hb⟩
          have HB10 : Hid (Below w.heap.size w w10) := HB9.out.trans (hb.mono HB9.out.size)
          have HA10 := hide (HA9.out.below hb)
          clear hb HB9 HA9 E2 hq hlo hhi
          obtain ⟨z0, z1, z2, z3, z4, z5, z6, z7, z8, z9⟩ := HA10.out.at_
          have zl := HA10.out.lt
          go_wp2_with fail
          clear z0 z1 z2 z3 z4 z5 z6 z7 z8 z9 zl
          refine (RL _).out.mono ?_
          rintro e w11 ⟨rfl, hb⟩
          have HB11 : Hid (Below w.heap.size w w11) := HB10.out.trans (hb.mono HB10.out.size)
          have HA11 := hide (HA10.out.below hb)
          clear hb HB10 HA10
          obtain ⟨z0, z1, z2, z3, z4, z5, z6, z7, z8, z9⟩ := HA11.out.at_
          have zl := HA11.out.lt
          cases hlb : lockB A.lk
          · rw [hlb] at E
            go_wp2_with fail
            go_returns
            exact ⟨by rw [E.out]; rfl, HB11.out⟩
          · rw [hlb] at E
            by_cases h0 : (k : Int) = 0
            · obtain rfl : k = 0 := by omega
              go_wp2_with fail
              clear z0 z1 z2 z3 z4 z5 z6 z7 z8 z9 zl
              refine (HS2 _).out.mono ?_
              rintro e w12 ⟨rfl, hb⟩
              have HB12 : Hid (Below w.heap.size w w12) := HB11.out.trans (hb.mono HB11.out.size)
              clear hb
              go_wp2_with fail
              go_returns
              exact ⟨by rw [E.out]; unfold hasB; simp, HB12.out⟩
            · have h02 : ((k : Int) == 0) = false := by simpa using h0
              go_wp2_with fail
              go_returns
              exact ⟨by rw [E.out, decide_eq_false h0]; rfl, HB11.out⟩
        · have IN := fun W => hide (int_no q W (by unfold I64 at hq; omega))
          have E3 : Hid (rightB A = false) := by
            show _ = _
            rw [E.out, decide_eq_false (show ¬ (A.lo ≤ q ∧ q ≤ A.hi) by unfold I64 at *; omega), Bool.and_false]
          clear E2 hq hlo hhi E
          go_wp2_with fail
          refine (IN _).out.mono ?_
          rintro e w10 ⟨⟨v, rfl⟩, hb⟩
          have HB10 : Hid (Below w.heap.size w w10) := HB9.out.trans (hb.mono HB9.out.size)
          have HA10 := hide (HA9.out.below hb)
          clear hb HB9 HA9
          obtain ⟨z0, z1, z2, z3, z4, z5, z6, z7, z8, z9⟩ := HA10.out.at_
          have zl := HA10.out.lt
          go_wp2_with fail
          clear z0 z1 z2 z3 z4 z5 z6 z7 z8 z9 zl
          refine (RL _).out.mono ?_
          rintro e w11 ⟨rfl, hb⟩
          have HB11 : Hid (Below w.heap.size w w11) := HB10.out.trans (hb.mono HB10.out.size)
          have HA11 := hide (HA10.out.below hb)
          clear hb HB10 HA10
          obtain ⟨z0, z1, z2, z3, z4, z5, z6, z7, z8, z9⟩ := HA11.out.at_
          have zl := HA11.out.lt
          cases hlb : lockB A.lk
          · go_wp2_with fail
            go_returns
            exact ⟨by rw [E3.out]; rfl, HB11.out⟩
          · by_cases h0 : (k : Int) = 0
            · obtain rfl : k = 0 := by omega
              go_wp2_with fail
              go_returns
              exact ⟨by rw [E3.out]; rfl, HB11.out⟩
            · have h02 : ((k : Int) == 0) = false := by simpa using h0
              go_wp2_with fail
              go_returns
              exact ⟨by rw [E3.out]; rfl, HB11.out⟩
end Go.Proofs.Ytjcbhgkfbilifaa
