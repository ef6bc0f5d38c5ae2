/- What the landed Num, Int and Text return: the bytes of a number, an int, a text, in memory of their own. No condition but the size. -/
import Derived.Test.YtfdejkfbjmkngabSq8
import Derived.Test.YtfdejkfbjmkngabCodecMath
import Derived.Laws.AppendOwnNone
import Derived.Laws.BitsAllLaws
namespace Go.Proofs.Ytfdejkfbjmkngab
open Go.ChangeShapes Go.WideShapes Go.ChangeAt Go.RowKit B8 Cm
set_option linter.unusedVariables false

theorem or128_all : ∀ a, a < 256 → a ||| 128 = a % 128 + 128 := by decide +kernel
theorem or128 (x : Nat) : bits .or .u8 ((x : Int) % 256) 128 = (x : Int) % 128 + 128 := by
  rw [u8_or _ 128 (by omega) (by omega) (by omega) (by omega), show (128 : Int).toNat = 128 from rfl, or128_all _ (by omega)]
  omega

set_option maxRecDepth 20000 in
set_option maxHeartbeats 1000000 in
theorem cnumw_any (V : Nat) (w : World) (hV : V < 18446744073709551616) :
    Calls Try.prog 111 #[.int .u64 V] w fun e w' => ∃ x, e = .returned x ∧ w'.ownsRow w.heap.size 5 1 x (numB V).length (vals (numB V)) ∧ Below w.heap.size w w' := by
  obtain ⟨i0, hi, hz0, hz1, hz2⟩ := info_parts B8.info
  go_enter Try.func111, Try.ntmps111
  go_wp2_with fail
  go_loopw [0, 3] (fun v b wr => ∃ (f x : Nat) (xs : List Int), v = .int .u64 x ∧ Hid (xs ++ numF f x = numB V) ∧ Hid (x < 128 ^ (f + 1)) ∧ x < 18446744073709551616 ∧ xs.length + f ≤ 9 ∧ wr.ownsRow w.heap.size 5 1 b xs.length (vals xs) ∧ Below w.heap.size w wr) (fun v _ _ => (intOf v).toNat)
  case atStart => exact ⟨9, V, [], rfl, rfl, by show _ < _; omega, hV, by simp, World.ownsRow_nil _ _ _ _, Below.refl _ _⟩
  case round =>
    obtain ⟨f, x, xs, rfl, HX, HF, hx, hl, hown, hnx⟩ := hrel
    by_cases h : x ≤ 127
    · have HE : Hid (xs ++ [(x : Int)] = numB V) := by
        have := HX.out
        rw [numF_end f x h] at this
        exact this
      go_wp2_with (first
        | (at_builtin; refine wpList_append_own _ rfl (.tmp 14) (.tmp 17) 22 rfl w.heap.size 5 i0 (.int .u8 0) 1 1 Try.underlying22 hi hz0 hz1 hz2 rfl (by decide) _ _ _ rfl (hown.alloc _) ⟨wr.heap.size, 0, none⟩ 1 1 [.int .u8 (x : Int)] rfl rfl ?c1 ?c2 ?c3 ?c4 ?c5 ?_))
      case c1 =>
        intro j u hj
        match j, hj with
        | 0, hj => simp at hj; subst hj; simp [Addr.add]
      case c2 => intro u hu; simp at hu; subst hu; rfl
      case c3 => unfold maxLen; omega
      case c4 => omega
      case c5 => have := hnx.size; simp; omega
      intro v' w1 hown' hgrow _
      go_wp2_with fail
      go_ret
      refine ⟨v', rfl, ?_, (hnx.alloc hnx.size _).grown hgrow (by have := hnx.size; simp; omega) (fun k hk => (hown.lt k hk).1)⟩
      rw [← HE.out, vals_append, List.length_append]
      exact hown'
    · obtain ⟨f', rfl⟩ : ∃ f', f = f' + 1 := by
        match f, HF.out with
        | 0, h2 => omega
        | f + 1, _ => exact ⟨f, rfl⟩
      have HE : Hid (xs ++ [(x : Int) % 128 + 128] ++ numF f' (x / 128) = numB V) := by
        have := HX.out
        rw [numF_more f' x h] at this
        show _ = _
        rw [List.append_assoc]
        exact this
      have HF' : Hid (x / 128 < 128 ^ (f' + 1)) := by
        have := HF.out
        rw [Nat.pow_succ] at this
        exact Nat.div_lt_of_lt_mul (by rw [Nat.mul_comm]; exact this)
      have HO := or128 x
      go_wp2_with (first
        | (at_builtin; refine wpList_append_own _ rfl (.tmp 6) (.tmp 10) 22 rfl w.heap.size 5 i0 (.int .u8 0) 1 1 Try.underlying22 hi hz0 hz1 hz2 rfl (by decide) _ _ _ rfl (hown.alloc _) ⟨wr.heap.size, 0, none⟩ 1 1 [.int .u8 ((x : Int) % 128 + 128)] rfl rfl ?d1 ?d2 ?d3 ?d4 ?d5 ?_))
      case d1 =>
        intro j u hj
        match j, hj with
        | 0, hj => simp at hj; subst hj; simp [Addr.add]
      case d2 => intro u hu; simp at hu; subst hu; rfl
      case d3 => unfold maxLen; omega
      case d4 => omega
      case d5 => have := hnx.size; simp; omega
      intro v' w1 hown' hgrow _
      go_wp2_with fail
      go_roundw
      case rel =>
        refine ⟨f', x / 128, xs ++ [(x : Int) % 128 + 128], by go_num, HE, HF', by omega, by simp; omega, ?_, (hnx.alloc hnx.size _).grown hgrow (by have := hnx.size; simp; omega) (fun k hk => (hown.lt k hk).1)⟩
        rw [vals_append, List.length_append]
        exact hown'
      case measure => simp [intOf]; omega

theorem cnumw_int (x : Int) (w : World) (h0 : 0 ≤ x) (h1 : x < 18446744073709551616) :
    Calls Try.prog 111 #[.int .u64 x] w fun e w' => ∃ y, e = .returned y ∧ w'.ownsRow w.heap.size 5 1 y (numB x.toNat).length (vals (numB x.toNat)) ∧ Below w.heap.size w w' := by
  have := cnumw_any x.toNat w (by omega)
  rw [show ((x.toNat : Nat) : Int) = x from by omega] at this
  exact this

theorem not64 (n : Int) (h0 : -9223372036854775808 ≤ n) (h1 : n < 0) : bits .xor .u64 IntKind.u64.max (IntKind.u64.wrap (IntKind.u64.wrap n * 2)) = 2 * -(n + 1) + 1 := by
  rw [wrapU n, wrapU]
  obtain ⟨s, hs⟩ : ∃ s : Nat, n % 18446744073709551616 * 2 % 18446744073709551616 = s := ⟨(n % 18446744073709551616 * 2 % 18446744073709551616).toNat, by omega⟩
  rw [hs]
  show IntKind.u64.wrap ((BitVec.ofInt 64 IntKind.u64.max ^^^ BitVec.ofInt 64 (s : Int)).toNat : Int) = _
  have e1 : BitVec.ofInt 64 IntKind.u64.max = BitVec.allOnes 64 := by decide
  rw [e1, BitVec.allOnes_xor, BitVec.toNat_not, BitVec.toNat_ofInt, wrapU]
  omega

theorem cintw_any (n : Int) (w : World) (n0 : -9223372036854775808 ≤ n) (n1 : n ≤ 9223372036854775807) :
    Calls Try.prog 112 #[.int .i64 n] w fun e w' => ∃ y, e = .returned y ∧ w'.ownsRow w.heap.size 5 1 y (numB (zig n)).length (vals (numB (zig n))) ∧ Below w.heap.size w w' := by
  by_cases h : 0 ≤ n
  · have c := hide (cnumw_int (n * 2) w (by omega) (by omega))
    rw [show zig n = (n * 2).toNat by rw [zig_up n h]; omega]
    go_enter Try.func112, Try.ntmps112
    go_wp2_with fail
    refine c.out.mono ?_
    rintro e w' ⟨y, rfl, h1, h2⟩
    go_wp2_with fail
    go_ret
    exact ⟨y, rfl, h1, h2⟩
  · have c := hide (cnumw_int (2 * -(n + 1) + 1) w (by omega) (by omega))
    rw [zig_down n h]
    have HN := hide (not64 n n0 (by omega))
    go_enter Try.func112, Try.ntmps112
    go_wp2_with fail
    rw [HN.out]
    refine c.out.mono ?_
    rintro e w' ⟨y, rfl, h1, h2⟩
    go_wp2_with fail
    go_ret
    exact ⟨y, rfl, h1, h2⟩
theorem cnumB_wfs (v : Nat) (h : v < 18446744073709551616) : wfs (numB v) := by
  intro j
  by_cases hj : j < (numB v).length
  · rw [List.getElem?_eq_getElem hj]
    have := numF_bytes 9 v (by omega) _ (List.getElem_mem hj)
    exact WalkArith.wf_u8 (by show 0 ≤ (numB v)[j] ∧ (numB v)[j] ≤ 255; exact this)
  · rw [List.getElem?_eq_none (Nat.le_of_not_lt hj)]
    decide

theorem ctextw_sq {a : Option Addr} {len cap : Nat} {bs : List Int} {w : World} (h : Sq w a len cap bs) (hr : len ≤ 140737488355312) :
    Calls Try.prog 110 #[.slice a len cap] w fun e w' => ∃ y, e = .returned y ∧ w'.ownsRow w.heap.size 5 1 y (numB bs.length ++ bs).length (vals (numB bs.length ++ bs)) ∧ Below w.heap.size w w' := by
  have c := hide (cnumw_any len w (by omega))
  have hl := numF_length 9 len
  have hl' : (numB len).length ≤ 10 := hl.2
  have H := hide h
  clear h hl
  go_enter Try.func110, Try.ntmps110
  go_wp2_with fail
  refine c.out.mono ?_
  rintro e w1 ⟨y, rfl, hown, hb1⟩
  have H1 := hide (H.out.below hb1)
  go_wp2_with (at_builtin; refine wp_append_sq _ rfl (.tmp 6) (.tmp 7) rfl w.heap.size y (numB len).length (numB len) rfl hown a len cap bs rfl H1.out (by omega) hb1.size ?_; intro v2 w2 hown2 hgrow2)
  go_ret
  refine ⟨v2, rfl, ?_, below_grown hb1 hown (Nat.le_refl _) hgrow2⟩
  rw [List.length_append, H.out.length]
  exact hown2
end Go.Proofs.Ytfdejkfbjmkngab
