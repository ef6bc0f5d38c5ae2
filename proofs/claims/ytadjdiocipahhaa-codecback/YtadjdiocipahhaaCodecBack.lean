/- CodecBack: for every number, int, list of bytes and flag: written one behind the other they are read again, and then nothing is left. No condition but what an argument may be. -/
import Derived.Test.YtadjdiocipahhaaCodecOpen
import Derived.Test.YtadjdiocipahhaaCodecAwake
import Derived.Test.YtadjdiocipahhaaCodecText
import Derived.Test.YtadjdiocipahhaaCodecAt
namespace Go.Proofs.Ytadjdiocipahhaa
namespace CodecBack
open Go.ChangeShapes Go.WideShapes Go.ChangeAt Go.RowKit B8 Cm
set_option linter.unusedVariables false

theorem row1 (w : World) (c : Int) : Sq (w.alloc (.cells #[.int .u8 c] 5)) (some ⟨w.heap.size, 0, none⟩) 1 1 [c] ∨ (Lit.int .u8 c).wf = false := by
  by_cases h : (Lit.int .u8 c).wf = true
  · refine .inl ⟨rfl, Nat.le_refl _, fun h => absurd h (by simp), fun _ => ⟨w.heap.size, 0, rfl, fun j hj => ?_⟩, wfs_cons h wfs_nil⟩
    obtain rfl : j = 0 := by omega
    simp
  · exact .inr (by simpa using h)
theorem row1_one (w : World) : Sq (w.alloc (.cells #[.int .u8 1] 5)) (some ⟨w.heap.size, 0, none⟩) 1 1 [1] := (row1 w 1).resolve_right (by decide)
theorem row1_zero (w : World) : Sq (w.alloc (.cells #[.int .u8 0] 5)) (some ⟨w.heap.size, 0, none⟩) 1 1 [0] := (row1 w 0).resolve_right (by decide)

set_option maxHeartbeats 2000000 in
theorem walk_true (V : Nat) (n : Int) (hV : V < 18446744073709551616) (n0 : -9223372036854775808 ≤ n) (n1 : n ≤ 9223372036854775807) {a : Option Addr} {len cap : Nat} {bs : List Int} {w : World} (h : Sq w a len cap bs) (hr : cap * 1 ≤ 140737488351232) :
    Calls Try.prog 5 #[.int .u64 V, .int .i64 n, .slice a len cap, .bool true] w fun e w' => e = .returned (.bool true) ∧ Below w.heap.size w w' := by
  have hz := zig_lt n n0 n1
  have l1 := (numB_length V).2
  have l2 := (numB_length (zig n)).2
  have l3 := (numB_length bs.length).2
  have HL := hide h.length
  have hlc := h.lecap
  have H := hide h
  clear h
  have C1 := hide (cnumw_any V w hV)
  go_enter Try.func5, Try.ntmps5
  go_wp2_with fail
  refine C1.out.mono ?_
  rintro e w1 ⟨x1, rfl, o1, b1⟩
  obtain ⟨a1, c1, rfl, q1⟩ := sq_of_row rfl (cnumB_wfs V hV) o1
  go_wp2_with (at_builtin; refine wp_append_sq _ rfl (.tmp 12) (.tmp 14) rfl w.heap.size (.slice none 0 0) 0 [] rfl (World.ownsRow_nil _ _ _ _) a1 (numB V).length c1 (numB V) rfl q1 (by omega) b1.size ?_; intro x2 w2 o2 g2; simp only [List.nil_append, Nat.zero_add] at o2; have B2 := hide (below_grown b1 (World.ownsRow_nil w1 w.heap.size 5 1) (Nat.le_refl _) g2); have O2 := hide o2; clear o1 q1 g2 b1 o2)
  refine (cintw_any n w2 n0 n1).mono ?_
  rintro e w3 ⟨x3, rfl, o3, b3⟩
  obtain ⟨a3, c3, rfl, q3⟩ := sq_of_row rfl (cnumB_wfs (zig n) hz) o3
  have B3 := hide (below_step B2.out b3)
  have O3 := hide (row_below O2.out b3)
  clear b3 o3 B2 O2 C1
  go_wp2_with (at_builtin; refine wp_append_sq _ rfl (.tmp 16) (.tmp 18) rfl w.heap.size x2 (numB V).length (numB V) rfl O3.out a3 (numB (zig n)).length c3 (numB (zig n)) rfl q3 (by omega) B3.out.size ?_; intro x4 w4 o4 g4; have B4 := hide (below_grown B3.out O3.out (Nat.le_refl _) g4); have O4 := hide o4; clear q3 g4 o4 B3 O3)
  have H4 := hide (H.out.below B4.out)
  have hlen : len ≤ 140737488355312 := by omega
  have wt : wfs (numB bs.length ++ bs) := wfs_append (cnumB_wfs _ (by have := HL.out; omega)) H.out.wf
  have lt5 : (numB bs.length ++ bs).length ≤ 10 + len := by have := HL.out; simp; omega
  have C5 := ctextw_sq H4.out hlen
  obtain ⟨T, eT⟩ : ∃ T, T = numB bs.length ++ bs := ⟨_, rfl⟩
  rw [← eT] at wt lt5 C5
  have ET := hide eT
  clear eT
  refine C5.mono ?_
  rintro e w5 ⟨x5, rfl, o5, b5⟩
  obtain ⟨a5, c5, rfl, q5⟩ := sq_of_row rfl wt o5
  have B5 := hide (below_step B4.out b5)
  have O5 := hide (row_below O4.out b5)
  have WT := hide wt
  clear b5 o5 B4 O4 wt C5
  go_wp2_with (first
    | (at_builtin; refine wp_append_sq _ rfl (.tmp 20) (.tmp 22) rfl w.heap.size x4 ((numB V).length + (numB (zig n)).length) (numB V ++ numB (zig n)) rfl O5.out a5 T.length c5 T rfl q5 (by omega) B5.out.size ?_; intro x6 w6 o6 g6; have B6 := hide (below_grown B5.out O5.out (Nat.le_refl _) g6); have O6 := hide o6; clear q5 g6 o6 B5 O5)
    | (at_builtin; refine wp_append_sq _ rfl (.tmp 25) (.tmp 27) rfl w.heap.size x6 ((numB V).length + (numB (zig n)).length + T.length) (numB V ++ numB (zig n) ++ T) rfl (O6.out.alloc _) (some ⟨w6.heap.size, 0, none⟩) 1 1 [1] rfl (row1_one w6) (by omega) (Nat.le_trans B6.out.size (by simp)) ?_; intro x7 w7 o7 g7; have B7 := hide (below_grown (below_alloc B6.out (.cells #[.int .u8 1] 5)) (O6.out.alloc _) (Nat.le_refl _) g7); have O7 := hide o7; clear g7 o7 B6 O6))
  have F0 : (numB V ++ numB (zig n) ++ T ++ [(1 : Int)]).length = (numB V).length + (numB (zig n)).length + T.length + 1 := by simp; omega
  have F1 := numA_at [] (numB (zig n) ++ T ++ [(1 : Int)]) V hV
  rw [show [] ++ numB V ++ (numB (zig n) ++ T ++ [(1 : Int)]) = numB V ++ numB (zig n) ++ T ++ [(1 : Int)] by simp] at F1
  have F2 := intA_at (numB V) (T ++ [(1 : Int)]) n n0 n1
  rw [show numB V ++ numB (zig n) ++ (T ++ [(1 : Int)]) = numB V ++ numB (zig n) ++ T ++ [(1 : Int)] by simp] at F2
  have F3 := textA_at (numB V ++ numB (zig n)) [(1 : Int)] bs (len : Int) (by rw [HL.out]; omega) (by rw [HL.out]; omega)
  rw [← ET.out] at F3
  have F4 := flagA_at (numB V ++ numB (zig n) ++ T) true
  rw [show (if true = true then (1 : Int) else 0) = 1 from rfl] at F4
  have eT2 : (numB V ++ numB (zig n)).length + (numB bs.length).length + bs.length = (numB V).length + (numB (zig n)).length + T.length := by rw [ET.out]; simp; omega
  rw [eT2, List.length_append] at F3
  rw [List.length_append, List.length_append] at F4
  have WA : wfs (numB V ++ numB (zig n) ++ T ++ [(1 : Int)]) := wfs_append (wfs_append (wfs_append (cnumB_wfs V hV) (cnumB_wfs _ hz)) WT.out) (wfs_cons (by decide) wfs_nil)
  obtain ⟨a7, c7, rfl, q7⟩ := sq_of_row F0 WA O7.out
  obtain ⟨A, eA⟩ : ∃ A, A = numB V ++ numB (zig n) ++ T ++ [(1 : Int)] := ⟨_, rfl⟩
  rw [← eA] at F0 F1 F2 F3 F4 q7
  obtain ⟨P1, e1⟩ : ∃ P1, P1 = (numB V).length := ⟨_, rfl⟩
  obtain ⟨P2, e2⟩ : ∃ P2, P2 = (numB V).length + (numB (zig n)).length := ⟨_, rfl⟩
  obtain ⟨P3, e3⟩ : ∃ P3, P3 = (numB V).length + (numB (zig n)).length + T.length := ⟨_, rfl⟩
  have F1' : numA A ⟨0, 0⟩ = ⟨V, ⟨P1, 0⟩⟩ := by rw [e1]; simpa using F1
  rw [← e2, ← e1] at F2
  rw [← e3, ← e2] at F3
  rw [← e3] at F4 F0 q7 ⊢
  have hP : P3 + 1 ≤ 140737488355328 := by omega
  have F5 : endA A ⟨P3 + 1, 0⟩ = 0 := by unfold endA; rw [F0]; simp
  clear eA eT2 WA F1 e1 e2 e3 O7
  have C8 := hide (cnew_any q7 hP)
  clear q7
  have HF1 := hide F1'
  have HF2 := hide F2
  have HF3 := hide F3
  have HF4 := hide F4
  have HF5 := hide F5
  have HF0 := hide F0
  clear F1' F2 F3 F4 F5 F0 ET WT H4
  refine C8.out.mono ?_
  rintro e w8 ⟨R, rfl, hm, b8, hR⟩
  obtain ⟨a8, c8, hr8, _⟩ := hm
  have hR' : w.heap.size ≤ R := Nat.le_trans B7.out.size hR
  have B8 := hide (below_step B7.out b8)
  have R8 := hide hr8
  clear hr8 b8 B7 C8 hR
  go_wp2_with fail
  refine (awake_any w8).mono ?_
  rintro e w9 ⟨rfl, b9⟩
  have B9 := hide (below_step B8.out b9)
  have R9 := hide (R8.out.grown (grown_below b9 none) (by simp) (by simp))
  clear b9 R8 B8
  have C10 := cnum_any (s := ⟨0, 0⟩) R9.out
  rw [HF1.out] at C10
  go_wp2_with fail
  refine C10.mono ?_
  rintro e w10 ⟨rfl, r10, g10⟩
  have B10 := hide (below_row B9.out hR' g10)
  have C11 := hide (cint_any (s := ⟨P1, 0⟩) r10)
  rw [HF2.out] at C11
  clear r10 g10 C10 B9 R9
  go_wp2_with fail
  refine C11.out.mono ?_
  rintro e w11 ⟨rfl, r11, g11⟩
  have B11 := hide (below_row B10.out hR' g11)
  have C12 := hide (ctext_any (s := ⟨P2, 0⟩) (len : Int) (by omega) r11)
  rw [HF3.out] at C12
  clear r11 g11 C11 B10
  go_wp2_with fail
  refine C12.out.mono ?_
  rintro e w12 ⟨x12, rfl, ⟨a12, c12, rfl, m12⟩, r12, g12⟩
  have B12 := hide (below_row B11.out hR' g12)
  have HQ := H.out.below B12.out
  have M12 := m12.sq
  rw [HL.out] at M12
  have C13 := hide (bytes_sq M12 HQ (by omega))
  have R12 := hide r12
  rw [show (⟨bs, ⟨P3, 0⟩⟩ : Ans (List Int)).v.length = len from HL.out]
  clear r12 g12 C12 B11 m12 M12 HQ
  go_wp2_with fail
  refine C13.out.mono ?_
  rintro e w13 ⟨rfl, m, rfl⟩
  have C14 := hide (cflag_any (s := ⟨P3, 0⟩) (R12.out.drewN m))
  rw [HF4.out] at C14
  have B13 := hide (below_drewN B12.out m)
  clear C13 B12 R12
  go_wp2_with fail
  refine C14.out.mono ?_
  rintro e w14 ⟨rfl, r14, g14⟩
  have B14 := hide (below_row B13.out hR' g14)
  have C15 := cleft_any r14
  rw [Nat.sub_self] at C15
  have R14 := hide r14
  have C15 := hide C15
  clear r14 g14 C14 B13
  go_wp2_with fail
  refine C15.out.mono ?_
  rintro e w15 ⟨rfl, m2, rfl⟩
  have C16 := cend_any (s := ⟨P3 + 1, 0⟩) (R14.out.drewN m2)
  rw [HF5.out] at C16
  have C16 := hide C16
  clear C15 R14
  go_wp2_with fail
  refine C16.out.mono ?_
  rintro e w16 ⟨rfl, m3, rfl⟩
  go_wp2_with fail
  go_ret
  exact ⟨rfl, below_drewN B14.out _⟩

set_option maxHeartbeats 2000000 in
theorem walk_false (V : Nat) (n : Int) (hV : V < 18446744073709551616) (n0 : -9223372036854775808 ≤ n) (n1 : n ≤ 9223372036854775807) {a : Option Addr} {len cap : Nat} {bs : List Int} {w : World} (h : Sq w a len cap bs) (hr : cap * 1 ≤ 140737488351232) :
    Calls Try.prog 5 #[.int .u64 V, .int .i64 n, .slice a len cap, .bool false] w fun e w' => e = .returned (.bool true) ∧ Below w.heap.size w w' := by
  have hz := zig_lt n n0 n1
  have l1 := (numB_length V).2
  have l2 := (numB_length (zig n)).2
  have l3 := (numB_length bs.length).2
  have HL := hide h.length
  have hlc := h.lecap
  have H := hide h
  clear h
  have C1 := hide (cnumw_any V w hV)
  go_enter Try.func5, Try.ntmps5
  go_wp2_with fail
  refine C1.out.mono ?_
  rintro e w1 ⟨x1, rfl, o1, b1⟩
  obtain ⟨a1, c1, rfl, q1⟩ := sq_of_row rfl (cnumB_wfs V hV) o1
  go_wp2_with (at_builtin; refine wp_append_sq _ rfl (.tmp 12) (.tmp 14) rfl w.heap.size (.slice none 0 0) 0 [] rfl (World.ownsRow_nil _ _ _ _) a1 (numB V).length c1 (numB V) rfl q1 (by omega) b1.size ?_; intro x2 w2 o2 g2; simp only [List.nil_append, Nat.zero_add] at o2; have B2 := hide (below_grown b1 (World.ownsRow_nil w1 w.heap.size 5 1) (Nat.le_refl _) g2); have O2 := hide o2; clear o1 q1 g2 b1 o2)
  refine (cintw_any n w2 n0 n1).mono ?_
  rintro e w3 ⟨x3, rfl, o3, b3⟩
  obtain ⟨a3, c3, rfl, q3⟩ := sq_of_row rfl (cnumB_wfs (zig n) hz) o3
  have B3 := hide (below_step B2.out b3)
  have O3 := hide (row_below O2.out b3)
  clear b3 o3 B2 O2 C1
  go_wp2_with (at_builtin; refine wp_append_sq _ rfl (.tmp 16) (.tmp 18) rfl w.heap.size x2 (numB V).length (numB V) rfl O3.out a3 (numB (zig n)).length c3 (numB (zig n)) rfl q3 (by omega) B3.out.size ?_; intro x4 w4 o4 g4; have B4 := hide (below_grown B3.out O3.out (Nat.le_refl _) g4); have O4 := hide o4; clear q3 g4 o4 B3 O3)
  have H4 := hide (H.out.below B4.out)
  have hlen : len ≤ 140737488355312 := by omega
  have wt : wfs (numB bs.length ++ bs) := wfs_append (cnumB_wfs _ (by have := HL.out; omega)) H.out.wf
  have lt5 : (numB bs.length ++ bs).length ≤ 10 + len := by have := HL.out; simp; omega
  have C5 := ctextw_sq H4.out hlen
  obtain ⟨T, eT⟩ : ∃ T, T = numB bs.length ++ bs := ⟨_, rfl⟩
  rw [← eT] at wt lt5 C5
  have ET := hide eT
  clear eT
  refine C5.mono ?_
  rintro e w5 ⟨x5, rfl, o5, b5⟩
  obtain ⟨a5, c5, rfl, q5⟩ := sq_of_row rfl wt o5
  have B5 := hide (below_step B4.out b5)
  have O5 := hide (row_below O4.out b5)
  have WT := hide wt
  clear b5 o5 B4 O4 wt C5
  go_wp2_with (first
    | (at_builtin; refine wp_append_sq _ rfl (.tmp 20) (.tmp 22) rfl w.heap.size x4 ((numB V).length + (numB (zig n)).length) (numB V ++ numB (zig n)) rfl O5.out a5 T.length c5 T rfl q5 (by omega) B5.out.size ?_; intro x6 w6 o6 g6; have B6 := hide (below_grown B5.out O5.out (Nat.le_refl _) g6); have O6 := hide o6; clear q5 g6 o6 B5 O5)
    | (at_builtin; refine wp_append_sq _ rfl (.tmp 25) (.tmp 27) rfl w.heap.size x6 ((numB V).length + (numB (zig n)).length + T.length) (numB V ++ numB (zig n) ++ T) rfl (O6.out.alloc _) (some ⟨w6.heap.size, 0, none⟩) 1 1 [0] rfl (row1_zero w6) (by omega) (Nat.le_trans B6.out.size (by simp)) ?_; intro x7 w7 o7 g7; have B7 := hide (below_grown (below_alloc B6.out (.cells #[.int .u8 0] 5)) (O6.out.alloc _) (Nat.le_refl _) g7); have O7 := hide o7; clear g7 o7 B6 O6))
  have F0 : (numB V ++ numB (zig n) ++ T ++ [(0 : Int)]).length = (numB V).length + (numB (zig n)).length + T.length + 1 := by simp; omega
  have F1 := numA_at [] (numB (zig n) ++ T ++ [(0 : Int)]) V hV
  rw [show [] ++ numB V ++ (numB (zig n) ++ T ++ [(0 : Int)]) = numB V ++ numB (zig n) ++ T ++ [(0 : Int)] by simp] at F1
  have F2 := intA_at (numB V) (T ++ [(0 : Int)]) n n0 n1
  rw [show numB V ++ numB (zig n) ++ (T ++ [(0 : Int)]) = numB V ++ numB (zig n) ++ T ++ [(0 : Int)] by simp] at F2
  have F3 := textA_at (numB V ++ numB (zig n)) [(0 : Int)] bs (len : Int) (by rw [HL.out]; omega) (by rw [HL.out]; omega)
  rw [← ET.out] at F3
  have F4 := flagA_at (numB V ++ numB (zig n) ++ T) false
  rw [show (if false = true then (1 : Int) else 0) = 0 from rfl] at F4
  have eT2 : (numB V ++ numB (zig n)).length + (numB bs.length).length + bs.length = (numB V).length + (numB (zig n)).length + T.length := by rw [ET.out]; simp; omega
  rw [eT2, List.length_append] at F3
  rw [List.length_append, List.length_append] at F4
  have WA : wfs (numB V ++ numB (zig n) ++ T ++ [(0 : Int)]) := wfs_append (wfs_append (wfs_append (cnumB_wfs V hV) (cnumB_wfs _ hz)) WT.out) (wfs_cons (by decide) wfs_nil)
  obtain ⟨a7, c7, rfl, q7⟩ := sq_of_row F0 WA O7.out
  obtain ⟨A, eA⟩ : ∃ A, A = numB V ++ numB (zig n) ++ T ++ [(0 : Int)] := ⟨_, rfl⟩
  rw [← eA] at F0 F1 F2 F3 F4 q7
  obtain ⟨P1, e1⟩ : ∃ P1, P1 = (numB V).length := ⟨_, rfl⟩
  obtain ⟨P2, e2⟩ : ∃ P2, P2 = (numB V).length + (numB (zig n)).length := ⟨_, rfl⟩
  obtain ⟨P3, e3⟩ : ∃ P3, P3 = (numB V).length + (numB (zig n)).length + T.length := ⟨_, rfl⟩
  have F1' : numA A ⟨0, 0⟩ = ⟨V, ⟨P1, 0⟩⟩ := by rw [e1]; simpa using F1
  rw [← e2, ← e1] at F2
  rw [← e3, ← e2] at F3
  rw [← e3] at F4 F0 q7 ⊢
  have hP : P3 + 1 ≤ 140737488355328 := by omega
  have F5 : endA A ⟨P3 + 1, 0⟩ = 0 := by unfold endA; rw [F0]; simp
  clear eA eT2 WA F1 e1 e2 e3 O7
  have C8 := hide (cnew_any q7 hP)
  clear q7
  have HF1 := hide F1'
  have HF2 := hide F2
  have HF3 := hide F3
  have HF4 := hide F4
  have HF5 := hide F5
  have HF0 := hide F0
  clear F1' F2 F3 F4 F5 F0 ET WT H4
  refine C8.out.mono ?_
  rintro e w8 ⟨R, rfl, hm, b8, hR⟩
  obtain ⟨a8, c8, hr8, _⟩ := hm
  have hR' : w.heap.size ≤ R := Nat.le_trans B7.out.size hR
  have B8 := hide (below_step B7.out b8)
  have R8 := hide hr8
  clear hr8 b8 B7 C8 hR
  go_wp2_with fail
  refine (awake_any w8).mono ?_
  rintro e w9 ⟨rfl, b9⟩
  have B9 := hide (below_step B8.out b9)
  have R9 := hide (R8.out.grown (grown_below b9 none) (by simp) (by simp))
  clear b9 R8 B8
  have C10 := cnum_any (s := ⟨0, 0⟩) R9.out
  rw [HF1.out] at C10
  go_wp2_with fail
  refine C10.mono ?_
  rintro e w10 ⟨rfl, r10, g10⟩
  have B10 := hide (below_row B9.out hR' g10)
  have C11 := hide (cint_any (s := ⟨P1, 0⟩) r10)
  rw [HF2.out] at C11
  clear r10 g10 C10 B9 R9
  go_wp2_with fail
  refine C11.out.mono ?_
  rintro e w11 ⟨rfl, r11, g11⟩
  have B11 := hide (below_row B10.out hR' g11)
  have C12 := hide (ctext_any (s := ⟨P2, 0⟩) (len : Int) (by omega) r11)
  rw [HF3.out] at C12
  clear r11 g11 C11 B10
  go_wp2_with fail
  refine C12.out.mono ?_
  rintro e w12 ⟨x12, rfl, ⟨a12, c12, rfl, m12⟩, r12, g12⟩
  have B12 := hide (below_row B11.out hR' g12)
  have HQ := H.out.below B12.out
  have M12 := m12.sq
  rw [HL.out] at M12
  have C13 := hide (bytes_sq M12 HQ (by omega))
  have R12 := hide r12
  rw [show (⟨bs, ⟨P3, 0⟩⟩ : Ans (List Int)).v.length = len from HL.out]
  clear r12 g12 C12 B11 m12 M12 HQ
  go_wp2_with fail
  refine C13.out.mono ?_
  rintro e w13 ⟨rfl, m, rfl⟩
  have C14 := hide (cflag_any (s := ⟨P3, 0⟩) (R12.out.drewN m))
  rw [HF4.out] at C14
  have B13 := hide (below_drewN B12.out m)
  clear C13 B12 R12
  go_wp2_with fail
  refine C14.out.mono ?_
  rintro e w14 ⟨rfl, r14, g14⟩
  have B14 := hide (below_row B13.out hR' g14)
  have C15 := cleft_any r14
  rw [Nat.sub_self] at C15
  have R14 := hide r14
  have C15 := hide C15
  clear r14 g14 C14 B13
  go_wp2_with fail
  refine C15.out.mono ?_
  rintro e w15 ⟨rfl, m2, rfl⟩
  have C16 := cend_any (s := ⟨P3 + 1, 0⟩) (R14.out.drewN m2)
  rw [HF5.out] at C16
  have C16 := hide C16
  clear C15 R14
  go_wp2_with fail
  refine C16.out.mono ?_
  rintro e w16 ⟨rfl, m3, rfl⟩
  go_wp2_with fail
  go_ret
  exact ⟨rfl, below_drewN B14.out _⟩

theorem walk (v n : Int) (v0 : 0 ≤ v) (v1 : v ≤ 18446744073709551615) (n0 : -9223372036854775808 ≤ n) (n1 : n ≤ 9223372036854775807) (f : Bool) {a : Option Addr} {len cap : Nat} {bs : List Int} {w : World} (h : Sq w a len cap bs) (hr : cap * 1 ≤ 140737488351232) :
    Calls Try.prog 5 #[.int .u64 v, .int .i64 n, .slice a len cap, .bool f] w fun e w' => e = .returned (.bool true) ∧ Below w.heap.size w w' := by
  obtain ⟨V, rfl⟩ := Int.eq_ofNat_of_zero_le v0
  cases f
  · exact walk_false V n (by omega) n0 n1 h hr
  · exact walk_true V n (by omega) n0 n1 h hr

set_option maxRecDepth 100000 in
theorem lifted (os : Os) (started : os.Started) (H : Type) (enc : TypeId × Value → H) :
    ReturnsInHanded {} Try.checked os 5 .any (Rows.codecBackSpec.pre6 enc Try.prog Try.f5 Rows.codecBackRow.domain false) (Rows.codecBackSpec.post enc Try.prog Try.f5 false true false false) := by
  refine returnsInHanded_of_change_sized (C := Try.checked) own started (by kernel_rfl) Try.func5
    (ChangeSpec.witness6 (enc := enc) (C := Try.checked) false ⟨#[], #[.int .u64 0, .int .i64 0, .slice none 0 0, .bool false], []⟩ 8 (by kernel_rfl) (by kernel_rfl) (by kernel_rfl) (by kernel_rfl)) ?_
  intro W base args ds gs before hval0 hW hcnd hsz0 _
  have hsz : (DataW.weightsEach Try.prog (Try.f5.params.toList ++ Rows.codecBackSpec.plain.varTypes Try.prog) (ds ++ gs)).all (· ≤ reachBytes) = true := hsz0
  have hval : ∀ (j : Nat) t v, Try.f5.params[j]? = some t → args[j]? = some v → Value.okWide Try.prog W .any base t v := hval0
  have hW' := hW
  obtain ⟨p, q, hA0, hV, rfl, hfz, hnd⟩ := hW
  have hA : DataW.TrodAll enc Try.prog W 0 (fun _ => true) true Try.f5.params.toList args.toList ds p := hA0
  rw [Try.params5] at hA hval hsz
  obtain ⟨v0, vs0, d0, ds0, p0, q0, hargs, rfl, rfl, h0, r0⟩ := trodAll_cons hA
  obtain ⟨v1, vs1, d1, ds1, p1, q1, rfl, rfl, rfl, h1, r1⟩ := trodAll_cons r0
  obtain ⟨v2, vs2, d2, ds2, p2, q2, rfl, rfl, rfl, h2, r2⟩ := trodAll_cons r1
  obtain ⟨v3, vs3, d3, ds3, p3, q3, rfl, rfl, rfl, h3, r3⟩ := trodAll_cons r2
  obtain ⟨rfl, rfl, rfl⟩ := trodAll_nil r3
  obtain rfl : args = #[v0, v1, v2, v3] := by cases args; simp_all
  obtain ⟨rfl, rfl⟩ := trodVars_none hV
  have lt0 : ∀ x ∈ p0, x.block < W.heap.size := by obtain ⟨m, hm⟩ := h0; exact DataW.trod_lt m _ _ _ hm
  obtain ⟨v, rfl, vb⟩ := open_u64 (hval 0 38 v0 rfl rfl) h0
  have lt1 : ∀ x ∈ p1, x.block < W.heap.size := by obtain ⟨m, hm⟩ := h1; exact DataW.trod_lt m _ _ _ hm
  obtain ⟨n, rfl, nb⟩ := open_i64 (hval 1 3 v1 rfl rfl) h1
  have lt2 : ∀ x ∈ p2, x.block < W.heap.size := by obtain ⟨m, hm⟩ := h2; exact DataW.trod_lt m _ _ _ hm
  obtain ⟨a, len, cap, bs, rfl, h⟩ := open_sq_sized (hval 2 22 v2 rfl rfl) h2 (fun elems spare e => by have h := hsz; rw [e] at h; exact sized_slice h (j := 2) (t := 22) (e := 5) rfl rfl Try.underlying22)
  have lt3 : ∀ x ∈ p3, x.block < W.heap.size := by obtain ⟨m, hm⟩ := h3; exact DataW.trod_lt m _ _ _ hm
  obtain ⟨f, rfl, fb⟩ := open_flag (hval 3 4 v3 rfl rfl) h3
  clear hA0 hval0
  refine (walk v n vb.1 vb.2 nb.1 nb.2 f h.1 h.2).mono fun e W' ⟨he, bel⟩ => ?_
  subst he
  exact ⟨_, rfl, _, _, _, [], _, [], hW', trodAll_mk1 (shut_bool Try.underlying4 _), (trodAll_cons_mk (Below.trod laidOut (by kernel_rfl) (of_decide_eq_true (by kernel_rfl)) h0 bel lt0) (trodAll_cons_mk (Below.trod laidOut (by kernel_rfl) (of_decide_eq_true (by kernel_rfl)) h1 bel lt1) (trodAll_cons_mk (Below.trod laidOut (by kernel_rfl) (of_decide_eq_true (by kernel_rfl)) h2 bel lt2) (trodAll_cons_mk (Below.trod laidOut (by kernel_rfl) (of_decide_eq_true (by kernel_rfl)) h3 bel lt3) trodAll_mk0)))), rfl, bel.frame _, fun h => by cases h⟩

theorem over : Rows.codecBackRow.holds Try.pinned (OpenSpec.ofChange Rows.codecBackSpec) :=
  OpenClaim.holds_of_wide 5 Try.f5 rfl rfl rfl rfl rfl rfl rfl ⟨rfl, rfl, rfl, rfl, rfl⟩ rfl rfl rfl rfl rfl (by kernel_rfl) Try.func5 (by kernel_rfl)
    (of_decide_eq_true (by kernel_rfl)) (by unfold Func.isWrapper; first | (rw [if_pos (by decide +kernel)]; kernel_rfl) | (rw [if_neg (by decide +kernel)]; exact ⟨rfl, rfl⟩))
    (fun os started H enc _ => lifted os started H enc)

theorem proved : Rows.CodecBackSaid := over
#print axioms proved
end CodecBack
theorem codecBack_holds : Rows.CodecBackSaid := CodecBack.proved
end Go.Proofs.Ytadjdiocipahhaa
