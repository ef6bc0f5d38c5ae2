/- What the landed writer does with texts, bytes, a flag, a uint32, an Errno, a count; its end. No condition but the size. -/
import Derived.Test.YtfdejkfbjmkngabWireWs
import Derived.Test.YtfdejkfbjmkngabWireStr
namespace Go.Proofs.Ytfdejkfbjmkngab
open Go.ChangeShapes Go.WideShapes Go.ChangeAt Go.RowKit B8 Cm Wm
set_option linter.unusedVariables false

/-- the writer behind fields that may not be written: behind whatever such fields -/
def WSbad (w : World) (B W : Nat) : Prop := ∀ gs, okAll gs = false → WS w B W gs

theorem wfits_yes {w : World} {B W : Nat} {fs : List Fld} (h : WS w B W fs) (ho : okAll fs = true) (n most : Int) (hn : n ≤ most) :
    Calls Try.prog 108 #[.pointer (some ⟨W, 0, none⟩), .int .i64 n, .int .i64 most] w fun e w' => e = .returned (.bool true) ∧ WS w' B W fs ∧ Stq (Wown W) w w' := by
  obtain ⟨v, xs, long, h⟩ := h
  obtain ⟨rfl, _⟩ := h.some_ok ho
  refine (wfits_any n most h.c1 h.f1).mono ?_
  rintro e w' ⟨rfl, rfl⟩
  have hd : decide (most < n) = false := by simp; omega
  rw [hd]
  exact ⟨rfl, ⟨_, _, _, wst_flag h⟩, wown_set h.c0 _⟩
theorem wfits_no {w : World} {B W : Nat} {fs : List Fld} (h : WS w B W fs) (n most : Int) (hn : okAll fs = false ∨ most < n) :
    Calls Try.prog 108 #[.pointer (some ⟨W, 0, none⟩), .int .i64 n, .int .i64 most] w fun e w' => e = .returned (.bool false) ∧ WSbad w' B W ∧ Stq (Wown W) w w' := by
  obtain ⟨v, xs, long, h⟩ := h
  refine (wfits_any n most h.c1 h.f1).mono ?_
  rintro e w' ⟨rfl, rfl⟩
  have hd : (long || decide (most < n)) = true := by
    rcases hn with hn | hn
    · rw [h.some_no hn]; rfl
    · rw [decide_eq_true hn]; cases long <;> rfl
  rw [hd]
  exact ⟨rfl, fun gs hg => ⟨_, _, _, wst_bad h gs hg⟩, wown_set h.c0 _⟩
theorem WSbad.below {w w1 : World} {B W : Nat} (h : WSbad w B W) (hb : Below w.heap.size w w1) : WSbad w1 B W := fun gs hg => (h gs hg).below hb

/-- put, of bytes that a call has just made -/
theorem wput_row {w w1 : World} {B W : Nat} {fs : List Fld} {bs : List Int} {y : Value} (h : WS w B W fs) (hB : B ≤ w.heap.size) (hb : Below w.heap.size w w1) (hl : bs.length ≤ 140737488000000) (hw : wfs bs)
    (hown : w1.ownsRow w.heap.size 5 1 y bs.length (vals bs)) :
    Calls Try.prog 109 #[.pointer (some ⟨W, 0, none⟩), y] w1 fun e w' => e = .returned (.tuple #[]) ∧ WS w' B W (fs ++ [⟨bs, true⟩]) ∧ Stq (Wown W) w w' := by
  obtain ⟨a, c, rfl, q⟩ := sq_of_row rfl hw hown
  have hap : ∀ b off, a = some ⟨b, off, none⟩ → 0 < bs.length → b ≠ W := by
    intro b off e _
    obtain ⟨am, cm, em, mm⟩ := mine_of_row rfl hw hown
    simp only [Value.slice.injEq] at em
    obtain ⟨rfl, _, rfl⟩ := em
    obtain ⟨g, cur, e1, e2, _⟩ := mm.2 _ e
    cases e1
    have := h.lt
    omega
  exact (wput_any (h.below hb) (Nat.le_trans hB hb.size) q hl hap).mono fun e w' ⟨h1, h2, h3⟩ => ⟨h1, h2, (stq_below hb h.lt).trans h3⟩

theorem fldA_text {x : Atom} (hk : x.k = 3 ∨ x.k = 4) : fldA x = ⟨numB x.bs.length ++ x.bs, decide (x.bs.length ≤ 65535)⟩ := by
  unfold fldA atomB atomFit
  rcases hk with hk | hk <;> rw [hk] <;> rfl
theorem fldA_small {x : Atom} (hk : x.k = 1) : fldA x = ⟨numB x.z.toNat, true⟩ := by
  unfold fldA atomB atomFit
  rw [hk]
  rfl
theorem fldA_flag {x : Atom} (hk : x.k = 2) : fldA x = ⟨[x.z], true⟩ := by
  unfold fldA atomB atomFit
  rw [hk]
  rfl

theorem werrno_any {w : World} {B W M o : Nat} {fs : List Fld} (z : Int) (z0 : -9223372036854775808 ≤ z) (z1 : z ≤ 9223372036854775807) (h : WS w B W fs) (hB : B ≤ w.heap.size) (hc : w.cell? ⟨M, o, none⟩ = some (.int .i64 z)) :
    Calls Try.prog 103 #[.pointer (some ⟨W, 0, none⟩), .pointer (some ⟨M, o, none⟩)] w fun e w' => e = .returned (.tuple #[]) ∧ WS w' B W (fs ++ [⟨numB (zig z), true⟩]) ∧ Stq (Wown W) w w' := by
  have CI := hide (cintw_any z w z0 z1)
  have WF := hide (cnumB_wfs (zig z) (zig_lt z z0 z1))
  have H := hide h
  have HB := hide hB
  clear h hB
  go_enter Try.func103, Try.ntmps103
  go_wp2_with fail
  refine CI.out.mono ?_
  rintro e w1 ⟨y, rfl, hown, hb⟩
  have CP := hide (wput_row H.out HB.out hb (by have := (numB_length (zig z)).2; omega) WF.out hown)
  clear hown hb
  go_wp2_with fail
  refine CP.out.mono ?_
  rintro e w2 ⟨rfl, hw2, hs2⟩
  go_wp2_with fail
  refine bodyPost_end (results_none rfl _ _ _) rfl ?_
  exact ⟨rfl, hw2, hs2⟩

theorem sq_one (w : World) (z : Int) (hz : 0 ≤ z ∧ z ≤ 255) : Sq (w.alloc (.cells #[.int .u8 z] 5)) (some ⟨w.heap.size, 0, none⟩) 1 1 [z] := by
  refine ⟨rfl, Nat.le_refl _, fun h => absurd h (by simp), fun _ => ⟨w.heap.size, 0, rfl, fun j hj => ?_⟩, wfs_cons (WalkArith.wf_u8 hz) wfs_nil⟩
  obtain rfl : j = 0 := by omega
  simp
theorem wflag_any {w : World} {B W M o : Nat} {fs : List Fld} (b : Bool) (h : WS w B W fs) (hB : B ≤ w.heap.size) (hc : w.cell? ⟨M, o, none⟩ = some (.bool b)) :
    Calls Try.prog 104 #[.pointer (some ⟨W, 0, none⟩), .pointer (some ⟨M, o, none⟩)] w fun e w' => e = .returned (.tuple #[]) ∧ WS w' B W (fs ++ [⟨[if b then 1 else 0], true⟩]) ∧ Stq (Wown W) w w' := by
  have hl := h.lt
  have go : ∀ z : Int, 0 ≤ z ∧ z ≤ 255 → Calls Try.prog 109 #[.pointer (some ⟨W, 0, none⟩), .slice (some ⟨w.heap.size, 0, none⟩) 1 1] (w.alloc (.cells #[.int .u8 z] 5)) fun e w' => e = .returned (.tuple #[]) ∧ WS w' B W (fs ++ [⟨[z], true⟩]) ∧ Stq (Wown W) w w' := by
    intro z hz
    have hb := below_alloc1 w (.cells #[.int .u8 z] 5)
    exact (wput_any (h.below hb) (Nat.le_trans hB hb.size) (sq_one w z hz) (by omega) (fun b off e _ => by cases e; omega)).mono fun e w' ⟨h1, h2, h3⟩ => ⟨h1, h2, (stq_below hb hl).trans h3⟩
  cases b
  · have CP := hide (go 0 (by omega))
    clear go h hB hl
    go_enter Try.func104, Try.ntmps104
    go_wp2_with fail
    refine CP.out.mono ?_
    rintro e w2 ⟨rfl, hw2, hs2⟩
    go_wp2_with fail
    refine bodyPost_end (results_none rfl _ _ _) rfl ?_
    exact ⟨rfl, hw2, hs2⟩
  · have CP := hide (go 1 (by omega))
    clear go h hB hl
    go_enter Try.func104, Try.ntmps104
    go_wp2_with fail
    refine CP.out.mono ?_
    rintro e w2 ⟨rfl, hw2, hs2⟩
    go_wp2_with fail
    refine bodyPost_end (results_none rfl _ _ _) rfl ?_
    exact ⟨rfl, hw2, hs2⟩

theorem wbytes_any {w : World} {B W M o : Nat} {fs : List Fld} {a : Option Addr} {n cp : Nat} {bs : List Int} (h : WS w B W fs) (hB : B ≤ w.heap.size) (hM : ¬ Wown W w M)
    (hc : w.cell? ⟨M, o, none⟩ = some (.slice a n cp)) (q : Sq w a n cp bs) (hn : n ≤ 140737488351232) (hP : ∀ b off, a = some ⟨b, off, none⟩ → 0 < n → ¬ Wown W w b ∧ b < w.heap.size) :
    Calls Try.prog 101 #[.pointer (some ⟨W, 0, none⟩), .pointer (some ⟨M, o, none⟩)] w fun e w' => e = .returned (.tuple #[]) ∧ WS w' B W (fs ++ [⟨numB bs.length ++ bs, decide (bs.length ≤ 65535)⟩]) ∧ Stq (Wown W) w w' := by
  have HL := hide q.length
  have H := hide h
  have HB := hide hB
  have Q := hide q
  have HP := hide hP
  have HC := hide hc
  have HM := hide hM
  clear h hB q hP hM
  by_cases hy : okAll fs = true ∧ n ≤ 65535
  · have CF := hide (wfits_yes H.out hy.1 (n : Int) 65535 (by omega))
    have hn5 := hy.2
    clear hy
    go_enter Try.func101, Try.ntmps101
    go_wp2_with fail
    refine CF.out.mono ?_
    rintro e w1 ⟨rfl, hw1, hs1⟩
    have c1 := hs1.cell HC.out HM.out
    have q1 : Sq w1 a n cp bs := sq_same Q.out (fun b off e h0 => hs1.block b (HP.out b off e h0).2 (HP.out b off e h0).1)
    have CT := hide (ctextw_sq q1 (by omega))
    have W1 := hide hw1
    have S1 := hide hs1
    have WF : Hid (wfs (numB bs.length ++ bs)) := wfs_append (cnumB_wfs _ (by rw [HL.out]; omega)) Q.out.wf
    clear hw1 hs1 q1 CF hc
    go_wp2_with fail
    refine CT.out.mono ?_
    rintro e w2 ⟨y, rfl, hown, hb⟩
    have CP := hide (wput_row W1.out (Nat.le_trans HB.out S1.out.size) hb (by rw [List.length_append, HL.out]; have := (numB_length n).2; omega) WF.out hown)
    clear hown hb CT
    go_wp2_with fail
    refine CP.out.mono ?_
    rintro e w3 ⟨rfl, hw3, hs3⟩
    have W3 := hide hw3
    have S3 := hide hs3
    clear hw3 hs3 CP
    go_wp2_with fail
    refine bodyPost_end (results_none rfl _ _ _) rfl ?_
    rw [decide_eq_true (show bs.length ≤ 65535 by rw [HL.out]; exact hn5)]
    exact ⟨rfl, W3.out, S1.out.trans S3.out⟩
  · have CF := hide (wfits_no H.out (n : Int) 65535 (by
      cases e : okAll fs with
      | false => exact .inl rfl
      | true => exact .inr (by have h2 : ¬ n ≤ 65535 := fun h => hy ⟨e, h⟩; omega)))
    have BAD : Hid (okAll (fs ++ [⟨numB bs.length ++ bs, decide (bs.length ≤ 65535)⟩]) = false) := by
      show _ = _
      rw [okAll_snoc]
      cases e : okAll fs with
      | false => rfl
      | true =>
        have : ¬ bs.length ≤ 65535 := by rw [HL.out]; exact fun h => hy ⟨e, h⟩
        rw [decide_eq_false this]
        rfl
    clear hy
    go_enter Try.func101, Try.ntmps101
    go_wp2_with fail
    refine CF.out.mono ?_
    rintro e w1 ⟨rfl, hw1, hs1⟩
    have W1 := hide (hw1 _ BAD.out)
    have S1 := hide hs1
    clear hw1 hs1
    go_wp2_with fail
    refine bodyPost_end (results_none rfl _ _ _) rfl ?_
    exact ⟨rfl, W1.out, S1.out⟩

theorem wcount_yes {w : World} {B W n : Nat} {fs : List Fld} (h : WS w B W fs) (hB : B ≤ w.heap.size) (ho : okAll fs = true) (hn : n ≤ 1024) :
    Calls Try.prog 102 #[.pointer (some ⟨W, 0, none⟩), .int .i64 n] w fun e w' => e = .returned (.int .i64 n) ∧ WS w' B W (fs ++ [fldN n]) ∧ Stq (Wown W) w w' := by
  have CF := hide (wfits_yes h ho (n : Int) 1024 (by omega))
  have HB := hide hB
  have HN : Hid (fldN n = ⟨numB n, true⟩) := by show _ = _; unfold fldN; rw [decide_eq_true hn]
  clear h hB ho
  go_enter Try.func102, Try.ntmps102
  go_wp2_with fail
  refine CF.out.mono ?_
  rintro e w1 ⟨rfl, hw1, hs1⟩
  have CN := hide (cnumw_any n w1 (by omega))
  have W1 := hide hw1
  have S1 := hide hs1
  have WF := hide (cnumB_wfs n (by omega))
  clear hw1 hs1 CF
  go_wp2_with fail
  refine CN.out.mono ?_
  rintro e w2 ⟨y, rfl, hown, hb⟩
  have CP := hide (wput_row W1.out (Nat.le_trans HB.out S1.out.size) hb (by have := (numB_length n).2; omega) WF.out hown)
  clear hown hb CN
  go_wp2_with fail
  refine CP.out.mono ?_
  rintro e w3 ⟨rfl, hw3, hs3⟩
  have W3 := hide hw3
  have S3 := hide hs3
  clear hw3 hs3 CP
  go_wp2_with fail
  go_ret
  rw [HN.out]
  exact ⟨rfl, W3.out, S1.out.trans S3.out⟩
theorem wcount_no {w : World} {B W n : Nat} {fs : List Fld} (h : WS w B W fs) (hn : okAll fs = false ∨ 1024 < n) :
    Calls Try.prog 102 #[.pointer (some ⟨W, 0, none⟩), .int .i64 n] w fun e w' => e = .returned (.int .i64 0) ∧ WSbad w' B W ∧ Stq (Wown W) w w' := by
  have CF := hide (wfits_no h (n : Int) 1024 (by rcases hn with hn | hn; exact .inl hn; exact .inr (by omega)))
  clear h hn
  go_enter Try.func102, Try.ntmps102
  go_wp2_with fail
  refine CF.out.mono ?_
  rintro e w1 ⟨rfl, hw1, hs1⟩
  have W1 := hide hw1
  have S1 := hide hs1
  clear hw1 hs1
  go_wp2_with fail
  go_ret
  exact ⟨rfl, W1.out, S1.out⟩

theorem wend_any {w : World} {B W : Nat} {fs : List Fld} (h : WS w B W fs) :
    Calls Try.prog 36 #[.pointer (some ⟨W, 0, none⟩)] w fun e w' => ∃ a cp, e = .returned (.tuple #[.slice a (wBytes fs).length cp, .int .i64 (wErr fs)]) ∧ Mine w' B a (wBytes fs).length cp (wBytes fs) ∧ w' = w := by
  obtain ⟨v, xs, long, h⟩ := h
  cases ho : okAll fs with
  | true =>
    obtain ⟨rfl, ex⟩ := h.some_ok ho
    have c1 := h.c1
    have hrow := h.row
    rw [ex] at hrow
    obtain ⟨a, cp, rfl, q⟩ := mine_of_row rfl (by rw [← ex]; exact h.wf) hrow
    have c0 := h.c0
    have Q := hide q
    rw [wBytes_ok ho, wErr_ok ho]
    clear h hrow q ho ex
    go_enter Try.func36, Try.ntmps36
    go_wp2_with fail
    go_ret2
    exact ⟨a, cp, rfl, Q.out, rfl⟩
  | false =>
    obtain rfl := h.some_no ho
    have c1 := h.c1
    rw [wBytes_no ho, wErr_no ho]
    clear h ho
    go_enter Try.func36, Try.ntmps36
    go_wp2_with fail
    go_ret2
    exact ⟨none, 0, rfl, ⟨⟨rfl, Nat.le_refl _, fun _ => rfl, fun h => absurd h (by simp), wfs_nil⟩, fun ad h => absurd h (by simp)⟩, rfl⟩
end Go.Proofs.Ytfdejkfbjmkngab
