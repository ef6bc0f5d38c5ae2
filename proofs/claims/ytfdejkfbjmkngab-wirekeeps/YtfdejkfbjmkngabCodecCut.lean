/- What the landed cut, New, Left, Fault, End and next do. No condition but the size of what an argument may be. -/
import Derived.Test.YtfdejkfbjmkngabCodecRd
import Derived.BigQuiet
namespace Go.Proofs.Ytfdejkfbjmkngab
open Go.ChangeShapes Go.WideShapes Go.ChangeAt Go.RowKit B8 Cm
set_option linter.unusedVariables false

/-- a list of numbers in a block of the call's own (or nil): it may be written, and it lies from B on -/
def Mine (w : World) (B : Nat) (a : Option Addr) (n cp : Nat) (bs : List Int) : Prop :=
  Sq w a n cp bs ∧ ∀ ad, a = some ad → ∃ g cur, ad = ⟨g, 0, none⟩ ∧ B ≤ g ∧ w.heap[g]? = some (.cells cur 5 (0, 0)) ∧ n ≤ cur.size

theorem Mine.sq {w : World} {B : Nat} {a : Option Addr} {n cp : Nat} {bs : List Int} (h : Mine w B a n cp bs) : Sq w a n cp bs := h.1
theorem mine_of_row {w : World} {B len : Nat} {zs : List Int} {v : Value} (hl : zs.length = len) (hi : wfs zs)
    (h : w.ownsRow B 5 1 v len (vals zs)) : ∃ a cp, v = .slice a len cp ∧ Mine w B a len cp zs := by
  obtain ⟨a, cp, rfl, q⟩ := sq_of_row hl hi h
  refine ⟨a, cp, rfl, q, ?_⟩
  intro ad e
  subst e
  obtain ⟨_, ⟨h1, h2⟩ | ⟨g, cp', cur, h2, h3, h4, h5, h6, h7, h8⟩⟩ := h
  · cases h1
  · simp only [Value.slice.injEq, Option.some.injEq] at h2
    obtain ⟨rfl, _, rfl⟩ := h2
    refine ⟨g, cur, rfl, h3, h4, ?_⟩
    have := hl
    have h9 : (cur.toList.take (len * 1)).length = (vals zs).length := by rw [h8]
    simp [vals] at h9
    omega
theorem Mine.below {w w' : World} {B : Nat} {a : Option Addr} {n cp : Nat} {bs : List Int} (h : Mine w B a n cp bs) (hb : Below w.heap.size w w') : Mine w' B a n cp bs := by
  refine ⟨h.1.below hb, fun ad e => ?_⟩
  obtain ⟨g, cur, e1, e2, e3, e4⟩ := h.2 ad e
  refine ⟨g, cur, e1, e2, ?_, e4⟩
  rw [hb.block g (by rcases Nat.lt_or_ge g w.heap.size with h | h; exact h; rw [Array.getElem?_eq_none h] at e3; cases e3)]
  exact e3
theorem Mine.base {w : World} {B B' : Nat} {a : Option Addr} {n cp : Nat} {bs : List Int} (h : Mine w B a n cp bs) (hB : B' ≤ B) : Mine w B' a n cp bs := by
  refine ⟨h.1, fun ad e => ?_⟩
  obtain ⟨g, cur, e1, e2, e3, e4⟩ := h.2 ad e
  exact ⟨g, cur, e1, Nat.le_trans hB e2, e3, e4⟩

theorem cut_sq {w : World} {a : Option Addr} {n cp : Nat} {bs : List Int} (h : Sq w a n cp bs) (hr : n ≤ 140737488355328) :
    Calls Try.prog 59 #[.slice a n cp] w fun e w' => ∃ a', e = .returned (.slice a' n n) ∧ Mine w' w.heap.size a' n n bs ∧ Below w.heap.size w w' := by
  have H := hide h
  clear h
  go_enter Try.func59, Try.ntmps59
  go_wp2_with (at_builtin; refine wp_append_sq _ rfl (.const (.slice none 0 0)) (.tmp 4) rfl w.heap.size (.slice none 0 0) 0 [] rfl (World.ownsRow_nil _ _ _ _) a n cp bs rfl H.out (by omega) (Nat.le_refl _) ?_; intro v' w1 hown hgrow; simp only [List.nil_append, Nat.zero_add] at hown; obtain ⟨a1, cp1, rfl, M⟩ := mine_of_row H.out.length H.out.wf hown; have hlc := M.sq.lecap; have HM := hide M; clear M)
  go_ret
  refine ⟨a1, rfl, ⟨⟨HM.out.sq.length, Nat.le_refl _, fun h => (HM.out.sq.noAddr h).1, HM.out.sq.cells, HM.out.sq.wf⟩, HM.out.2⟩, (Below.refl _ _).grown hgrow (Nat.le_refl _) (fun k hk => by cases hk)⟩

/-- a reader that the call made, at the beginning of its own copy -/
def Made (w w' : World) (R n : Nat) (bs : List Int) : Prop := ∃ a cp, Rd w' R a n cp bs 0 0 ∧ ∀ b off, a = some ⟨b, off, none⟩ → w.heap.size ≤ b ∧ b < w'.heap.size
theorem cnew_any {w : World} {a : Option Addr} {n cp : Nat} {bs : List Int} (h : Sq w a n cp bs) (hr : n ≤ 140737488355328) :
    Calls Try.prog 32 #[.slice a n cp] w fun e w' => ∃ R, e = .returned (.pointer (some ⟨R, 0, none⟩)) ∧ Made w w' R n bs ∧ Below w.heap.size w w' ∧ w.heap.size ≤ R := by
  have C := hide (cut_sq h hr)
  clear h
  go_enter Try.func32, Try.ntmps32
  go_wp2_with fail
  refine C.out.mono ?_
  rintro e w1 ⟨a', rfl, hm, hb⟩
  have HM := hide hm
  have HB := hide hb
  clear hm hb
  go_wp2_with fail
  go_ret
  have b2 : Below w1.heap.size w1 (w1.alloc (.cells #[.slice a' n n, .int .i64 0, .int .i64 0] 169)) := Below.alloc (Below.refl _ _) (Nat.le_refl _) _
  refine ⟨w1.heap.size, rfl, ⟨a', n, ⟨by simp, by simp, by simp, by simp, by simp, HM.out.sq.below b2, ?_, Nat.zero_le _, hr⟩, ?_⟩, below_step HB.out b2, HB.out.size⟩
  · intro b off e
    obtain ⟨g, cur, e1, e2, e3, e4⟩ := HM.out.2 _ e
    obtain ⟨rfl, rfl⟩ : b = g ∧ off = 0 := by simpa using e1
    have : b < w1.heap.size := by rcases Nat.lt_or_ge b w1.heap.size with h | h; exact h; rw [Array.getElem?_eq_none h] at e3; cases e3
    omega
  · intro b off e
    obtain ⟨g, cur, e1, e2, e3, e4⟩ := HM.out.2 _ e
    obtain ⟨rfl, rfl⟩ : b = g ∧ off = 0 := by simpa using e1
    have : b < w1.heap.size := by rcases Nat.lt_or_ge b w1.heap.size with h | h; exact h; rw [Array.getElem?_eq_none h] at e3; cases e3
    exact ⟨e2, by simp; omega⟩

theorem cleft_any {w : World} {R : Nat} {a : Option Addr} {n cp : Nat} {bs : List Int} {pl : Nat} {err : Int} (h : Rd w R a n cp bs pl err) :
    Calls Try.prog 64 #[.pointer (some ⟨R, 0, none⟩)] w fun e w' => e = .returned (.int .i64 ((n - pl : Nat) : Int)) ∧ ∃ m, w' = w.drewN m := by
  have c0 := h.c0
  have c1 := h.c1
  have hpl := h.place
  have hro := h.room
  clear h
  go_enter Try.func64, Try.ntmps64
  go_wp2_with fail
  go_quiet (fail)
  go_wp2_with fail
  go_ret
  exact ⟨ret1 (by omega), _, rfl⟩

theorem cfault_any {w : World} {R : Nat} {a : Option Addr} {n cp : Nat} {bs : List Int} {s : St} (h : Rd w R a n cp bs s.pl s.err) :
    Calls Try.prog 63 #[.pointer (some ⟨R, 0, none⟩)] w fun e w' => e = .returned (.tuple #[.int .i64 (faultA s).1, .int .i64 (faultA s).2]) ∧ ∃ m, w' = w.drewN m := by
  have c1 := h.c1
  have c2 := h.c2
  clear h
  obtain ⟨pl, err⟩ := s
  by_cases h0 : err = 0
  · subst h0
    go_enter Try.func63, Try.ntmps63
    go_wp2_with fail
    go_ret2
    exact ⟨rfl, 0, rfl⟩
  · have HV : Hid (faultA ⟨pl, err⟩ = (err, (pl : Int))) := if_neg h0
    have hx : (err == 0) = false := by simpa using h0
    go_enter Try.func63, Try.ntmps63
    go_wp2_with fail
    go_quiet (fail)
    go_wp2_with fail
    go_ret2
    rw [HV.out]
    exact ⟨rfl, _, rfl⟩

theorem cend_any {w : World} {R : Nat} {a : Option Addr} {n cp : Nat} {bs : List Int} {s : St} (h : Rd w R a n cp bs s.pl s.err) :
    Calls Try.prog 60 #[.pointer (some ⟨R, 0, none⟩)] w fun e w' => e = .returned (.int .i64 (endA bs s)) ∧ ∃ m, w' = w.drewN m := by
  have CF := hide (cfault_any h)
  have HR := hide h
  have HL : Hid (bs.length = n) := h.sq.length
  have hpl := h.place
  have hro := h.room
  clear h
  obtain ⟨pl, err⟩ := s
  have hpl' : pl ≤ n := hpl
  clear hpl
  by_cases h0 : err = 0
  · subst h0
    by_cases h1 : pl < n
    · have HV : Hid (endA bs ⟨pl, 0⟩ = 24) := by show _ = _; unfold endA; rw [HL.out]; simp [h1]
      go_enter Try.func60, Try.ntmps60
      go_wp2_with fail
      refine CF.out.mono ?_
      rintro e w1 ⟨rfl, m, rfl⟩
      have HF : Hid (faultA ⟨pl, 0⟩ = (0, 0)) := rfl
      rw [HF.out]
      have i1 : decide ((0 : Int) < ((n - pl : Nat) : Int)) = true := by simp; omega
      have i2 : (0 : Int) < ((n - pl : Nat) : Int) := by omega
      go_wp2_with (go_at_call 64; refine (cleft_any (HR.out.drewN m)).mono ?_; rintro e w2 ⟨rfl, m2, rfl⟩)
      go_ret
      rw [HV.out]
      exact ⟨rfl, _, rfl⟩
    · have HV : Hid (endA bs ⟨pl, 0⟩ = 0) := by show _ = _; unfold endA; rw [HL.out]; simp [h1]
      obtain rfl : pl = n := by omega
      go_enter Try.func60, Try.ntmps60
      go_wp2_with fail
      refine CF.out.mono ?_
      rintro e w1 ⟨rfl, m, rfl⟩
      have HF : Hid (faultA ⟨pl, 0⟩ = (0, 0)) := rfl
      rw [HF.out]
      have c := cleft_any (HR.out.drewN m)
      rw [Nat.sub_self] at c
      have CL := hide c
      clear c
      go_wp2_with (go_at_call 64; refine CL.out.mono ?_; rintro e w2 ⟨rfl, m2, rfl⟩)
      go_ret
      rw [HV.out]
      exact ⟨rfl, _, rfl⟩
  · have HV : Hid (endA bs ⟨pl, err⟩ = err) := if_neg h0
    have HF : Hid (faultA ⟨pl, err⟩ = (err, (pl : Int))) := if_neg h0
    have hx : (err == 0) = false := by simpa using h0
    go_enter Try.func60, Try.ntmps60
    go_wp2_with fail
    refine CF.out.mono ?_
    rintro e w1 ⟨rfl, m, rfl⟩
    rw [HF.out]
    go_wp2_with fail
    go_ret
    rw [HV.out]
    exact ⟨rfl, _, rfl⟩

/-- what next answers, and where the reader stands then -/
def nextA (bs : List Int) (pl : Nat) : Int × Int × Nat := if pl < bs.length then (bs[pl]?.getD 0, 0, pl + 1) else (0, 20, pl)
theorem cnext_any {w : World} {R : Nat} {a : Option Addr} {n cp : Nat} {bs : List Int} {pl : Nat} {err : Int} (h : Rd w R a n cp bs pl err) :
    Calls Try.prog 99 #[.pointer (some ⟨R, 0, none⟩)] w fun e w' => e = .returned (.tuple #[.int .u8 (nextA bs pl).1, .int .i64 (nextA bs pl).2.1]) ∧ Rd w' R a n cp bs (nextA bs pl).2.2 err ∧ w.grownBy w' (some R) := by
  have CL := cleft_any h
  have HR := hide h
  have HL : Hid (bs.length = n) := h.sq.length
  have hpl := h.place
  have hro := h.room
  clear h
  by_cases h1 : pl < n
  · have HV : Hid (nextA bs pl = (bs[pl]?.getD 0, 0, pl + 1)) := if_pos (by rw [HL.out]; exact h1)
    have i1 : (((n - pl : Nat) : Int) == 0) = false := by simp; omega
    have CL := hide CL
    go_enter Try.func99, Try.ntmps99
    go_wp2_with fail
    refine CL.out.mono ?_
    rintro e w1 ⟨rfl, m, ew⟩
    have H' := hide (HR.out.drewN m)
    have G' := hide (grown_drewN w m (some R))
    rw [← ew] at H' G'
    clear ew
    have c0 := H'.out.c0
    have c1 := H'.out.c1
    have f1 := H'.out.f1
    obtain ⟨b, off, ea, hc⟩ := H'.out.sq.cells (by omega)
    have d := hc pl h1
    obtain ⟨c, ec⟩ : ∃ c, c = bs[pl]?.getD 0 := ⟨_, rfl⟩
    rw [← ec] at d
    rw [ea] at c0
    have EC := hide ec
    clear ec hc ea
    have i2 : (pl : Int) < (n : Int) := by omega
    go_wp2_with fail
    go_quiet (fail)
    go_wp2_with fail
    go_ret2
    rw [HV.out]
    have e1 : (pl : Int) + 1 = ((pl + 1 : Nat) : Int) := by omega
    refine ⟨ret2 EC.out rfl, ?_, ?_⟩
    · rw [e1]
      exact (H'.out.drewN _).moved (pl + 1) (by omega)
    · exact World.grownBy.trans G'.out (World.grownBy.trans (grown_drewN _ _ _) (grown_setCell _ _ _ _))
  · have HV : Hid (nextA bs pl = (0, 20, pl)) := if_neg (by rw [HL.out]; exact h1)
    obtain rfl : pl = n := by omega
    rw [Nat.sub_self] at CL
    have CL := hide CL
    go_enter Try.func99, Try.ntmps99
    go_wp2_with fail
    refine CL.out.mono ?_
    rintro e w1 ⟨rfl, m, rfl⟩
    go_wp2_with fail
    go_ret2
    rw [HV.out]
    exact ⟨rfl, HR.out.drewN m, grown_drewN w m _⟩
end Go.Proofs.Ytfdejkfbjmkngab
