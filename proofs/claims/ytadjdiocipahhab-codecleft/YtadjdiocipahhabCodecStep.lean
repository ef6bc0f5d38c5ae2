/- What the law folder's step does with two readers, the landed one and the document's: it tells whether they answer alike. No condition. -/
import Derived.Test.YtadjdiocipahhabCodecText
import Derived.Test.YtadjdiocipahhabCodecRefRt
import Derived.Test.YtadjdiocipahhabPlainGen
namespace Go.Proofs.Ytadjdiocipahhab
open Go.ChangeShapes Go.WideShapes Go.ChangeAt Go.RowKit B8 Cm
set_option linter.unusedVariables false

/-- what a reader answers to an ask, as numbers -/
def ansV (bs : List Int) (k most : Int) (s : St) : List Int :=
  if k = 1 then [(intA bs s).v] else if k = 2 then [(byteA bs s).v] else if k = 3 then [if (flagA bs s).v then 1 else 0] else if k = 4 then (textA bs most s).v else if k = 5 then [((countA bs most s).v : Int)] else [((numA bs s).v : Int)]
/-- how it stands then -/
def ansS (bs : List Int) (k most : Int) (s : St) : St :=
  if k = 1 then (intA bs s).s else if k = 2 then (byteA bs s).s else if k = 3 then (flagA bs s).s else if k = 4 then (textA bs most s).s else if k = 5 then (countA bs most s).s else (numA bs s).s

/-- two readers, apart, in a world in which nothing that lay in w0 has turned -/
structure Two (w0 w : World) (R : Nat) (a : Option Addr) (n cp : Nat) (bs : List Int) (s : St) (R' : Nat) (a' : Option Addr) (n' cp' : Nat) (bs' : List Int) (s' : St) : Prop where
  one : Rd w R a n cp bs s.pl s.err
  two : Rd w R' a' n' cp' bs' s'.pl s'.err
  bel : Below w0.heap.size w0 w
  old : w0.heap.size ≤ R ∧ w0.heap.size ≤ R'
  ne : R ≠ R'
  a1 : ∀ b off, a = some ⟨b, off, none⟩ → b ≠ R' ∧ b < w.heap.size
  a2 : ∀ b off, a' = some ⟨b, off, none⟩ → b ≠ R ∧ b < w.heap.size

section
variable {w0 w w' : World} {R : Nat} {a : Option Addr} {n cp : Nat} {bs : List Int} {s : St} {R' : Nat} {a' : Option Addr} {n' cp' : Nat} {bs' : List Int} {s' : St}
theorem Two.first {t : St} (h : Two w0 w R a n cp bs s R' a' n' cp' bs' s') (hr : Rd w' R a n cp bs t.pl t.err) (hg : w.grownBy w' (some R)) : Two w0 w' R a n cp bs t R' a' n' cp' bs' s' :=
  ⟨hr, h.two.grown hg (by simpa using h.ne.symm) (fun b off e => by simpa using (h.a2 b off e).1), h.bel.grown hg h.bel.size (fun k hk => by cases hk; exact h.old.1), h.old, h.ne,
    fun b off e => ⟨(h.a1 b off e).1, Nat.lt_of_lt_of_le (h.a1 b off e).2 hg.size⟩, fun b off e => ⟨(h.a2 b off e).1, Nat.lt_of_lt_of_le (h.a2 b off e).2 hg.size⟩⟩
theorem Two.second {t : St} (h : Two w0 w R a n cp bs s R' a' n' cp' bs' s') (hr : Rd w' R' a' n' cp' bs' t.pl t.err) (hg : w.grownBy w' (some R')) : Two w0 w' R a n cp bs s R' a' n' cp' bs' t :=
  ⟨h.one.grown hg (by simpa using h.ne) (fun b off e => by simpa using (h.a1 b off e).1), hr, h.bel.grown hg h.bel.size (fun k hk => by cases hk; exact h.old.2), h.old, h.ne,
    fun b off e => ⟨(h.a1 b off e).1, Nat.lt_of_lt_of_le (h.a1 b off e).2 hg.size⟩, fun b off e => ⟨(h.a2 b off e).1, Nat.lt_of_lt_of_le (h.a2 b off e).2 hg.size⟩⟩
/-- where neither reader, nor what it reads, nor what lay in w0 is written -/
theorem Two.other {row : Option Nat} (h : Two w0 w R a n cp bs s R' a' n' cp' bs' s') (hg : w.grownBy w' row) (h1 : ∀ g, row = some g → w0.heap.size ≤ g ∧ g ≠ R ∧ g ≠ R' ∧ (∀ b off, a = some ⟨b, off, none⟩ → b ≠ g) ∧ (∀ b off, a' = some ⟨b, off, none⟩ → b ≠ g)) : Two w0 w' R a n cp bs s R' a' n' cp' bs' s' :=
  ⟨h.one.grown hg (fun e => (h1 R e.symm).2.1 rfl) (fun b off e e' => (h1 b e'.symm).2.2.2.1 b off e rfl), h.two.grown hg (fun e => (h1 R' e.symm).2.2.1 rfl) (fun b off e e' => (h1 b e'.symm).2.2.2.2 b off e rfl),
    h.bel.grown hg h.bel.size (fun k hk => (h1 k hk).1), h.old, h.ne, fun b off e => ⟨(h.a1 b off e).1, Nat.lt_of_lt_of_le (h.a1 b off e).2 hg.size⟩, fun b off e => ⟨(h.a2 b off e).1, Nat.lt_of_lt_of_le (h.a2 b off e).2 hg.size⟩⟩
theorem Two.below (h : Two w0 w R a n cp bs s R' a' n' cp' bs' s') (hb : Below w.heap.size w w') : Two w0 w' R a n cp bs s R' a' n' cp' bs' s' := h.other (grown_below hb none) (fun g e => by cases e)
theorem Two.drewN (h : Two w0 w R a n cp bs s R' a' n' cp' bs' s') (k : Nat) : Two w0 (w.drewN k) R a n cp bs s R' a' n' cp' bs' s' := h.other (grown_drewN w k none) (fun g e => by cases e)
theorem Two.alloc (h : Two w0 w R a n cp bs s R' a' n' cp' bs' s') (o : Obj) : Two w0 (w.alloc o) R a n cp bs s R' a' n' cp' bs' s' := h.below (Below.alloc (Below.refl _ _) (Nat.le_refl _) o)
end

/-- what step promises -/
def Stepped (w0 : World) (R : Nat) (a : Option Addr) (n cp : Nat) (bs : List Int) (s : St) (R' : Nat) (a' : Option Addr) (n' cp' : Nat) (bs' : List Int) (s' : St) (k most : Int) (e : Ending) (w' : World) : Prop :=
  ∃ r, e = .returned (.bool r) ∧ (ansV bs k most s = ansV bs' k most s' → r = true) ∧ Two w0 w' R a n cp bs (ansS bs k most s) R' a' n' cp' bs' (ansS bs' k most s')

theorem step_int {w0 w : World} {R : Nat} {a : Option Addr} {n cp : Nat} {bs : List Int} {s : St} {R' : Nat} {a' : Option Addr} {n' cp' : Nat} {bs' : List Int} {s' : St} (most : Int) (h : Two w0 w R a n cp bs s R' a' n' cp' bs' s') :
    Calls Try.prog 9 #[.pointer (some ⟨R, 0, none⟩), .pointer (some ⟨R', 0, none⟩), .agg #[.int .i64 1, .int .i64 most]] w (Stepped w0 R a n cp bs s R' a' n' cp' bs' s' 1 most) := by
  have HV : Hid (∀ (c : List Int) (t : St), ansV c 1 most t = [(intA c t).v] ∧ ansS c 1 most t = (intA c t).s) := fun c t => ⟨rfl, rfl⟩
  have H := hide (h.alloc (.cells #[.int .i64 1, .int .i64 most] 37))
  clear h
  have C1 := hide (cint_any H.out.one)
  obtain ⟨A1, E1⟩ : ∃ A1, A1 = intA bs s := ⟨_, rfl⟩
  obtain ⟨A2, E2⟩ : ∃ A2, A2 = intA bs' s' := ⟨_, rfl⟩
  rw [← E1] at C1
  go_enter Try.func9, Try.ntmps9
  go_wp2_with fail
  refine C1.out.mono ?_
  rintro e w1 ⟨rfl, r1, g1⟩
  have H1 := hide (H.out.first r1 g1)
  have C2 := hide (int_any H1.out.two)
  rw [← E2] at C2
  clear r1 g1 C1
  go_wp2_with fail
  refine C2.out.mono ?_
  rintro e w2 ⟨rfl, r2, g2⟩
  have H2 := hide (H1.out.second r2 g2)
  clear r2 g2 C2 H1
  go_wp2_with fail
  go_ret
  refine ⟨_, rfl, ?_, ?_⟩
  · intro hv
    rw [(HV.out bs s).1, (HV.out bs' s').1] at hv
    simpa using hv
  · rw [(HV.out bs s).2, (HV.out bs' s').2, ← E1, ← E2]
    exact H2.out

theorem step_byte {w0 w : World} {R : Nat} {a : Option Addr} {n cp : Nat} {bs : List Int} {s : St} {R' : Nat} {a' : Option Addr} {n' cp' : Nat} {bs' : List Int} {s' : St} (most : Int) (h : Two w0 w R a n cp bs s R' a' n' cp' bs' s') :
    Calls Try.prog 9 #[.pointer (some ⟨R, 0, none⟩), .pointer (some ⟨R', 0, none⟩), .agg #[.int .i64 2, .int .i64 most]] w (Stepped w0 R a n cp bs s R' a' n' cp' bs' s' 2 most) := by
  have HV : Hid (∀ (c : List Int) (t : St), ansV c 2 most t = [(byteA c t).v] ∧ ansS c 2 most t = (byteA c t).s) := fun c t => ⟨rfl, rfl⟩
  have H := hide (h.alloc (.cells #[.int .i64 2, .int .i64 most] 37))
  clear h
  have C1 := hide (cbyte_any H.out.one)
  obtain ⟨A1, E1⟩ : ∃ A1, A1 = byteA bs s := ⟨_, rfl⟩
  obtain ⟨A2, E2⟩ : ∃ A2, A2 = byteA bs' s' := ⟨_, rfl⟩
  rw [← E1] at C1
  go_enter Try.func9, Try.ntmps9
  go_wp2_with fail
  refine C1.out.mono ?_
  rintro e w1 ⟨rfl, r1, g1⟩
  have H1 := hide (H.out.first r1 g1)
  have C2 := hide (byte_any H1.out.two)
  rw [← E2] at C2
  clear r1 g1 C1
  go_wp2_with fail
  refine C2.out.mono ?_
  rintro e w2 ⟨rfl, r2, g2⟩
  have H2 := hide (H1.out.second r2 g2)
  clear r2 g2 C2 H1
  go_wp2_with fail
  go_ret
  refine ⟨_, rfl, ?_, ?_⟩
  · intro hv
    rw [(HV.out bs s).1, (HV.out bs' s').1] at hv
    simpa using hv
  · rw [(HV.out bs s).2, (HV.out bs' s').2, ← E1, ← E2]
    exact H2.out

theorem step_flag {w0 w : World} {R : Nat} {a : Option Addr} {n cp : Nat} {bs : List Int} {s : St} {R' : Nat} {a' : Option Addr} {n' cp' : Nat} {bs' : List Int} {s' : St} (most : Int) (h : Two w0 w R a n cp bs s R' a' n' cp' bs' s') :
    Calls Try.prog 9 #[.pointer (some ⟨R, 0, none⟩), .pointer (some ⟨R', 0, none⟩), .agg #[.int .i64 3, .int .i64 most]] w (Stepped w0 R a n cp bs s R' a' n' cp' bs' s' 3 most) := by
  have HV : Hid (∀ (c : List Int) (t : St), ansV c 3 most t = [if (flagA c t).v then 1 else 0] ∧ ansS c 3 most t = (flagA c t).s) := fun c t => ⟨rfl, rfl⟩
  have H := hide (h.alloc (.cells #[.int .i64 3, .int .i64 most] 37))
  clear h
  have C1 := hide (cflag_any H.out.one)
  obtain ⟨A1, E1⟩ : ∃ A1, A1 = flagA bs s := ⟨_, rfl⟩
  obtain ⟨A2, E2⟩ : ∃ A2, A2 = flagA bs' s' := ⟨_, rfl⟩
  rw [← E1] at C1
  go_enter Try.func9, Try.ntmps9
  go_wp2_with fail
  refine C1.out.mono ?_
  rintro e w1 ⟨rfl, r1, g1⟩
  have H1 := hide (H.out.first r1 g1)
  have C2 := hide (flag_any H1.out.two)
  rw [← E2] at C2
  clear r1 g1 C1
  go_wp2_with fail
  refine C2.out.mono ?_
  rintro e w2 ⟨rfl, r2, g2⟩
  have H2 := hide (H1.out.second r2 g2)
  clear r2 g2 C2 H1
  go_wp2_with fail
  go_ret
  refine ⟨_, rfl, ?_, ?_⟩
  · intro hv
    rw [(HV.out bs s).1, (HV.out bs' s').1] at hv
    generalize (flagA bs s).v = x at hv ⊢; generalize (flagA bs' s').v = y at hv ⊢; cases x <;> cases y <;> simp_all
  · rw [(HV.out bs s).2, (HV.out bs' s').2, ← E1, ← E2]
    exact H2.out

theorem step_num {w0 w : World} {R : Nat} {a : Option Addr} {n cp : Nat} {bs : List Int} {s : St} {R' : Nat} {a' : Option Addr} {n' cp' : Nat} {bs' : List Int} {s' : St} (k : Int) (most : Int) (hk : k ≠ 1 ∧ k ≠ 2 ∧ k ≠ 3 ∧ k ≠ 4 ∧ k ≠ 5) (h : Two w0 w R a n cp bs s R' a' n' cp' bs' s') :
    Calls Try.prog 9 #[.pointer (some ⟨R, 0, none⟩), .pointer (some ⟨R', 0, none⟩), .agg #[.int .i64 k, .int .i64 most]] w (Stepped w0 R a n cp bs s R' a' n' cp' bs' s' k most) := by
  have e1 : (k == 1) = false := by simpa using hk.1
  have e2 : (k == 2) = false := by simpa using hk.2.1
  have e3 : (k == 3) = false := by simpa using hk.2.2.1
  have e4 : (k == 4) = false := by simpa using hk.2.2.2.1
  have e5 : (k == 5) = false := by simpa using hk.2.2.2.2
  have HV : Hid (∀ (c : List Int) (t : St), ansV c k most t = [((numA c t).v : Int)] ∧ ansS c k most t = (numA c t).s) := fun c t => by unfold ansV ansS; rw [if_neg hk.1, if_neg hk.2.1, if_neg hk.2.2.1, if_neg hk.2.2.2.1, if_neg hk.2.2.2.2, if_neg hk.1, if_neg hk.2.1, if_neg hk.2.2.1, if_neg hk.2.2.2.1, if_neg hk.2.2.2.2]; exact ⟨rfl, rfl⟩
  clear hk
  have H := hide (h.alloc (.cells #[.int .i64 k, .int .i64 most] 37))
  clear h
  have C1 := hide (cnum_any H.out.one)
  obtain ⟨A1, E1⟩ : ∃ A1, A1 = numA bs s := ⟨_, rfl⟩
  obtain ⟨A2, E2⟩ : ∃ A2, A2 = numA bs' s' := ⟨_, rfl⟩
  rw [← E1] at C1
  go_enter Try.func9, Try.ntmps9
  go_wp2_with fail
  refine C1.out.mono ?_
  rintro e w1 ⟨rfl, r1, g1⟩
  have H1 := hide (H.out.first r1 g1)
  have C2 := hide (num_any H1.out.two)
  rw [← E2] at C2
  clear r1 g1 C1
  go_wp2_with fail
  refine C2.out.mono ?_
  rintro e w2 ⟨rfl, r2, g2⟩
  have H2 := hide (H1.out.second r2 g2)
  clear r2 g2 C2 H1
  go_wp2_with fail
  go_ret
  refine ⟨_, rfl, ?_, ?_⟩
  · intro hv
    rw [(HV.out bs s).1, (HV.out bs' s').1] at hv
    simpa using hv
  · rw [(HV.out bs s).2, (HV.out bs' s').2, ← E1, ← E2]
    exact H2.out

end Go.Proofs.Ytadjdiocipahhab
