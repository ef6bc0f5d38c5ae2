/- What the landed thing does with each of the reader's six readings, whatever these do. No condition. -/
import Derived.Test.YtfdejkfbjmkngabCodecNumber
namespace Go.Proofs.Ytfdejkfbjmkngab
open Go.ChangeShapes Go.WideShapes Go.ChangeAt Go.RowKit B8 Cm
set_option linter.unusedVariables false

/-- what thing answers -/
def thingV (err X : Int) (V Z : Value) : Value := if err = 0 then (if X = 0 then V else Z) else Z
/-- how the reader stands behind it -/
def thingS (err X : Int) (pl P : Nat) : St := if err = 0 then (if X = 0 then ⟨P, 0⟩ else ⟨pl, X⟩) else ⟨pl, err⟩
theorem thingV_ok (V Z : Value) : thingV 0 0 V Z = V := rfl
theorem thingV_bad {X : Int} (h : ¬ X = 0) (V Z : Value) : thingV 0 X V Z = Z := if_neg h
theorem thingV_fault {err : Int} (h : ¬ err = 0) (X : Int) (V Z : Value) : thingV err X V Z = Z := if_neg h
theorem thingS_ok (pl P : Nat) : thingS 0 0 pl P = ⟨P, 0⟩ := rfl
theorem thingS_bad {X : Int} (h : ¬ X = 0) (pl P : Nat) : thingS 0 X pl P = ⟨pl, X⟩ := if_neg h
theorem thingS_fault {err : Int} (h : ¬ err = 0) (X : Int) (pl P : Nat) : thingS err X pl P = ⟨pl, err⟩ := if_neg h

/-- what a reading promises: its answer and its fault X, the place P where it ends without one -/
def Read (R : Nat) (a : Option Addr) (n cp : Nat) (bs : List Int) (X : Int) (P : Nat) (Q : Value → World → Prop) (w : World) (e : Ending) (w' : World) : Prop :=
  ∃ V p', e = .returned (.tuple #[V, .int .i64 X]) ∧ Rd w' R a n cp bs p' 0 ∧ (X = 0 → p' = P) ∧ Q V w' ∧ w.grownBy w' (some R)


theorem thing_int {w : World} {R : Nat} {a : Option Addr} {n cp : Nat} {bs : List Int} {pl : Nat} {err X : Int} {P : Nat} {Q : Value → World → Prop} (caps : Array Value) (h : Rd w R a n cp bs pl err)
    (hc : err = 0 → Calls Try.prog 95 caps w (Read R a n cp bs X P Q w)) :
    Calls Try.prog 93 #[.pointer (some ⟨R, 0, none⟩), .func (.func 95) #[] caps] w fun e w' => ∃ V, e = .returned (thingV err X V (.int .i64 0)) ∧ (err = 0 → X = 0 → Q V w') ∧ Rd w' R a n cp bs (thingS err X pl P).pl (thingS err X pl P).err ∧ w.grownBy w' (some R) := by
  have c1 := h.c1
  have c2 := h.c2
  have H := hide h
  have HC := hide hc
  clear h hc
  by_cases h0 : err = 0
  · subst h0
    have C := hide (HC.out rfl)
    clear HC
    go_enter Try.func93, Try.ntmps93
    go_wp2_with fail
    refine C.out.mono ?_
    rintro e w1 ⟨V, p', rfl, hr, hp, hq, hg⟩
    have H1 := hide hr
    have P1 := hide hp
    have Q1 := hide hq
    have G1 := hide hg
    clear hr hp hq hg
    by_cases hX : X = 0
    · subst hX
      have E1 := hide (P1.out rfl)
      clear P1
      go_wp2_with fail
      go_ret
      rw [thingS_ok]
      refine ⟨V, rfl, by first | exact Q1.out | exact fun _ _ => Q1.out, ?_, G1.out⟩
      rw [← E1.out]
      exact H1.out
    · have hX1 : (X != 0) = true := by simpa using hX
      have HV := hide (fun V Z => thingV_bad hX V Z)
      have HS := hide (thingS_bad hX pl P)
      have HX := hide hX
      have f1 := H1.out.f1
      have f2 := H1.out.f2
      have d1 := H1.out.c1
      have d2 := H1.out.c2
      have HP := hide H.out.place
      clear H P1 c1 c2
      go_wp2_with fail
      go_ret
      rw [HS.out]
      refine ⟨V, by rw [HV.out]; rfl, fun _ h => absurd h HX.out, (H1.out.moved pl HP.out).failed X, World.grownBy.trans G1.out (World.grownBy.trans (grown_setCell _ _ _ _) (grown_setCell _ _ _ _))⟩
  · have hx : (err != 0) = true := by simpa using h0
    have hx' : (err == 0) = false := by simpa using h0
    have HV := hide (fun V Z => thingV_fault h0 X V Z)
    have HS := hide (thingS_fault h0 X pl P)
    have H0 := hide h0
    go_enter Try.func93, Try.ntmps93
    go_wp2_with fail
    go_ret
    rw [HS.out]
    exact ⟨.bool true, by rw [HV.out]; rfl, fun h => absurd h H0.out, H.out, World.grownBy.refl _ _⟩


theorem thing_flag {w : World} {R : Nat} {a : Option Addr} {n cp : Nat} {bs : List Int} {pl : Nat} {err X : Int} {P : Nat} {Q : Value → World → Prop} (caps : Array Value) (h : Rd w R a n cp bs pl err)
    (hc : err = 0 → Calls Try.prog 98 caps w (Read R a n cp bs X P Q w)) :
    Calls Try.prog 97 #[.pointer (some ⟨R, 0, none⟩), .func (.func 98) #[] caps] w fun e w' => ∃ V, e = .returned (thingV err X V (.bool false)) ∧ (err = 0 → X = 0 → Q V w') ∧ Rd w' R a n cp bs (thingS err X pl P).pl (thingS err X pl P).err ∧ w.grownBy w' (some R) := by
  have c1 := h.c1
  have c2 := h.c2
  have H := hide h
  have HC := hide hc
  clear h hc
  by_cases h0 : err = 0
  · subst h0
    have C := hide (HC.out rfl)
    clear HC
    go_enter Try.func97, Try.ntmps97
    go_wp2_with fail
    refine C.out.mono ?_
    rintro e w1 ⟨V, p', rfl, hr, hp, hq, hg⟩
    have H1 := hide hr
    have P1 := hide hp
    have Q1 := hide hq
    have G1 := hide hg
    clear hr hp hq hg
    by_cases hX : X = 0
    · subst hX
      have E1 := hide (P1.out rfl)
      clear P1
      go_wp2_with fail
      go_ret
      rw [thingS_ok]
      refine ⟨V, rfl, by first | exact Q1.out | exact fun _ _ => Q1.out, ?_, G1.out⟩
      rw [← E1.out]
      exact H1.out
    · have hX1 : (X != 0) = true := by simpa using hX
      have HV := hide (fun V Z => thingV_bad hX V Z)
      have HS := hide (thingS_bad hX pl P)
      have HX := hide hX
      have f1 := H1.out.f1
      have f2 := H1.out.f2
      have d1 := H1.out.c1
      have d2 := H1.out.c2
      have HP := hide H.out.place
      clear H P1 c1 c2
      go_wp2_with fail
      go_ret
      rw [HS.out]
      refine ⟨V, by rw [HV.out]; rfl, fun _ h => absurd h HX.out, (H1.out.moved pl HP.out).failed X, World.grownBy.trans G1.out (World.grownBy.trans (grown_setCell _ _ _ _) (grown_setCell _ _ _ _))⟩
  · have hx : (err != 0) = true := by simpa using h0
    have hx' : (err == 0) = false := by simpa using h0
    have HV := hide (fun V Z => thingV_fault h0 X V Z)
    have HS := hide (thingS_fault h0 X pl P)
    have H0 := hide h0
    go_enter Try.func97, Try.ntmps97
    go_wp2_with fail
    go_ret
    rw [HS.out]
    exact ⟨.bool true, by rw [HV.out]; rfl, fun h => absurd h H0.out, H.out, World.grownBy.refl _ _⟩

theorem thing_text {w : World} {R : Nat} {a : Option Addr} {n cp : Nat} {bs : List Int} {pl : Nat} {err X : Int} {P : Nat} {Q : Value → World → Prop} (caps : Array Value) (h : Rd w R a n cp bs pl err)
    (hc : err = 0 → Calls Try.prog 91 caps w (Read R a n cp bs X P Q w)) :
    Calls Try.prog 90 #[.pointer (some ⟨R, 0, none⟩), .func (.func 91) #[] caps] w fun e w' => ∃ V, e = .returned (thingV err X V (.slice none 0 0)) ∧ (err = 0 → X = 0 → Q V w') ∧ Rd w' R a n cp bs (thingS err X pl P).pl (thingS err X pl P).err ∧ w.grownBy w' (some R) := by
  have c1 := h.c1
  have c2 := h.c2
  have H := hide h
  have HC := hide hc
  clear h hc
  by_cases h0 : err = 0
  · subst h0
    have C := hide (HC.out rfl)
    clear HC
    go_enter Try.func90, Try.ntmps90
    go_wp2_with fail
    refine C.out.mono ?_
    rintro e w1 ⟨V, p', rfl, hr, hp, hq, hg⟩
    have H1 := hide hr
    have P1 := hide hp
    have Q1 := hide hq
    have G1 := hide hg
    clear hr hp hq hg
    by_cases hX : X = 0
    · subst hX
      have E1 := hide (P1.out rfl)
      clear P1
      go_wp2_with fail
      go_ret
      rw [thingS_ok]
      refine ⟨V, rfl, by first | exact Q1.out | exact fun _ _ => Q1.out, ?_, G1.out⟩
      rw [← E1.out]
      exact H1.out
    · have hX1 : (X != 0) = true := by simpa using hX
      have HV := hide (fun V Z => thingV_bad hX V Z)
      have HS := hide (thingS_bad hX pl P)
      have HX := hide hX
      have f1 := H1.out.f1
      have f2 := H1.out.f2
      have d1 := H1.out.c1
      have d2 := H1.out.c2
      have HP := hide H.out.place
      clear H P1 c1 c2
      go_wp2_with fail
      go_ret
      rw [HS.out]
      refine ⟨V, by rw [HV.out]; rfl, fun _ h => absurd h HX.out, (H1.out.moved pl HP.out).failed X, World.grownBy.trans G1.out (World.grownBy.trans (grown_setCell _ _ _ _) (grown_setCell _ _ _ _))⟩
  · have hx : (err != 0) = true := by simpa using h0
    have hx' : (err == 0) = false := by simpa using h0
    have HV := hide (fun V Z => thingV_fault h0 X V Z)
    have HS := hide (thingS_fault h0 X pl P)
    have H0 := hide h0
    go_enter Try.func90, Try.ntmps90
    go_wp2_with fail
    go_ret
    rw [HS.out]
    exact ⟨.bool true, by rw [HV.out]; rfl, fun h => absurd h H0.out, H.out, World.grownBy.refl _ _⟩

theorem thing_count {w : World} {R : Nat} {a : Option Addr} {n cp : Nat} {bs : List Int} {pl : Nat} {err X : Int} {P : Nat} {Q : Value → World → Prop} (caps : Array Value) (h : Rd w R a n cp bs pl err)
    (hc : err = 0 → Calls Try.prog 94 caps w (Read R a n cp bs X P Q w)) :
    Calls Try.prog 93 #[.pointer (some ⟨R, 0, none⟩), .func (.func 94) #[] caps] w fun e w' => ∃ V, e = .returned (thingV err X V (.int .i64 0)) ∧ (err = 0 → X = 0 → Q V w') ∧ Rd w' R a n cp bs (thingS err X pl P).pl (thingS err X pl P).err ∧ w.grownBy w' (some R) := by
  have c1 := h.c1
  have c2 := h.c2
  have H := hide h
  have HC := hide hc
  clear h hc
  by_cases h0 : err = 0
  · subst h0
    have C := hide (HC.out rfl)
    clear HC
    go_enter Try.func93, Try.ntmps93
    go_wp2_with fail
    refine C.out.mono ?_
    rintro e w1 ⟨V, p', rfl, hr, hp, hq, hg⟩
    have H1 := hide hr
    have P1 := hide hp
    have Q1 := hide hq
    have G1 := hide hg
    clear hr hp hq hg
    by_cases hX : X = 0
    · subst hX
      have E1 := hide (P1.out rfl)
      clear P1
      go_wp2_with fail
      go_ret
      rw [thingS_ok]
      refine ⟨V, rfl, by first | exact Q1.out | exact fun _ _ => Q1.out, ?_, G1.out⟩
      rw [← E1.out]
      exact H1.out
    · have hX1 : (X != 0) = true := by simpa using hX
      have HV := hide (fun V Z => thingV_bad hX V Z)
      have HS := hide (thingS_bad hX pl P)
      have HX := hide hX
      have f1 := H1.out.f1
      have f2 := H1.out.f2
      have d1 := H1.out.c1
      have d2 := H1.out.c2
      have HP := hide H.out.place
      clear H P1 c1 c2
      go_wp2_with fail
      go_ret
      rw [HS.out]
      refine ⟨V, by rw [HV.out]; rfl, fun _ h => absurd h HX.out, (H1.out.moved pl HP.out).failed X, World.grownBy.trans G1.out (World.grownBy.trans (grown_setCell _ _ _ _) (grown_setCell _ _ _ _))⟩
  · have hx : (err != 0) = true := by simpa using h0
    have hx' : (err == 0) = false := by simpa using h0
    have HV := hide (fun V Z => thingV_fault h0 X V Z)
    have HS := hide (thingS_fault h0 X pl P)
    have H0 := hide h0
    go_enter Try.func93, Try.ntmps93
    go_wp2_with fail
    go_ret
    rw [HS.out]
    exact ⟨.bool true, by rw [HV.out]; rfl, fun h => absurd h H0.out, H.out, World.grownBy.refl _ _⟩
end Go.Proofs.Ytfdejkfbjmkngab
