/- Things as fields one behind the other: how they are written, and how they are read, as plain functions. No Go in sight. -/
import Derived.Test.YtfdejkfbjmkngabCodecBackMath
namespace Go.Proofs.Ytfdejkfbjmkngab
namespace Wm
open Cm
set_option linter.unusedVariables false

/-- a plain field: its kind (0 an int, 1 a uint32, 2 a bool, 3 a string, 4 a list of bytes), its number (of a bool 0 or 1), its bytes -/
structure Atom where
  k : Nat
  z : Int
  bs : List Int
def atomB (a : Atom) : List Int := if a.k = 0 then numB (zig a.z) else if a.k = 1 then numB a.z.toNat else if a.k = 2 then [a.z] else numB a.bs.length ++ a.bs
def atomFit (a : Atom) : Bool := decide (a.k ≤ 2) || decide (a.bs.length ≤ 65535)
/-- a field as it is written: its bytes, and whether it may be written -/
structure Fld where
  bytes : List Int
  fit : Bool
def fldA (a : Atom) : Fld := ⟨atomB a, atomFit a⟩
def fldN (n : Nat) : Fld := ⟨numB n, decide (n ≤ 1024)⟩
def flds (xs : List Atom) : List Fld := xs.map fldA
def bytesOf (fs : List Fld) : List Int := (fs.map Fld.bytes).flatten
def okAll (fs : List Fld) : Bool := fs.all Fld.fit && decide ((bytesOf fs).length ≤ 65536)
def listF {α : Type} (f : α → List Fld) (xs : List α) : List Fld := fldN xs.length :: (xs.map f).flatten

theorem flds_nil : flds [] = [] := rfl
theorem flds_append (xs ys : List Atom) : flds (xs ++ ys) = flds xs ++ flds ys := List.map_append
theorem bytesOf_nil : bytesOf [] = [] := rfl
theorem bytesOf_append (fs gs : List Fld) : bytesOf (fs ++ gs) = bytesOf fs ++ bytesOf gs := by simp [bytesOf]
theorem bytesOf_one (f : Fld) : bytesOf [f] = f.bytes := by simp [bytesOf]
theorem okAll_nil : okAll [] = true := by decide
theorem okAll_snoc (fs : List Fld) (f : Fld) : okAll (fs ++ [f]) = (okAll fs && f.fit && decide ((bytesOf fs).length + f.bytes.length ≤ 65536)) := by
  unfold okAll
  rw [bytesOf_append, bytesOf_one, List.all_append, List.length_append]
  rw [Bool.eq_iff_iff]
  simp
  intros
  omega
theorem okAll_left (fs gs : List Fld) (h : okAll fs = false) : okAll (fs ++ gs) = false := by
  cases h2 : okAll (fs ++ gs) with
  | false => rfl
  | true =>
    unfold okAll at h h2
    rw [bytesOf_append, List.all_append, List.length_append] at h2
    simp at h2
    have : (fs.all Fld.fit && decide ((bytesOf fs).length ≤ 65536)) = true := by
      simp
      exact ⟨h2.1.1, by omega⟩
    rw [this] at h
    exact h
theorem okAll_le {fs : List Fld} (h : okAll fs = true) : (bytesOf fs).length ≤ 65536 := by
  unfold okAll at h
  simp at h
  exact h.2
theorem okAll_fit {fs gs : List Fld} {f : Fld} (h : f.fit = false) : okAll (fs ++ f :: gs) = false := by
  rw [show fs ++ f :: gs = (fs ++ [f]) ++ gs by simp]
  exact okAll_left _ _ (by rw [okAll_snoc, h]; simp)

/-- what a thing's bytes are, and its fault -/
def wBytes (fs : List Fld) : List Int := if okAll fs then bytesOf fs else []
def wErr (fs : List Fld) : Int := if okAll fs then 0 else 22
theorem wBytes_ok {fs : List Fld} (h : okAll fs = true) : wBytes fs = bytesOf fs := by unfold wBytes; rw [h]; rfl
theorem wBytes_no {fs : List Fld} (h : okAll fs = false) : wBytes fs = [] := by unfold wBytes; rw [h]; rfl
theorem wErr_ok {fs : List Fld} (h : okAll fs = true) : wErr fs = 0 := by unfold wErr; rw [h]; rfl
theorem wErr_no {fs : List Fld} (h : okAll fs = false) : wErr fs = 22 := by unfold wErr; rw [h]; rfl
theorem wBytes_le (fs : List Fld) : (wBytes fs).length ≤ 65536 := by
  cases h : okAll fs with
  | false => rw [wBytes_no h]; exact Nat.zero_le _
  | true => rw [wBytes_ok h]; exact okAll_le h

def atomA (bs : List Int) (k : Nat) (s : St) : Ans Atom :=
  if k = 0 then ⟨⟨0, (intA bs s).v, []⟩, (intA bs s).s⟩
  else if k = 1 then (if 4294967295 < (numA bs s).v then ⟨⟨1, 0, []⟩, ⟨s.pl, 21⟩⟩ else ⟨⟨1, ((numA bs s).v : Int), []⟩, (numA bs s).s⟩)
  else if k = 2 then ⟨⟨2, if (flagA bs s).v then 1 else 0, []⟩, (flagA bs s).s⟩
  else ⟨⟨k, 0, (textA bs 65535 s).v⟩, (textA bs 65535 s).s⟩
def flatA (bs : List Int) : List Nat → St → Ans (List Atom)
  | [], s => ⟨[], s⟩
  | k :: ks, s => ⟨(atomA bs k s).v :: (flatA bs ks (atomA bs k s).s).v, (flatA bs ks (atomA bs k s).s).s⟩
def timesA {α : Type} (item : St → Ans α) : Nat → St → Ans (List α)
  | 0, s => ⟨[], s⟩
  | n + 1, s => ⟨(item s).v :: (timesA item n (item s).s).v, (timesA item n (item s).s).s⟩
def listA {α : Type} (bs : List Int) (item : St → Ans α) (s : St) : Ans (List α) := timesA item (countA bs 1024 s).v (countA bs 1024 s).s

theorem intA_stuck (bs : List Int) (s : St) (h : ¬ s.err = 0) : (intA bs s).s = s := by unfold intA; rw [numA_fault _ _ h]
theorem flagA_stuck (bs : List Int) (s : St) (h : ¬ s.err = 0) : (flagA bs s).s = s := by
  rw [flagA_good _ _ (by rw [byteA_fault _ _ h]; exact (show ¬ (1 : Int) < 0 by decide)), byteA_fault _ _ h]
theorem countA_stuck (bs : List Int) (most : Int) (s : St) (h : ¬ s.err = 0) : countA bs most s = ⟨0, s⟩ := by
  rw [countA_good _ _ _ (by rw [numA_fault _ _ h]; show ¬ _ < ((0 : Nat) : Int); omega), numA_fault _ _ h]
theorem textA_stuck (bs : List Int) (most : Int) (s : St) (h : ¬ s.err = 0) : textA bs most s = ⟨[], s⟩ := by
  have e := countA_stuck bs most s h
  rw [textA_fault _ _ _ (by rw [e]; exact h), e]
theorem atomA_stuck (bs : List Int) (k : Nat) (s : St) (h : ¬ s.err = 0) : (atomA bs k s).s = s := by
  unfold atomA
  split
  · exact intA_stuck bs s h
  · split
    · rw [numA_fault _ _ h, if_neg (show ¬ 4294967295 < 0 by omega)]
    · split
      · exact flagA_stuck bs s h
      · rw [textA_stuck _ _ _ h]
theorem flatA_stuck (bs : List Int) : ∀ (ks : List Nat) (s : St), ¬ s.err = 0 → (flatA bs ks s).s = s
  | [], s, _ => rfl
  | k :: ks, s, h => by
    show (flatA bs ks (atomA bs k s).s).s = s
    rw [atomA_stuck _ _ _ h]
    exact flatA_stuck bs ks s h
theorem timesA_stuck {α : Type} (item : St → Ans α) (hi : ∀ s, ¬ s.err = 0 → (item s).s = s) : ∀ (n : Nat) (s : St), ¬ s.err = 0 → (timesA item n s).s = s
  | 0, s, _ => rfl
  | n + 1, s, h => by
    show (timesA item n (item s).s).s = s
    rw [hi _ h]
    exact timesA_stuck item hi n s h
theorem listA_stuck {α : Type} (bs : List Int) (item : St → Ans α) (s : St) (h : ¬ s.err = 0) : (listA bs item s).s = s := by
  unfold listA
  rw [countA_stuck _ _ _ h]
  rfl
theorem flatA_append (bs : List Int) : ∀ (ks ls : List Nat) (s : St), flatA bs (ks ++ ls) s = ⟨(flatA bs ks s).v ++ (flatA bs ls (flatA bs ks s).s).v, (flatA bs ls (flatA bs ks s).s).s⟩
  | [], ls, s => rfl
  | k :: ks, ls, s => by
    show (⟨_ :: (flatA bs (ks ++ ls) _).v, (flatA bs (ks ++ ls) _).s⟩ : Ans (List Atom)) = _
    rw [flatA_append bs ks ls]
    rfl
theorem flatA_length (bs : List Int) : ∀ (ks : List Nat) (s : St), (flatA bs ks s).v.length = ks.length
  | [], s => rfl
  | k :: ks, s => by show (flatA bs ks _).v.length + 1 = _; rw [flatA_length bs ks]; rfl
theorem timesA_snoc {α : Type} (item : St → Ans α) : ∀ (n : Nat) (s : St), timesA item (n + 1) s = ⟨(timesA item n s).v ++ [(item (timesA item n s).s).v], (item (timesA item n s).s).s⟩
  | 0, s => rfl
  | n + 1, s => by
    show (⟨(item s).v :: (timesA item (n + 1) (item s).s).v, (timesA item (n + 1) (item s).s).s⟩ : Ans (List α)) = _
    rw [timesA_snoc item n]
    rfl
theorem timesA_length {α : Type} (item : St → Ans α) : ∀ (n : Nat) (s : St), (timesA item n s).v.length = n
  | 0, s => rfl
  | n + 1, s => by show (timesA item n _).v.length + 1 = _; rw [timesA_length item n]
/-- once at fault, for ever -/
theorem err_back {α : Type} (item : St → Ans α) (hi : ∀ s, ¬ s.err = 0 → (item s).s = s) (s : St) (h : (item s).s.err = 0) : s.err = 0 :=
  Decidable.by_contra fun h' => by rw [hi s h'] at h; exact h' h
end Wm
end Go.Proofs.Ytfdejkfbjmkngab
