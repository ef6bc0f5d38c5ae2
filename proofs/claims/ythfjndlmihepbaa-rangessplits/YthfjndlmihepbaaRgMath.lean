/- Places, maps, and what is asked of them: the plain side. No condition. -/
import Derived.Test.YthfjndlmihepbaaBase
import Derived.WideShapes
import Derived.Lib.Strings
namespace Go.Proofs.Ythfjndlmihepbaa
namespace Rg
set_option linter.unusedVariables false

/-- a place: group, from, epoch -/
structure Pc where
  g : Int
  k : ByteArray
  ep : Int
deriving DecidableEq
def pc0 : Pc := ⟨0, ⟨#[]⟩, 0⟩
instance : Inhabited Pc := ⟨pc0⟩
/-- the empty text -/
def none0 : ByteArray := ⟨#[]⟩
def cmpB : List UInt8 → List UInt8 → Int
  | [], [] => 0
  | [], _ :: _ => -1
  | _ :: _, [] => 1
  | x :: a, y :: b => if x < y then -1 else if y < x then 1 else cmpB a b
theorem cmpB_self : ∀ a : List UInt8, cmpB a a = 0
  | [] => rfl
  | x :: a => by
    show (if x < x then (-1 : Int) else if x < x then 1 else cmpB a a) = 0
    have : ¬ x < x := by rw [UInt8.lt_iff_toNat_lt]; omega
    rw [if_neg this, if_neg this, cmpB_self a]
theorem cmpB_swap : ∀ a b : List UInt8, cmpB b a = - cmpB a b
  | [], [] => rfl
  | [], _ :: _ => rfl
  | _ :: _, [] => rfl
  | x :: a, y :: b => by
    show (if y < x then (-1 : Int) else if x < y then 1 else cmpB b a) = -(if x < y then (-1 : Int) else if y < x then 1 else cmpB a b)
    rw [cmpB_swap a b]
    by_cases h1 : x < y
    · have h2 : ¬ y < x := by rw [UInt8.lt_iff_toNat_lt] at *; omega
      rw [if_neg h2, if_pos h1, if_pos h1]
      rfl
    · rw [if_neg h1, if_neg h1]
      split <;> rfl
theorem cmpB_zero : ∀ a b : List UInt8, cmpB a b = 0 → a = b
  | [], [], _ => rfl
  | [], _ :: _, h => absurd h (show ¬ ((-1 : Int) = 0) by omega)
  | _ :: _, [], h => absurd h (show ¬ ((1 : Int) = 0) by omega)
  | x :: a, y :: b, h => by
    have h' : (if x < y then (-1 : Int) else if y < x then 1 else cmpB a b) = 0 := h
    by_cases h1 : x < y
    · rw [if_pos h1] at h'; omega
    · rw [if_neg h1] at h'
      by_cases h2 : y < x
      · rw [if_pos h2] at h'; omega
      · rw [if_neg h2] at h'
        have e : x = y := by
          rw [UInt8.lt_iff_toNat_lt] at h1 h2
          exact UInt8.toNat_inj.1 (by omega)
        rw [e, cmpB_zero a b h']
theorem cmpB_less : ∀ a b : List UInt8, Op.bytesLess a b = decide (cmpB a b < 0)
  | [], [] => rfl
  | [], _ :: _ => rfl
  | _ :: _, [] => rfl
  | x :: a, y :: b => by
    show (decide (x < y) || (x == y && Op.bytesLess a b)) = decide ((if x < y then (-1 : Int) else if y < x then 1 else cmpB a b) < 0)
    rw [cmpB_less a b]
    by_cases h1 : x < y
    · rw [if_pos h1, decide_eq_true h1]; rfl
    · rw [if_neg h1, decide_eq_false h1, Bool.false_or]
      by_cases h2 : y < x
      · have e : ¬ x = y := by intro e; subst e; exact h1 h2
        rw [if_pos h2, beq_eq_false_iff_ne.2 e]; rfl
      · have e : x = y := by
          rw [UInt8.lt_iff_toNat_lt] at h1 h2
          exact UInt8.toNat_inj.1 (by omega)
        rw [if_neg h2, e, beq_self_eq_true, Bool.true_and]
theorem cmpB_trans : ∀ a b c : List UInt8, cmpB a b < 0 → cmpB b c < 0 → cmpB a c < 0
  | [], [], _, h, _ => absurd h (show ¬ ((0 : Int) < 0) by omega)
  | [], _ :: _, [], _, h => absurd h (show ¬ ((1 : Int) < 0) by omega)
  | [], _ :: _, _ :: _, _, _ => show (-1 : Int) < 0 by omega
  | _ :: _, [], _, h, _ => absurd h (show ¬ ((1 : Int) < 0) by omega)
  | _ :: _, _ :: _, [], _, h => absurd h (show ¬ ((1 : Int) < 0) by omega)
  | x :: a, y :: b, z :: c, h1, h2 => by
    have h1' : (if x < y then (-1 : Int) else if y < x then 1 else cmpB a b) < 0 := h1
    have h2' : (if y < z then (-1 : Int) else if z < y then 1 else cmpB b c) < 0 := h2
    show (if x < z then (-1 : Int) else if z < x then 1 else cmpB a c) < 0
    have ih := cmpB_trans a b c
    simp only [UInt8.lt_iff_toNat_lt] at *
    (repeat' split at h1') <;> (repeat' split at h2') <;> (repeat' split) <;> first | omega | (exact ih h1' h2')
/-- is a below b? -/
def ltB (a b : ByteArray) : Bool := Op.bytesLess a.toList b.toList
def cmp (a b : ByteArray) : Int := cmpB a.toList b.toList
theorem tl_inj {a b : ByteArray} (h : a.toList = b.toList) : a = b := WideShapes.bytes_inj (by rwa [Lib.toList_data, Lib.toList_data] at h)
theorem lt_iff (a b : ByteArray) : ltB a b = true ↔ cmp a b < 0 := by unfold ltB cmp; rw [cmpB_less, decide_eq_true_eq]
theorem lt_no (a b : ByteArray) : ltB a b = false ↔ ¬ cmp a b < 0 := by unfold ltB cmp; rw [cmpB_less, decide_eq_false_iff_not]
theorem cmp_swap (a b : ByteArray) : cmp b a = - cmp a b := cmpB_swap _ _
theorem cmp_zero (a b : ByteArray) : cmp a b = 0 ↔ a = b := ⟨fun h => tl_inj (cmpB_zero _ _ h), fun h => by rw [h]; exact cmpB_self _⟩
theorem lt_self (a : ByteArray) : ltB a a = false := by rw [lt_no, (cmp_zero a a).2 rfl]; omega
theorem lt_trans {a b c : ByteArray} (h : ltB a b = true) (g : ltB b c = true) : ltB a c = true := by rw [lt_iff] at *; exact cmpB_trans _ _ _ h g
theorem lt_asym {a b : ByteArray} (h : ltB a b = true) : ltB b a = false := by
  rw [lt_iff] at h
  rw [lt_no, cmp_swap]
  omega
theorem lt_total {a b : ByteArray} (h : ltB a b = false) (g : ltB b a = false) : a = b := by
  rw [lt_no] at h g
  rw [cmp_swap] at g
  exact (cmp_zero a b).1 (by omega)
/-- not below: below the other, or the same -/
theorem lt_or (a b : ByteArray) : (ltB a b || decide (a = b)) = !ltB b a := by
  cases h : ltB a b
  · cases g : ltB b a
    · rw [decide_eq_true (lt_total h g)]; rfl
    · rw [Bool.false_or, decide_eq_false]; rfl
      intro e
      subst e
      rw [h] at g
      cases g
  · rw [lt_asym h]; rfl
/-- a ≤ b < c -/
theorem le_lt {a b c : ByteArray} (h : ltB b a = false) (g : ltB b c = true) : ltB a c = true := by
  cases e : ltB a b
  · rw [lt_total e h]; exact g
  · exact lt_trans e g
/-- a < b ≤ c -/
theorem lt_le {a b c : ByteArray} (h : ltB a b = true) (g : ltB c b = false) : ltB a c = true := by
  cases e : ltB b c
  · rw [← lt_total g e] at h; exact h
  · exact lt_trans h e
theorem nl_none : none0.toList = [] := by rw [Lib.toList_data]; rfl
/-- nothing is below the empty text -/
theorem lt_none (a : ByteArray) : ltB a none0 = false := by
  unfold ltB
  rw [nl_none]
  cases a.toList <;> rfl
theorem none_lt {a : ByteArray} (h : ¬ a = none0) : ltB none0 a = true := by
  cases e : ltB none0 a
  · exact absurd (lt_total (lt_none a) e) h
  · rfl
theorem size_none {a : ByteArray} : a = none0 ↔ a.size = 0 := by
  constructor
  · intro h; rw [h]; rfl
  · intro h
    obtain ⟨d⟩ := a
    have : d.size = 0 := h
    show (⟨d⟩ : ByteArray) = ⟨#[]⟩
    rw [Array.eq_empty_of_size_eq_zero this]
def grpB (g : Int) : Bool := decide (1 ≤ g) && decide (g < 8)
def keyB (k : ByteArray) : Bool := decide (1 ≤ k.size) && decide (k.size ≤ 16)
def mayB (p : Pc) : Bool := grpB p.g && decide (p.k.size ≤ 16) && decide (1 ≤ p.ep) && decide (p.ep ≤ 4611686018427387904)
def withinB (lo hi key : ByteArray) : Bool := !ltB key lo && (ltB key hi || decide (hi = none0))
/-- where the place number k ends -/
def endN (l : List Pc) (k : Nat) : ByteArray := match l[k + 1]? with | some p => p.k | none => none0
def endV (l : List Pc) (i : Int) : ByteArray := if i < 0 then none0 else endN l i.toNat
theorem endN_some {l : List Pc} {k : Nat} {p : Pc} (h : l[k + 1]? = some p) : endN l k = p.k := by unfold endN; rw [h]
theorem endN_none {l : List Pc} {k : Nat} (h : l.length ≤ k + 1) : endN l k = none0 := by unfold endN; rw [List.getElem?_eq_none h]
/-- the first number below n of which it is so -/
def firstO (f : Nat → Bool) (n : Nat) : Option Nat := (List.range n).find? f
theorem first_at {f : Nat → Bool} {n k : Nat} (hk : k < n) (h : f k = true) (hb : ∀ j, j < k → f j = false) : firstO f n = some k := by
  induction n with
  | zero => omega
  | succ n ih =>
    unfold firstO at *
    rw [List.range_succ, List.find?_append]
    by_cases e : k < n
    · rw [ih e]; rfl
    · obtain rfl : k = n := by omega
      rw [List.find?_eq_none.2 (fun x hx => by rw [hb x (List.mem_range.1 hx)]; decide)]
      simp [h]
theorem first_none {f : Nat → Bool} {n : Nat} (hb : ∀ j, j < n → f j = false) : firstO f n = none := by
  unfold firstO
  exact List.find?_eq_none.2 (fun x hx => by rw [hb x (List.mem_range.1 hx)]; decide)
theorem first_some {f : Nat → Bool} {n k : Nat} (h : firstO f n = some k) : k < n ∧ f k = true ∧ ∀ j, j < k → f j = false := by
  have h1 := List.find?_some h
  have h2 := List.mem_range.1 (List.mem_of_find?_eq_some h)
  refine ⟨h2, h1, fun j hj => ?_⟩
  cases e : f j
  · rfl
  · obtain ⟨q, hq1, hq2⟩ : ∃ q, f q = true ∧ (q ≤ j ∧ ∀ i, i < q → f i = false) := by
      induction j using Nat.strongRecOn with
      | ind j ih =>
        by_cases hx : ∃ i, i < j ∧ f i = true
        · obtain ⟨i, hi, hfi⟩ := hx
          obtain ⟨q, h1, h2, h3⟩ := ih i hi (by omega) hfi
          exact ⟨q, h1, by omega, h3⟩
        · exact ⟨j, e, Nat.le_refl _, fun i hi => by
            cases e2 : f i
            · rfl
            · exact absurd ⟨i, hi, e2⟩ hx⟩
    have := first_at (f := f) (n := n) (k := q) (by omega) hq1 hq2.2
    rw [h] at this
    have := Option.some.inj this
    omega
theorem first_no {f : Nat → Bool} {n : Nat} (h : firstO f n = none) : ∀ j, j < n → f j = false := fun j hj => by
  have := List.find?_eq_none.1 h j (List.mem_range.2 hj)
  cases e : f j
  · rfl
  · rw [e] at this; exact absurd rfl this
def hasB (l : List Pc) (key : ByteArray) (k : Nat) : Bool := match l[k]? with | some p => withinB p.k (endN l k) key | none => false
theorem hasB_at {l : List Pc} {key : ByteArray} {k : Nat} {p : Pc} (h : l[k]? = some p) : hasB l key k = withinB p.k (endN l k) key := by unfold hasB; rw [h]
/-- the place that has the key -/
def findV (l : List Pc) (key : ByteArray) : Nat := (firstO (hasB l key) l.length).getD 0
def grpAt (l : List Pc) (g : Int) (k : Nat) : Bool := match l[k]? with | some p => decide (p.g = g) | none => false
theorem grpAt_at {l : List Pc} {g : Int} {k : Nat} {p : Pc} (h : l[k]? = some p) : grpAt l g k = decide (p.g = g) := by unfold grpAt; rw [h]
/-- the group's place -/
def ofO (l : List Pc) (g : Int) : Option Nat := firstO (grpAt l g) l.length
def ofN (l : List Pc) (g : Int) : Int := ((ofO l g).getD 0 : Nat)
def ofB (l : List Pc) (g : Int) : Bool := (ofO l g).isSome
def maxI (a b : Int) : Int := if a < b then b else a
/-- the greatest Epoch -/
def epochV (l : List Pc) : Int := l.foldl (fun m p => maxI m p.ep) 0
theorem epoch_take {l : List Pc} {k : Nat} {p : Pc} (h : l[k]? = some p) : epochV (l.take (k + 1)) = maxI (epochV (l.take k)) p.ep := by
  have hk := (List.getElem?_eq_some_iff.1 h).1
  rw [List.take_succ_eq_append_getElem hk, (List.getElem?_eq_some_iff.1 h).2]
  unfold epochV
  rw [List.foldl_append]
  rfl
def okAt (l : List Pc) (k : Nat) : Bool := match l[k]? with
  | some p => mayB p && !ofB (l.take k) p.g && (match k with | 0 => true | q + 1 => match l[q]? with | some y => ltB y.k p.k | none => true)
  | none => true
def firstB (l : List Pc) : Bool := match l with | [] => false | p :: _ => decide (p.k = none0)
/-- is it a map? -/
def rightB (l : List Pc) : Bool := decide (1 ≤ l.length) && decide (l.length < 8) && firstB l && (List.range l.length).all (okAt l)
theorem right_of {l : List Pc} (h1 : 1 ≤ l.length) (h2 : l.length < 8) (h3 : firstB l = true) (h4 : ∀ j, j < l.length → okAt l j = true) : rightB l = true := by
  unfold rightB
  rw [decide_eq_true h1, decide_eq_true h2, h3, List.all_eq_true.2 (fun x hx => h4 x (List.mem_range.1 hx))]
  rfl
theorem right_parts {l : List Pc} (h : rightB l = true) : 1 ≤ l.length ∧ l.length < 8 ∧ firstB l = true ∧ ∀ j, j < l.length → okAt l j = true := by
  unfold rightB at h
  simp only [Bool.and_eq_true, decide_eq_true_eq] at h
  exact ⟨h.1.1.1, h.1.1.2, h.1.2, fun j hj => List.all_eq_true.1 h.2 j (List.mem_range.2 hj)⟩
theorem right_no {l : List Pc} {j : Nat} (hj : j < l.length) (h : okAt l j = false) : rightB l = false := by
  cases e : rightB l
  · rfl
  · have := (right_parts e).2.2.2 j hj
    rw [h] at this
    cases this
def checkE (l : List Pc) : Int := if rightB l = true then 0 else 21
def touch (l : List Pc) (p : Pc) : Pc := ⟨p.g, p.k, epochV l + 1⟩
def splitE (l : List Pc) (key : ByteArray) (g : Int) : Int :=
  if rightB l = false then 21 else if keyB key = false ∨ grpB g = false then 1
  else if ofB l g = true ∨ (l.getD (findV l key) pc0).k = key then 171 else if 4611686018427387904 ≤ epochV l then 170 else 0
def splitL (l : List Pc) (key : ByteArray) (g : Int) : List Pc :=
  if splitE l key g = 0 then l.take (findV l key) ++ [touch l (l.getD (findV l key) pc0), ⟨g, key, epochV l + 1⟩] ++ l.drop (findV l key + 1) else []
def mergeE (l : List Pc) (i : Int) : Int :=
  if rightB l = false then 21 else if i < 0 ∨ (l.length : Int) - 1 ≤ i ∨ 4611686018427387904 ≤ epochV l then 170 else 0
def mergeL (l : List Pc) (i : Int) : List Pc :=
  if mergeE l i = 0 then l.take i.toNat ++ [touch l (l.getD i.toNat pc0)] ++ l.drop (i.toNat + 2) else []
/-- what an iterator over l tells -/
def xsL (penc : Pc → Value) (l : List Pc) : List (Array Value) := (List.range l.length).map fun k => #[.string (endN l k), penc (l.getD k pc0)]
theorem xsL_length (penc : Pc → Value) (l : List Pc) : (xsL penc l).length = l.length := by simp [xsL]
theorem xsL_at {penc : Pc → Value} {l : List Pc} {k : Nat} {p : Pc} (h : l[k]? = some p) : (xsL penc l)[k]? = some #[.string (endN l k), penc p] := by
  have hk := (List.getElem?_eq_some_iff.1 h).1
  unfold xsL
  rw [List.getElem?_map, List.getElem?_range hk, Option.map_some]
  rw [List.getD_eq_getElem?_getD, h]
  rfl
theorem xsL_inv {penc : Pc → Value} {l : List Pc} {k : Nat} {args : Array Value} (h : (xsL penc l)[k]? = some args) : ∃ p, l[k]? = some p ∧ args = #[.string (endN l k), penc p] := by
  have hk := (List.getElem?_eq_some_iff.1 h).1
  rw [xsL_length] at hk
  have e := xsL_at (penc := penc) (List.getElem?_eq_getElem hk)
  rw [h] at e
  exact ⟨_, List.getElem?_eq_getElem hk, Option.some.inj e⟩
end Rg
end Go.Proofs.Ythfjndlmihepbaa
