/- Rights, ledgers, and what is asked of them: the plain side. No condition. -/
import Derived.Test.YtjcbhgkfbilifabAcoLaws
import Derived.Test.YtjcbhgkfbilifabAcoPos
import Derived.Lib.Bytealg
namespace Go.Proofs.Ytjcbhgkfbilifab
namespace Lg
open Ao
set_option linter.unusedVariables false

/-- a right: group, key, lease, net -/
structure Rt where
  g : Int
  k : ByteArray
  ls : Int
  nt : Int
deriving DecidableEq, Inhabited
def rt0 : Rt := ⟨0, ⟨#[]⟩, 0, 0⟩
abbrev cmpB (a b : List UInt8) : Int := Lib.compareBytes a b
theorem cmpB_self : ∀ a : List UInt8, cmpB a a = 0
  | [] => rfl
  | x :: a => by
    show (if x < x then (-1 : Int) else if x < x then 1 else cmpB a a) = 0
    have : ¬ x < x := by rw [UInt8.lt_iff_toNat_lt]; omega
    rw [if_neg this, if_neg this, cmpB_self a]
theorem cmpB_swap : ∀ a b : List UInt8, cmpB b a = - cmpB a b
  | [], [] => rfl
  | [], _ :: _ => rfl
  | _ :: _, [] => rfl
  | x :: a, y :: b => by
    show (if y < x then (-1 : Int) else if x < y then 1 else cmpB b a) = -(if x < y then (-1 : Int) else if y < x then 1 else cmpB a b)
    rw [cmpB_swap a b]
    by_cases h1 : x < y
    · have h2 : ¬ y < x := by rw [UInt8.lt_iff_toNat_lt] at *; omega
      rw [if_neg h2, if_pos h1, if_pos h1]
      rfl
    · rw [if_neg h1, if_neg h1]
      split <;> rfl
theorem cmpB_zero : ∀ a b : List UInt8, cmpB a b = 0 → a = b
  | [], [], _ => rfl
  | [], _ :: _, h => absurd h (show ¬ ((-1 : Int) = 0) by omega)
  | _ :: _, [], h => absurd h (show ¬ ((1 : Int) = 0) by omega)
  | x :: a, y :: b, h => by
    have h' : (if x < y then (-1 : Int) else if y < x then 1 else cmpB a b) = 0 := h
    by_cases h1 : x < y
    · rw [if_pos h1] at h'; omega
    · rw [if_neg h1] at h'
      by_cases h2 : y < x
      · rw [if_pos h2] at h'; omega
      · rw [if_neg h2] at h'
        have e : x = y := by
          rw [UInt8.lt_iff_toNat_lt] at h1 h2
          exact UInt8.toNat_inj.1 (by omega)
        rw [e, cmpB_zero a b h']
theorem cmpB_less : ∀ a b : List UInt8, Op.bytesLess a b = decide (cmpB a b < 0)
  | [], [] => rfl
  | [], _ :: _ => rfl
  | _ :: _, [] => rfl
  | x :: a, y :: b => by
    show (decide (x < y) || (x == y && Op.bytesLess a b)) = decide ((if x < y then (-1 : Int) else if y < x then 1 else cmpB a b) < 0)
    rw [cmpB_less a b]
    by_cases h1 : x < y
    · rw [if_pos h1, decide_eq_true h1]; rfl
    · rw [if_neg h1, decide_eq_false h1, Bool.false_or]
      by_cases h2 : y < x
      · have e : ¬ x = y := by intro e; subst e; exact h1 h2
        rw [if_pos h2, beq_eq_false_iff_ne.2 e]; rfl
      · have e : x = y := by
          rw [UInt8.lt_iff_toNat_lt] at h1 h2
          exact UInt8.toNat_inj.1 (by omega)
        rw [if_neg h2, e, beq_self_eq_true, Bool.true_and]
theorem cmpB_trans : ∀ a b c : List UInt8, cmpB a b < 0 → cmpB b c < 0 → cmpB a c < 0
  | [], [], _, h, _ => absurd h (show ¬ ((0 : Int) < 0) by omega)
  | [], _ :: _, [], _, h => absurd h (show ¬ ((1 : Int) < 0) by omega)
  | [], _ :: _, _ :: _, _, _ => show (-1 : Int) < 0 by omega
  | _ :: _, [], _, h, _ => absurd h (show ¬ ((1 : Int) < 0) by omega)
  | _ :: _, _ :: _, [], _, h => absurd h (show ¬ ((1 : Int) < 0) by omega)
  | x :: a, y :: b, z :: c, h1, h2 => by
    have h1' : (if x < y then (-1 : Int) else if y < x then 1 else cmpB a b) < 0 := h1
    have h2' : (if y < z then (-1 : Int) else if z < y then 1 else cmpB b c) < 0 := h2
    show (if x < z then (-1 : Int) else if z < x then 1 else cmpB a c) < 0
    have ih := cmpB_trans a b c
    simp only [UInt8.lt_iff_toNat_lt] at *
    (repeat' split at h1') <;> (repeat' split at h2') <;> (repeat' split) <;> first | omega | (exact ih h1' h2')
/-- how two rights stand to one another -/
def cmpN (x y : Int) : Int := if x < y then -1 else if y < x then 1 else 0
def ordR (a b : Rt) : Int := if cmpN a.g b.g = 0 then cmpB a.k.data.toList b.k.data.toList else cmpN a.g b.g
theorem cmpN_swap (x y : Int) : cmpN y x = - cmpN x y := by unfold cmpN; (repeat' split) <;> omega
theorem cmpN_zero {x y : Int} : cmpN x y = 0 ↔ x = y := by unfold cmpN; constructor <;> intro h <;> (repeat' split at *) <;> omega
theorem cmpN_neg {x y : Int} : cmpN x y < 0 ↔ x < y := by unfold cmpN; constructor <;> intro h <;> (repeat' split at *) <;> omega
theorem key_inj {a b : ByteArray} (h : a.data.toList = b.data.toList) : a = b := WideShapes.bytes_inj h
theorem ord_zero {a b : Rt} : ordR a b = 0 ↔ a.g = b.g ∧ a.k = b.k := by
  unfold ordR
  by_cases h : cmpN a.g b.g = 0
  · rw [if_pos h]
    have hg := cmpN_zero.1 h
    exact ⟨fun e => ⟨hg, key_inj (cmpB_zero _ _ e)⟩, fun e => by rw [e.2]; exact cmpB_self _⟩
  · rw [if_neg h]
    exact ⟨fun e => absurd e h, fun e => absurd (cmpN_zero.2 e.1) h⟩
theorem ord_swap (a b : Rt) : ordR b a = - ordR a b := by
  unfold ordR
  rw [cmpN_swap a.g b.g, cmpB_swap a.k.data.toList b.k.data.toList]
  by_cases h : cmpN a.g b.g = 0
  · rw [if_pos h, if_pos (by omega)]
  · rw [if_neg h, if_neg (by omega)]
theorem ord_neg {a b : Rt} : ordR a b < 0 ↔ a.g < b.g ∨ (a.g = b.g ∧ cmpB a.k.data.toList b.k.data.toList < 0) := by
  unfold ordR
  by_cases h : cmpN a.g b.g = 0
  · rw [if_pos h]
    have hg := cmpN_zero.1 h
    constructor
    · intro e; exact .inr ⟨hg, e⟩
    · rintro (e | ⟨_, e⟩)
      · omega
      · exact e
  · rw [if_neg h, cmpN_neg]
    have hg : ¬ a.g = b.g := fun e => h (cmpN_zero.2 e)
    constructor
    · intro e; exact .inl e
    · rintro (e | ⟨e, _⟩)
      · exact e
      · exact absurd e hg
theorem ord_trans {a b c : Rt} (h1 : ordR a b < 0) (h2 : ordR b c < 0) : ordR a c < 0 := by
  rw [ord_neg] at *
  rcases h1 with h1 | ⟨h1, k1⟩ <;> rcases h2 with h2 | ⟨h2, k2⟩
  · left; omega
  · left; omega
  · left; omega
  · right; exact ⟨by omega, cmpB_trans _ _ _ k1 k2⟩
theorem ord_congr {a b c : Rt} (hg : a.g = b.g) (hk : a.k = b.k) : ordR a c = ordR b c ∧ ordR c a = ordR c b := by unfold ordR; rw [hg, hk]; exact ⟨rfl, rfl⟩
/-- may it stand in a ledger -/
def grpB (g : Int) : Bool := decide (1 ≤ g ∧ g < 8)
def mayB (r : Rt) : Bool := grpB r.g && keyB r.k && decide (1 ≤ r.ls)
def ltR (a b : Rt) : Prop := ordR a b < 0
instance (a b : Rt) : Decidable (ltR a b) := inferInstanceAs (Decidable (ordR a b < 0))
def Led (l : List Rt) : Prop := (∀ x ∈ l, mayB x = true) ∧ l.Pairwise ltR
instance (l : List Rt) : Decidable (Led l) := inferInstanceAs (Decidable (_ ∧ _))
def ledB (l : List Rt) : Bool := decide (Led l)
theorem led_nil : Led [] := ⟨fun x h => absurd h (by simp), List.Pairwise.nil⟩
theorem led_cons {x : Rt} {r : List Rt} (h : Led (x :: r)) : mayB x = true ∧ (∀ y ∈ r, ordR x y < 0) ∧ Led r := by
  obtain ⟨h1, h2⟩ := h
  rw [List.pairwise_cons] at h2
  exact ⟨h1 x (by simp), h2.1, fun y hy => h1 y (List.mem_cons_of_mem _ hy), h2.2⟩
theorem led_steps : ∀ {l : List Rt}, (∀ (j : Nat) x, l[j]? = some x → mayB x = true) → (∀ (j : Nat) x y, l[j]? = some x → l[j + 1]? = some y → ordR x y < 0) → Led l
  | [], _, _ => led_nil
  | [x], h1, _ => ⟨fun y hy => by simp at hy; subst hy; exact h1 0 _ rfl, by simp⟩
  | x :: y :: r, h1, h2 => by
    have ih : Led (y :: r) := led_steps (fun j z hz => h1 (j + 1) z (by simpa using hz)) (fun j z u hz hu => h2 (j + 1) z u (by simpa using hz) (by simpa using hu))
    have hxy : ordR x y < 0 := h2 0 x y rfl rfl
    refine ⟨fun z hz => ?_, List.pairwise_cons.2 ⟨fun z hz => ?_, ih.2⟩⟩
    · rcases List.mem_cons.1 hz with rfl | hz
      · exact h1 0 _ rfl
      · exact ih.1 z hz
    · rcases List.mem_cons.1 hz with rfl | hz
      · exact hxy
      · exact ord_trans hxy ((led_cons ih).2.1 z hz)
theorem led_get : ∀ {l : List Rt} {i j : Nat} {x y : Rt}, Led l → l[i]? = some x → l[j]? = some y → i < j → ordR x y < 0
  | [], i, j, x, y, _, h, _, _ => by simp at h
  | z :: r, 0, 0, x, y, h, hx, hy, hij => by omega
  | z :: r, 0, j + 1, x, y, h, hx, hy, _ => by
    simp at hx hy
    subst hx
    exact (led_cons h).2.1 y (List.mem_of_getElem? hy)
  | z :: r, i + 1, 0, x, y, h, hx, hy, hij => by omega
  | z :: r, i + 1, j + 1, x, y, h, hx, hy, hij => led_get (led_cons h).2.2 (by simpa using hx) (by simpa using hy) (by omega)
theorem led_may {l : List Rt} {i : Nat} {x : Rt} (h : Led l) (hx : l[i]? = some x) : mayB x = true := h.1 x (List.mem_of_getElem? hx)
/-- where one of r's group and key is, or would be -/
def posR (r : Rt) : List Rt → Nat
  | [] => 0
  | x :: t => if ordR x r < 0 then posR r t + 1 else 0
theorem posR_le (r : Rt) : ∀ l : List Rt, posR r l ≤ l.length
  | [] => Nat.le_refl _
  | x :: t => by
    unfold posR
    have := posR_le r t
    split <;> simp <;> omega
theorem posR_unique {r : Rt} : ∀ {l : List Rt} {p : Nat}, p ≤ l.length → (∀ (j : Nat) x, l[j]? = some x → j < p → ordR x r < 0) → (∀ (j : Nat) x, l[j]? = some x → p ≤ j → ¬ ordR x r < 0) → p = posR r l
  | [], p, hp, _, _ => by simp at hp; subst hp; rfl
  | x :: t, 0, hp, _, h2 => by
    unfold posR
    rw [if_neg (h2 0 x rfl (Nat.le_refl _))]
  | x :: t, p + 1, hp, h1, h2 => by
    unfold posR
    rw [if_pos (h1 0 x rfl (by omega)), ← posR_unique (l := t) (p := p) (by simp at hp; exact hp) (fun j y hy hj => h1 (j + 1) y (by simpa using hy) (by omega)) (fun j y hy hj => h2 (j + 1) y (by simpa using hy) (by omega))]
/-- the one of r's group and key, if there is one -/
def lkR (l : List Rt) (r : Rt) : Option Rt :=
  match l[posR r l]? with
  | some x => if ordR x r = 0 then some x else none
  | none => none
def insR (l : List Rt) (r : Rt) : List Rt := if (lkR l r).isSome then l.set (posR r l) r else l.take (posR r l) ++ [r] ++ l.drop (posR r l)
theorem lk_cons {x : Rt} {t : List Rt} {r : Rt} : lkR (x :: t) r = if ordR x r < 0 then lkR t r else if ordR x r = 0 then some x else none := by
  unfold lkR
  by_cases h : ordR x r < 0
  · rw [show posR r (x :: t) = posR r t + 1 by rw [posR, if_pos h], if_pos h]; simp
  · rw [show posR r (x :: t) = 0 by rw [posR, if_neg h], if_neg h]; simp
theorem ins_cons {x : Rt} {t : List Rt} {r : Rt} : insR (x :: t) r = if ordR x r < 0 then x :: insR t r else if ordR x r = 0 then r :: t else r :: x :: t := by
  unfold insR
  rw [lk_cons]
  by_cases h : ordR x r < 0
  · rw [show posR r (x :: t) = posR r t + 1 by rw [posR, if_pos h], if_pos h, if_pos h]
    by_cases h2 : (lkR t r).isSome
    · rw [if_pos h2, if_pos h2]; rfl
    · rw [if_neg h2, if_neg h2]; rfl
  · rw [show posR r (x :: t) = 0 by rw [posR, if_neg h], if_neg h, if_neg h]
    by_cases h2 : ordR x r = 0
    · rw [if_pos h2, if_pos h2]; rfl
    · rw [if_neg h2, if_neg h2]; rfl
theorem filt_all {p : Rt → Bool} {l : List Rt} (h : ∀ x ∈ l, p x = true) : l.filter p = l := List.filter_eq_self.2 h
theorem filt_none {p : Rt → Bool} {l : List Rt} (h : ∀ x ∈ l, p x = false) : l.filter p = [] := List.filter_eq_nil_iff.2 fun x hx => by rw [h x hx]; simp
/-- as the document puts it: what stands ahead, the right, what stands behind -/
theorem put_eq {r : Rt} : ∀ {l : List Rt}, Led l → insR l r = l.filter (fun x => decide (ordR x r < 0)) ++ r :: l.filter (fun x => decide (ordR r x < 0))
  | [], _ => rfl
  | x :: t, h => by
    obtain ⟨h1, h2, h3⟩ := led_cons h
    rw [ins_cons, List.filter_cons, List.filter_cons]
    by_cases a : ordR x r < 0
    · have b : ¬ ordR r x < 0 := by rw [ord_swap x r]; omega
      rw [if_pos a, decide_eq_true a, decide_eq_false b, put_eq h3]; rfl
    · rw [if_neg a, decide_eq_false a]
      have up : ∀ y ∈ t, ordR r y < 0 := fun y hy => by
        by_cases e : ordR x r = 0
        · rw [← (ord_congr (ord_zero.1 e).1 (ord_zero.1 e).2 (c := y)).1]; exact h2 y hy
        · exact ord_trans (by rw [ord_swap x r]; omega) (h2 y hy)
      have f1 : t.filter (fun x => decide (ordR x r < 0)) = [] := filt_none fun y hy => decide_eq_false (by have := up y hy; rw [ord_swap r y]; omega)
      have f2 : t.filter (fun x => decide (ordR r x < 0)) = t := filt_all fun y hy => decide_eq_true (up y hy)
      rw [f1, f2]
      by_cases e : ordR x r = 0
      · rw [if_pos e, decide_eq_false (by rw [ord_swap x r]; omega)]; rfl
      · rw [if_neg e, decide_eq_true (by rw [ord_swap x r]; omega)]; rfl
theorem led_ins {r : Rt} (hr : mayB r = true) : ∀ {l : List Rt}, Led l → Led (insR l r)
  | [], _ => ⟨fun x hx => by simp [insR, lkR] at hx; subst hx; exact hr, by simp [insR, lkR]⟩
  | x :: t, h => by
    obtain ⟨h1, h2, h3⟩ := led_cons h
    have ih := led_ins hr h3
    have sub : ∀ y ∈ insR t r, y = r ∨ y ∈ t := fun y hy => by
      rw [put_eq h3] at hy
      simp at hy
      rcases hy with hy | hy | hy
      · exact .inr hy.1
      · exact .inl hy
      · exact .inr hy.1
    rw [ins_cons]
    by_cases a : ordR x r < 0
    · rw [if_pos a]
      refine ⟨fun y hy => ?_, List.pairwise_cons.2 ⟨fun y hy => ?_, ih.2⟩⟩
      · rcases List.mem_cons.1 hy with rfl | hy
        · exact h1
        · exact ih.1 y hy
      · rcases sub y hy with rfl | hy
        · exact a
        · exact h2 y hy
    · rw [if_neg a]
      have up : ∀ y ∈ t, ordR r y < 0 := fun y hy => by
        by_cases e : ordR x r = 0
        · rw [← (ord_congr (ord_zero.1 e).1 (ord_zero.1 e).2 (c := y)).1]; exact h2 y hy
        · exact ord_trans (by rw [ord_swap x r]; omega) (h2 y hy)
      by_cases e : ordR x r = 0
      · rw [if_pos e]
        exact ⟨fun y hy => by rcases List.mem_cons.1 hy with rfl | hy <;> first | exact hr | exact h3.1 y hy, List.pairwise_cons.2 ⟨up, h3.2⟩⟩
      · rw [if_neg e]
        refine ⟨fun y hy => ?_, List.pairwise_cons.2 ⟨fun y hy => ?_, h.2⟩⟩
        · rcases List.mem_cons.1 hy with rfl | hy
          · exact hr
          · exact h.1 y hy
        · rcases List.mem_cons.1 hy with rfl | hy
          · show ordR r y < 0
            rw [ord_swap y r]; omega
          · exact up y hy
/-- what was spent of a lease -/
def unR (r : Rt) : Rt := { r with nt := 0 }
def findR (l : List Rt) (f : Rt) : Rt := match lkR l f with | some x => if unR x = f then x else f | none => f
def isL (g : Int) (k : ByteArray) (ls : Int) (x : Rt) : Bool := decide (x.g = g) && decide (x.k = k) && decide (x.ls = ls)
def frR (g : Int) (k : ByteArray) (ls : Int) : Rt := ⟨g, k, ls, 0⟩
def netL (l : List Rt) (g : Int) (k : ByteArray) (ls : Int) : Int := match l.find? (isL g k ls) with | some x => x.nt | none => 0
theorem un_eq {x : Rt} {g ls : Int} {k : ByteArray} : unR x = frR g k ls ↔ isL g k ls x = true := by
  obtain ⟨a, b, c, d⟩ := x
  simp [unR, frR, isL, and_assoc]
theorem find_cons' {x : Rt} {t : List Rt} {f : Rt} : findR (x :: t) f = if ordR x f < 0 then findR t f else if unR x = f then x else f := by
  unfold findR
  rw [lk_cons]
  by_cases h : ordR x f < 0
  · rw [if_pos h, if_pos h]
  · rw [if_neg h, if_neg h]
    by_cases h2 : ordR x f = 0
    · rw [if_pos h2]
    · rw [if_neg h2]
      have : ¬ unR x = f := fun e => h2 (by subst e; exact ord_zero.2 ⟨rfl, rfl⟩)
      rw [if_neg this]
theorem find_eq {g ls : Int} {k : ByteArray} : ∀ {l : List Rt}, Led l → findR l (frR g k ls) = ⟨g, k, ls, netL l g k ls⟩
  | [], _ => rfl
  | x :: t, h => by
    obtain ⟨h1, h2, h3⟩ := led_cons h
    rw [find_cons']
    unfold netL
    rw [List.find?_cons]
    by_cases e : unR x = frR g k ls
    · have e0 : ¬ ordR x (frR g k ls) < 0 := by
        have : ordR x (frR g k ls) = 0 := ord_zero.2 (by rw [← e]; exact ⟨rfl, rfl⟩)
        omega
      rw [if_neg e0, if_pos e, un_eq.1 e]
      obtain ⟨a, b, c, d⟩ := x
      simp [unR, frR] at e
      obtain ⟨rfl, rfl, rfl⟩ := e
      rfl
    · have e1 : isL g k ls x = false := by
        cases hh : isL g k ls x
        · rfl
        · exact absurd (un_eq.2 hh) e
      rw [e1, if_neg e]
      by_cases a : ordR x (frR g k ls) < 0
      · rw [if_pos a, find_eq h3]; rfl
      · rw [if_neg a]
        have : t.find? (isL g k ls) = none := by
          rw [List.find?_eq_none]
          intro y hy hl
          have e2 := un_eq.2 hl
          have e3 : ordR y (frR g k ls) = 0 := ord_zero.2 (by rw [← e2]; exact ⟨rfl, rfl⟩)
          have e4 := h2 y hy
          rw [(ord_congr (ord_zero.1 e3).1 (ord_zero.1 e3).2 (c := x)).2] at e4
          exact a e4
        rw [this]; rfl
def netV (l : List Rt) (g : Int) (k : ByteArray) (ls : Int) : Int := if ledB l = true then netL l g k ls else 0
theorem led_iff {l : List Rt} : ledB l = true ↔ Led l := by unfold ledB; exact decide_eq_true_iff
theorem find_ins {r : Rt} {g ls : Int} {k : ByteArray} : ∀ {l : List Rt}, Led l → (insR l r).find? (isL g k ls) = if r.g = g ∧ r.k = k then (if r.ls = ls then some r else none) else l.find? (isL g k ls)
  | [], _ => by
    simp only [insR, lkR, posR, List.getElem?_nil, Option.isSome_none, Bool.false_eq_true, if_false, List.take_nil, List.nil_append, List.drop_nil, List.append_nil, List.find?_cons, List.find?_nil, isL]
    by_cases a : r.g = g ∧ r.k = k
    · rw [if_pos a, decide_eq_true a.1, decide_eq_true a.2]
      by_cases b : r.ls = ls <;> simp [b]
    · rw [if_neg a]
      by_cases c : r.g = g
      · have d : ¬ r.k = k := fun d => a ⟨c, d⟩
        simp [d]
      · simp [c]
  | x :: t, h => by
    obtain ⟨h1, h2, h3⟩ := led_cons h
    have ih := find_ins (r := r) (g := g) (ls := ls) (k := k) h3
    rw [ins_cons, List.find?_cons (p := isL g k ls) (a := x)]
    have rself : (r.g = g ∧ r.k = k) → isL g k ls r = decide (r.ls = ls) := fun e => by unfold isL; rw [decide_eq_true e.1, decide_eq_true e.2]; rfl
    have rnot : ¬ (r.g = g ∧ r.k = k) → isL g k ls r = false := fun e => by
      unfold isL
      by_cases c : r.g = g
      · rw [decide_eq_false (fun d => e ⟨c, d⟩)]; simp
      · rw [decide_eq_false c]; simp
    have tnone : (∀ y ∈ t, ¬ (y.g = g ∧ y.k = k)) → t.find? (isL g k ls) = none := fun e => by
      rw [List.find?_eq_none]
      intro y hy hl
      unfold isL at hl
      simp at hl
      exact e y hy ⟨hl.1.1, hl.1.2⟩
    by_cases a : ordR x r < 0
    · rw [if_pos a, List.find?_cons, ih]
      by_cases b : r.g = g ∧ r.k = k
      · rw [if_pos b]
        have c : isL g k ls x = false := by
          unfold isL
          by_cases c1 : x.g = g
          · have : ¬ x.k = k := fun c2 => by
              have : ordR x r = 0 := ord_zero.2 ⟨by rw [c1, b.1], by rw [c2, b.2]⟩
              omega
            rw [decide_eq_false this]; simp
          · rw [decide_eq_false c1]; simp
        rw [c]
        rw [if_pos b]
      · rw [if_neg b, if_neg b]
    · rw [if_neg a]
      by_cases e : ordR x r = 0
      · obtain ⟨e1, e2⟩ := ord_zero.1 e
        rw [if_pos e, List.find?_cons]
        by_cases b : r.g = g ∧ r.k = k
        · rw [if_pos b, rself b]
          by_cases c : r.ls = ls
          · rw [decide_eq_true c, if_pos c]
          · rw [decide_eq_false c, if_neg c]
            apply tnone
            intro y hy ⟨y1, y2⟩
            have := h2 y hy
            rw [ord_zero.2 ⟨by rw [e1, b.1, y1], by rw [e2, b.2, y2]⟩] at this
            omega
        · rw [if_neg b, rnot b]
          have c : isL g k ls x = false := by
            unfold isL
            by_cases c1 : x.g = g
            · rw [decide_eq_false (fun c2 : x.k = k => b ⟨by rw [← e1, c1], by rw [← e2, c2]⟩)]; simp
            · rw [decide_eq_false c1]; simp
          rw [c]
      · rw [if_neg e, List.find?_cons]
        have lt : ordR r x < 0 := by rw [ord_swap x r]; omega
        by_cases b : r.g = g ∧ r.k = k
        · rw [if_pos b, rself b]
          by_cases c : r.ls = ls
          · rw [decide_eq_true c, if_pos c]
          · rw [decide_eq_false c, if_neg c]
            have ne : ∀ y ∈ x :: t, ¬ (y.g = g ∧ y.k = k) := fun y hy ⟨y1, y2⟩ => by
              have : ordR r y < 0 := by
                rcases List.mem_cons.1 hy with rfl | hy
                · exact lt
                · exact ord_trans lt (h2 y hy)
              rw [ord_zero.2 ⟨by rw [b.1, y1], by rw [b.2, y2]⟩] at this
              omega
            have f : (x :: t).find? (isL g k ls) = none := by
              rw [List.find?_eq_none]
              intro y hy hl
              unfold isL at hl
              simp at hl
              exact ne y hy ⟨hl.1.1, hl.1.2⟩
            exact f
        · rw [if_neg b, rnot b]
          exact (List.find?_cons ..)
theorem net_ins {l : List Rt} {r : Rt} (h : Led l) (g : Int) (k : ByteArray) (ls : Int) : netL (insR l r) g k ls = if r.g = g ∧ r.k = k then (if r.ls = ls then r.nt else 0) else netL l g k ls := by
  unfold netL
  rw [find_ins h]
  by_cases a : r.g = g ∧ r.k = k
  · rw [if_pos a, if_pos a]
    by_cases b : r.ls = ls
    · rw [if_pos b, if_pos b]
    · rw [if_neg b, if_neg b]
  · rw [if_neg a, if_neg a]
end Lg
end Go.Proofs.Ytjcbhgkfbilifab
