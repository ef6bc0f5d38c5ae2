/- Accounts as plain values: which are right, what each call makes of one, and that a right one stays right. No program, no condition. -/
import Derived.Test.YtjcbhgkfbilifabBase
namespace Go.Proofs.Ytjcbhgkfbilifab
namespace Ao
set_option linter.unusedVariables false

structure Hd where
  nd : Int
  ls : Int
  up : Int
  dn : Int
deriving DecidableEq
structure Lk where
  c : Int
  s : Int
  h : Int
  n : Int
deriving DecidableEq
structure Ac where
  key : ByteArray
  lo : Int
  hi : Int
  base : Int
  rd : Int
  hs : List Hd
  lk : Lk
def hd0 : Hd := ⟨0, 0, 0, 0⟩
def lk0 : Lk := ⟨0, 0, 0, 0⟩
def ac0 : Ac := ⟨⟨#[]⟩, 0, 0, 0, 0, [], lk0⟩
def ups : List Hd → Int
  | [] => 0
  | h :: r => h.up + ups r
def downs : List Hd → Int
  | [] => 0
  | h :: r => h.dn + downs r
def hdB (h : Hd) : Bool := decide (h.nd ≤ 5 ∧ 1 ≤ h.ls ∧ 0 ≤ h.up ∧ 0 ≤ h.dn)
def hsB : Int → List Hd → Bool
  | _, [] => true
  | b, h :: r => decide (b < h.nd) && hdB h && hsB h.nd r
def lockB (l : Lk) : Bool := decide (1 ≤ l.c ∧ 1 ≤ l.s ∧ 1 ≤ l.h ∧ l.h < 8)
def keyB (k : ByteArray) : Bool := decide (1 ≤ k.size ∧ k.size ≤ 16)
def numB (n : Int) : Bool := decide (1 ≤ n ∧ n ≤ 4611686018427387904)
def lkB (a : Ac) : Bool := if a.lk.c = 0 then decide (a.lk = lk0) else lockB a.lk && a.hs.isEmpty && decide (a.lo ≤ a.base + a.lk.n ∧ a.base + a.lk.n ≤ a.hi)
def rightB (a : Ac) : Bool := keyB a.key && decide (a.lo ≤ a.base ∧ a.base ≤ a.hi) && decide (0 ≤ a.rd) && hsB 0 a.hs && decide (a.base + ups a.hs ≤ a.hi) && decide (a.lo ≤ a.base - downs a.hs) && lkB a
/-- a right account, said in words -/
structure Right (a : Ac) : Prop where
  key : keyB a.key = true
  base : a.lo ≤ a.base ∧ a.base ≤ a.hi
  rd : 0 ≤ a.rd
  hs : hsB 0 a.hs = true
  up : a.base + ups a.hs ≤ a.hi
  dn : a.lo ≤ a.base - downs a.hs
  lk : lkB a = true
theorem right_iff (a : Ac) : rightB a = true ↔ Right a := by
  unfold rightB
  simp only [Bool.and_eq_true, decide_eq_true_eq]
  constructor
  · rintro ⟨⟨⟨⟨⟨⟨h1, h2⟩, h3⟩, h4⟩, h5⟩, h6⟩, h7⟩
    exact ⟨h1, h2, h3, h4, h5, h6, h7⟩
  · rintro ⟨h1, h2, h3, h4, h5, h6, h7⟩
    exact ⟨⟨⟨⟨⟨⟨h1, h2⟩, h3⟩, h4⟩, h5⟩, h6⟩, h7⟩
theorem hs_cons {b : Int} {h : Hd} {r : List Hd} (g : hsB b (h :: r) = true) : b < h.nd ∧ hdB h = true ∧ hsB h.nd r = true := by
  simp [hsB] at g
  exact ⟨g.1.1, g.1.2, g.2⟩
theorem hd_facts {h : Hd} (g : hdB h = true) : h.nd ≤ 5 ∧ 1 ≤ h.ls ∧ 0 ≤ h.up ∧ 0 ≤ h.dn := by simpa [hdB] using g
theorem hs_low {b b' : Int} : ∀ {l : List Hd}, hsB b l = true → b' ≤ b → hsB b' l = true
  | [], _, _ => rfl
  | h :: r, g, hb => by
    obtain ⟨h1, h2, h3⟩ := hs_cons g
    simp [hsB, h2, h3]
    omega
theorem hs_mem {b : Int} : ∀ {l : List Hd}, hsB b l = true → ∀ h ∈ l, b < h.nd ∧ hdB h = true
  | [], _, h, hm => by simp at hm
  | x :: r, g, h, hm => by
    obtain ⟨h1, h2, h3⟩ := hs_cons g
    rcases List.mem_cons.1 hm with rfl | hm
    · exact ⟨h1, h2⟩
    · obtain ⟨h4, h5⟩ := hs_mem h3 h hm
      exact ⟨by omega, h5⟩
theorem hs_length {b : Int} : ∀ {l : List Hd}, hsB b l = true → (l.length : Int) ≤ max 0 (5 - b)
  | [], _ => by simp; omega
  | x :: r, g => by
    obtain ⟨h1, h2, h3⟩ := hs_cons g
    have := hs_length h3
    have := (hd_facts h2).1
    simp only [List.length_cons]
    push_cast
    omega
theorem ups_nonneg {b : Int} : ∀ {l : List Hd}, hsB b l = true → 0 ≤ ups l ∧ 0 ≤ downs l
  | [], _ => ⟨Int.le_refl _, Int.le_refl _⟩
  | x :: r, g => by
    obtain ⟨h1, h2, h3⟩ := hs_cons g
    have := ups_nonneg h3
    have := hd_facts h2
    show 0 ≤ x.up + ups r ∧ 0 ≤ x.dn + downs r
    omega
def findH (l : List Hd) (n : Int) : Option Hd := l.find? (fun h => h.nd == n)
theorem find_cons (x : Hd) (r : List Hd) (n : Int) : findH (x :: r) n = if x.nd = n then some x else findH r n := by
  unfold findH
  rw [List.find?_cons]
  by_cases h : x.nd = n
  · simp [h]
  · have h2 : (x.nd == n) = false := by simp [h]
    rw [h2, if_neg h]
theorem find_mem {l : List Hd} {n : Int} {h : Hd} (g : findH l n = some h) : h ∈ l ∧ h.nd = n := ⟨List.mem_of_find?_eq_some g, by simpa using List.find?_some g⟩
theorem find_low {b n : Int} : ∀ {l : List Hd}, hsB b l = true → n ≤ b → findH l n = none
  | l, g, hn => by
    unfold findH
    rw [List.find?_eq_none]
    intro x hx
    have := (hs_mem g x hx).1
    simp; omega
/-- the holders but a node's; with one that is put in its place -/
def dropH (l : List Hd) (n : Int) : List Hd := l.filter (fun h => !decide (h.nd = n))
def insH (h : Hd) : List Hd → List Hd
  | [] => [h]
  | x :: r => if x.nd < h.nd then x :: insH h r else if x.nd = h.nd then h :: r else h :: x :: r
theorem hs_ins {h : Hd} (hh : hdB h = true) : ∀ {l : List Hd} {b : Int}, hsB b l = true → b < h.nd → hsB b (insH h l) = true
  | [], b, _, hb => by simp [insH, hsB, hh, hb]
  | x :: r, b, g, hb => by
    obtain ⟨h1, h2, h3⟩ := hs_cons g
    unfold insH
    by_cases e : x.nd < h.nd
    · rw [if_pos e]
      simp [hsB, h1, h2, hs_ins hh h3 e]
    · rw [if_neg e]
      by_cases e2 : x.nd = h.nd
      · rw [if_pos e2]
        simp [hsB, hh, hb]
        rw [← e2]; exact h3
      · rw [if_neg e2]
        simp [hsB, hh, hb, h2, h3]
        omega
theorem find_ins {h : Hd} : ∀ {l : List Hd} {b : Int}, hsB b l = true → ∀ n, findH (insH h l) n = if n = h.nd then some h else findH l n
  | [], b, _, n => by
    show findH [h] n = _
    rw [find_cons]
    by_cases e : h.nd = n
    · rw [if_pos e, if_pos e.symm]
    · rw [if_neg e, if_neg fun h => e h.symm]
  | x :: r, b, g, n => by
    obtain ⟨h1, h2, h3⟩ := hs_cons g
    unfold insH
    by_cases e : x.nd < h.nd
    · rw [if_pos e, find_cons, find_cons, find_ins h3 n]
      by_cases e3 : x.nd = n
      · rw [if_pos e3, if_neg (by omega), if_pos e3]
      · rw [if_neg e3, if_neg e3]
    · rw [if_neg e]
      by_cases e2 : x.nd = h.nd
      · rw [if_pos e2, find_cons, find_cons]
        by_cases e3 : h.nd = n
        · rw [if_pos e3, if_pos e3.symm]
        · rw [if_neg e3, if_neg (show ¬ n = h.nd from fun h => e3 h.symm), if_neg (by omega)]
      · rw [if_neg e2, find_cons h]
        by_cases e3 : h.nd = n
        · rw [if_pos e3, if_pos e3.symm]
        · rw [if_neg e3, if_neg (fun h => e3 h.symm)]
def upOf (o : Option Hd) : Int := match o with | some h => h.up | none => 0
def dnOf (o : Option Hd) : Int := match o with | some h => h.dn | none => 0
theorem sums_ins {h : Hd} : ∀ {l : List Hd} {b : Int}, hsB b l = true → ups (insH h l) = ups l - upOf (findH l h.nd) + h.up ∧ downs (insH h l) = downs l - dnOf (findH l h.nd) + h.dn
  | [], b, _ => by simp [insH, ups, downs, findH, upOf, dnOf]
  | x :: r, b, g => by
    obtain ⟨h1, h2, h3⟩ := hs_cons g
    rw [find_cons]
    unfold insH
    by_cases e : x.nd < h.nd
    · rw [if_pos e, if_neg (by omega)]
      obtain ⟨i1, i2⟩ := sums_ins (h := h) h3
      show x.up + ups _ = x.up + ups r - _ + _ ∧ x.dn + downs _ = x.dn + downs r - _ + _
      omega
    · rw [if_neg e]
      by_cases e2 : x.nd = h.nd
      · rw [if_pos e2, if_pos e2]
        show h.up + ups r = x.up + ups r - x.up + h.up ∧ h.dn + downs r = x.dn + downs r - x.dn + h.dn
        omega
      · rw [if_neg e2, if_neg e2, find_low h3 (by omega)]
        show h.up + (x.up + ups r) = x.up + ups r - 0 + h.up ∧ h.dn + (x.dn + downs r) = x.dn + downs r - 0 + h.dn
        omega
theorem drop_cons (x : Hd) (r : List Hd) (n : Int) : dropH (x :: r) n = if x.nd = n then dropH r n else x :: dropH r n := by
  unfold dropH
  by_cases e : x.nd = n <;> simp [e]
theorem hs_drop (n : Int) : ∀ {l : List Hd} {b : Int}, hsB b l = true → hsB b (dropH l n) = true
  | [], b, _ => rfl
  | x :: r, b, g => by
    obtain ⟨h1, h2, h3⟩ := hs_cons g
    rw [drop_cons]
    by_cases e : x.nd = n
    · rw [if_pos e]
      exact hs_low (hs_drop n h3) (by omega)
    · rw [if_neg e]
      simp [hsB, h1, h2, hs_drop n h3]
theorem drop_none {n : Int} : ∀ {l : List Hd}, findH l n = none → dropH l n = l
  | [], _ => rfl
  | x :: r, h => by
    rw [find_cons] at h
    have e : ¬ x.nd = n := fun e => by rw [if_pos e] at h; cases h
    rw [if_neg e] at h
    rw [drop_cons, if_neg e, drop_none h]
theorem find_drop (n : Int) : ∀ {l : List Hd} {b : Int}, hsB b l = true → ∀ m, findH (dropH l n) m = if m = n then none else findH l m
  | [], b, _, m => by simp [dropH, findH]
  | x :: r, b, g, m => by
    obtain ⟨h1, h2, h3⟩ := hs_cons g
    rw [drop_cons, find_cons]
    by_cases e : x.nd = n
    · rw [if_pos e, find_drop n h3]
      by_cases e2 : m = n
      · rw [if_pos e2, if_pos e2]
      · rw [if_neg e2, if_neg e2, if_neg (by omega)]
    · rw [if_neg e, find_cons, find_drop n h3]
      by_cases e2 : x.nd = m
      · rw [if_pos e2, if_neg (by omega), if_pos e2]
      · rw [if_neg e2, if_neg e2]
theorem sums_drop (n : Int) : ∀ {l : List Hd} {b : Int}, hsB b l = true → ups (dropH l n) = ups l - upOf (findH l n) ∧ downs (dropH l n) = downs l - dnOf (findH l n)
  | [], b, _ => by simp [dropH, ups, downs, findH, upOf, dnOf]
  | x :: r, b, g => by
    obtain ⟨h1, h2, h3⟩ := hs_cons g
    rw [drop_cons, find_cons]
    by_cases e : x.nd = n
    · rw [if_pos e, if_pos e, drop_none (find_low h3 (by omega))]
      show ups r = x.up + ups r - x.up ∧ downs r = x.dn + downs r - x.dn
      omega
    · rw [if_neg e, if_neg e]
      obtain ⟨i1, i2⟩ := sums_drop n h3
      show x.up + ups _ = x.up + ups r - _ ∧ x.dn + downs _ = x.dn + downs r - _
      omega
/-- the room: how much it may fall, and rise -/
def downR (a : Ac) : Int := if rightB a = true ∧ a.lk.c = 0 then a.base - downs a.hs - a.lo else 0
def upR (a : Ac) : Int := if rightB a = true ∧ a.lk.c = 0 then a.hi - (a.base + ups a.hs) else 0
theorem room_nonneg (a : Ac) : 0 ≤ downR a ∧ 0 ≤ upR a := by
  unfold downR upR
  by_cases h : rightB a = true ∧ a.lk.c = 0
  · rw [if_pos h, if_pos h]
    have := ((right_iff a).1 h.1).up
    have := ((right_iff a).1 h.1).dn
    omega
  · rw [if_neg h, if_neg h]
    exact ⟨Int.le_refl _, Int.le_refl _⟩
/-- what each call answers, and makes -/
def totalB (a : Ac) : Bool := rightB a && a.hs.isEmpty && decide (a.lk.c = 0)
def addE (a : Ac) (n : Int) : Int := if rightB a then (if n = 0 then 1 else if a.lk.c = 0 then (if (0 < n ∧ upR a < n) ∨ (n < 0 ∧ downR a < -n) then 150 else 0) else 152) else 21
def addA (a : Ac) (n : Int) : Ac := if addE a n = 0 then { a with base := a.base + n } else ac0
def shareI (v nodes : Int) : Int := v / (nodes + 1)
def moreI (n v : Int) : Int := n + min v (9223372036854775807 - n)
def grantE (a : Ac) (node lease nodes : Int) : Int := if rightB a then (if 1 ≤ nodes ∧ nodes ≤ 5 ∧ 1 ≤ node ∧ node ≤ nodes ∧ numB lease = true then (if a.rd = 0 ∧ a.lk.c = 0 then 0 else 152) else 1) else 21
def grantH (a : Ac) (node lease nodes : Int) : Hd :=
  ⟨node, match findH a.hs node with | some h => h.ls | none => lease, moreI (upOf (findH a.hs node)) (shareI (upR a) nodes), moreI (dnOf (findH a.hs node)) (shareI (downR a) nodes)⟩
def grantA (a : Ac) (node lease nodes : Int) : Ac := if grantE a node lease nodes = 0 then { a with hs := insH (grantH a node lease nodes) a.hs } else ac0
def freezeE (a : Ac) (r : Int) : Int := if rightB a then (if numB r then 0 else 1) else 21
def freezeA (a : Ac) (r : Int) : Ac := if freezeE a r = 0 then (if a.rd = 0 then { a with rd := r } else a) else ac0
def thawE (a : Ac) : Int := if rightB a then 0 else 21
def thawA (a : Ac) : Ac := if thawE a = 0 then { a with rd := 0 } else ac0
def reportE (a : Ac) (node lease r net : Int) : Int :=
  if rightB a then (match findH a.hs node with
    | none => 151
    | some h => if h.ls = lease then (if a.rd = 0 ∨ ¬ a.rd = r then 152 else if h.up < net ∨ h.dn + net < 0 then 150 else 0) else 151) else 21
def reportA (a : Ac) (node lease r net : Int) : Ac := if reportE a node lease r net = 0 then { a with base := a.base + net, hs := dropH a.hs node } else ac0
def boundsE (a : Ac) (lo hi : Int) : Int := if rightB a then (if totalB a then (if lo ≤ a.base ∧ a.base ≤ hi then 0 else 150) else 152) else 21
def boundsA (a : Ac) (lo hi : Int) : Ac := if boundsE a lo hi = 0 then { a with lo := lo, hi := hi } else ac0
def takeE (a : Ac) (l : Lk) : Int := if rightB a then (if lockB l then (if totalB a then (if a.lo ≤ a.base + l.n ∧ a.base + l.n ≤ a.hi then 0 else 150) else 152) else 1) else 21
def takeA (a : Ac) (l : Lk) : Ac := if takeE a l = 0 then { a with lk := l } else ac0
def freeE (a : Ac) : Int := if rightB a then (if a.lk.c = 0 then 60 else 0) else 21
def freeA (a : Ac) (commit : Bool) : Ac := if freeE a = 0 then { a with base := if commit then a.base + a.lk.n else a.base, lk := lk0 } else ac0

theorem lk_plain {a : Ac} (h : Right a) (h0 : a.lk.c = 0) : a.lk = lk0 := by
  have := h.lk
  unfold lkB at this
  rw [if_pos h0] at this
  simpa using this
theorem lkB_plain {a : Ac} (h : a.lk = lk0) : lkB a = true := by
  unfold lkB
  rw [h]
  rfl
theorem lk_locked {a : Ac} (h : Right a) (h0 : ¬ a.lk.c = 0) : lockB a.lk = true ∧ a.hs = [] ∧ a.lo ≤ a.base + a.lk.n ∧ a.base + a.lk.n ≤ a.hi := by
  have := h.lk
  unfold lkB at this
  rw [if_neg h0] at this
  simp only [Bool.and_eq_true, decide_eq_true_eq, List.isEmpty_iff] at this
  exact ⟨this.1.1, this.1.2, this.2.1, this.2.2⟩
theorem add_ok {a : Ac} {n : Int} (h : addE a n = 0) : Right a ∧ ¬ n = 0 ∧ a.lk.c = 0 ∧ ¬ ((0 < n ∧ a.hi - (a.base + ups a.hs) < n) ∨ (n < 0 ∧ a.base - downs a.hs - a.lo < -n)) := by
  unfold addE at h
  by_cases hr : rightB a = true
  · rw [if_pos hr] at h
    by_cases hn : n = 0
    · rw [if_pos hn] at h; cases h
    · rw [if_neg hn] at h
      by_cases hl : a.lk.c = 0
      · rw [if_pos hl] at h
        have e1 : upR a = a.hi - (a.base + ups a.hs) := by unfold upR; rw [if_pos ⟨hr, hl⟩]
        have e2 : downR a = a.base - downs a.hs - a.lo := by unfold downR; rw [if_pos ⟨hr, hl⟩]
        rw [e1, e2] at h
        refine ⟨(right_iff a).1 hr, hn, hl, fun hh => ?_⟩
        rw [if_pos hh] at h
        cases h
      · rw [if_neg hl] at h; cases h
  · rw [if_neg hr] at h; cases h
theorem right_add {a : Ac} {n : Int} (h : addE a n = 0) : Right (addA a n) := by
  obtain ⟨hr, hn, hl, hb⟩ := add_ok h
  have hu := ups_nonneg hr.hs
  have h1 := hr.base
  have h2 := hr.up
  have h3 := hr.dn
  have hk0 := lk_plain hr hl
  unfold addA
  rw [if_pos h]
  exact ⟨hr.key, ⟨by show a.lo ≤ a.base + n; omega, by show a.base + n ≤ a.hi; omega⟩, hr.rd, hr.hs, by show a.base + n + ups a.hs ≤ a.hi; omega, by show a.lo ≤ a.base + n - downs a.hs; omega, lkB_plain hk0⟩
theorem share_le {v nodes : Int} (hv : 0 ≤ v) (hn : 1 ≤ nodes) : 0 ≤ shareI v nodes ∧ shareI v nodes ≤ v := by
  unfold shareI
  constructor
  · exact Int.ediv_nonneg hv (by omega)
  · exact Int.ediv_le_self _ hv
theorem more_le {n v : Int} (hv : 0 ≤ v) (hn : n ≤ 9223372036854775807) : n ≤ moreI n v ∧ moreI n v ≤ n + v ∧ moreI n v ≤ 9223372036854775807 := by
  unfold moreI
  omega
theorem grant_ok {a : Ac} {node lease nodes : Int} (h : grantE a node lease nodes = 0) : Right a ∧ 1 ≤ nodes ∧ nodes ≤ 5 ∧ 1 ≤ node ∧ node ≤ nodes ∧ numB lease = true ∧ a.rd = 0 ∧ a.lk.c = 0 := by
  unfold grantE at h
  by_cases hr : rightB a = true
  · rw [if_pos hr] at h
    by_cases hn : 1 ≤ nodes ∧ nodes ≤ 5 ∧ 1 ≤ node ∧ node ≤ nodes ∧ numB lease = true
    · rw [if_pos hn] at h
      by_cases hl : a.rd = 0 ∧ a.lk.c = 0
      · exact ⟨(right_iff a).1 hr, hn.1, hn.2.1, hn.2.2.1, hn.2.2.2.1, hn.2.2.2.2, hl.1, hl.2⟩
      · rw [if_neg hl] at h; cases h
    · rw [if_neg hn] at h; cases h
  · rw [if_neg hr] at h; cases h
/-- no Up and no Down is above what an int has -/
def Small (a : Ac) : Prop := ∀ h ∈ a.hs, h.up ≤ 9223372036854775807 ∧ h.dn ≤ 9223372036854775807
theorem of_small {a : Ac} (hs : Small a) (n : Int) : upOf (findH a.hs n) ≤ 9223372036854775807 ∧ dnOf (findH a.hs n) ≤ 9223372036854775807 := by
  cases e : findH a.hs n with
  | none => exact ⟨by simp [upOf], by simp [dnOf]⟩
  | some h => exact hs h (find_mem e).1
theorem of_nonneg {a : Ac} (hr : Right a) (n : Int) : 0 ≤ upOf (findH a.hs n) ∧ 0 ≤ dnOf (findH a.hs n) := by
  cases e : findH a.hs n with
  | none => exact ⟨Int.le_refl _, Int.le_refl _⟩
  | some h =>
    have := hd_facts (hs_mem hr.hs h (find_mem e).1).2
    exact ⟨this.2.2.1, this.2.2.2⟩
theorem right_grant {a : Ac} {node lease nodes : Int} (h : grantE a node lease nodes = 0) (hsm : Small a) : Right (grantA a node lease nodes) := by
  obtain ⟨hr, h1, h2, h3, h4, h5, h6, h7⟩ := grant_ok h
  have hrb := (right_iff a).2 hr
  have e1 : upR a = a.hi - (a.base + ups a.hs) := by unfold upR; rw [if_pos ⟨hrb, h7⟩]
  have e2 : downR a = a.base - downs a.hs - a.lo := by unfold downR; rw [if_pos ⟨hrb, h7⟩]
  have hu := hr.up
  have hd := hr.dn
  have s1 := share_le (v := upR a) (nodes := nodes) (by omega) h1
  have s2 := share_le (v := downR a) (nodes := nodes) (by omega) h1
  have o1 := of_small hsm node
  have o2 := of_nonneg hr node
  have m1 := more_le s1.1 o1.1
  have m2 := more_le s2.1 o1.2
  have hl : 1 ≤ (grantH a node lease nodes).ls := by
    show 1 ≤ (match findH a.hs node with | some h => h.ls | none => lease)
    cases e : findH a.hs node with
    | none => simp [numB] at h5; exact h5.1
    | some z => exact (hd_facts (hs_mem hr.hs z (find_mem e).1).2).2.1
  have hhd : hdB (grantH a node lease nodes) = true := by
    unfold hdB
    rw [decide_eq_true]
    exact ⟨by show node ≤ 5; omega, hl, by show 0 ≤ moreI _ _; omega, by show 0 ≤ moreI _ _; omega⟩
  have hsum := sums_ins (h := grantH a node lease nodes) hr.hs
  have k1 : (grantH a node lease nodes).nd = node := rfl
  have k2 : (grantH a node lease nodes).up = moreI (upOf (findH a.hs node)) (shareI (upR a) nodes) := rfl
  have k3 : (grantH a node lease nodes).dn = moreI (dnOf (findH a.hs node)) (shareI (downR a) nodes) := rfl
  rw [k1, k2, k3] at hsum
  have hk0 := lk_plain hr h7
  unfold grantA
  rw [if_pos h]
  refine ⟨hr.key, hr.base, hr.rd, hs_ins hhd hr.hs (by show 0 < node; omega), ?_, ?_, lkB_plain hk0⟩
  · show a.base + ups (insH _ a.hs) ≤ a.hi
    omega
  · show a.lo ≤ a.base - downs (insH _ a.hs)
    omega
theorem freeze_ok {a : Ac} {r : Int} (h : freezeE a r = 0) : Right a ∧ numB r = true := by
  unfold freezeE at h
  by_cases hr : rightB a = true
  · rw [if_pos hr] at h
    by_cases hn : numB r = true
    · exact ⟨(right_iff a).1 hr, hn⟩
    · rw [if_neg hn] at h; cases h
  · rw [if_neg hr] at h; cases h
theorem right_freeze {a : Ac} {r : Int} (h : freezeE a r = 0) : Right (freezeA a r) := by
  obtain ⟨hr, hn⟩ := freeze_ok h
  unfold freezeA
  rw [if_pos h]
  by_cases h0 : a.rd = 0
  · rw [if_pos h0]
    exact ⟨hr.key, hr.base, by simp [numB] at hn; show 0 ≤ r; omega, hr.hs, hr.up, hr.dn, hr.lk⟩
  · rw [if_neg h0]; exact hr
theorem thaw_ok {a : Ac} (h : thawE a = 0) : Right a := by
  unfold thawE at h
  by_cases hr : rightB a = true
  · exact (right_iff a).1 hr
  · rw [if_neg hr] at h; cases h
theorem right_thaw {a : Ac} (h : thawE a = 0) : Right (thawA a) := by
  have hr := thaw_ok h
  unfold thawA
  rw [if_pos h]
  exact ⟨hr.key, hr.base, Int.le_refl _, hr.hs, hr.up, hr.dn, hr.lk⟩
theorem report_ok {a : Ac} {node lease r net : Int} (h : reportE a node lease r net = 0) : Right a ∧ ∃ x, findH a.hs node = some x ∧ x.ls = lease ∧ ¬ a.rd = 0 ∧ a.rd = r ∧ net ≤ x.up ∧ 0 ≤ x.dn + net := by
  unfold reportE at h
  by_cases hr : rightB a = true
  · rw [if_pos hr] at h
    refine ⟨(right_iff a).1 hr, ?_⟩
    cases e : findH a.hs node with
    | none => rw [e] at h; cases h
    | some x =>
      rw [e] at h
      simp only at h
      by_cases h1 : x.ls = lease
      · rw [if_pos h1] at h
        by_cases h2 : a.rd = 0 ∨ ¬ a.rd = r
        · rw [if_pos h2] at h; cases h
        · rw [if_neg h2] at h
          by_cases h3 : x.up < net ∨ x.dn + net < 0
          · rw [if_pos h3] at h; cases h
          · exact ⟨x, rfl, h1, by omega, by omega, by omega, by omega⟩
      · rw [if_neg h1] at h; cases h
  · rw [if_neg hr] at h; cases h
theorem right_report {a : Ac} {node lease r net : Int} (h : reportE a node lease r net = 0) : Right (reportA a node lease r net) := by
  obtain ⟨hr, x, hx, _, _, _, h3, h4⟩ := report_ok h
  have hs := sums_drop node hr.hs
  rw [hx] at hs
  have e1 : upOf (some x) = x.up := rfl
  have e2 : dnOf (some x) = x.dn := rfl
  rw [e1, e2] at hs
  have hu := hr.up
  have hd := hr.dn
  have hn := ups_nonneg (hs_drop node hr.hs)
  have hlk : a.lk.c = 0 := by
    by_cases h0 : a.lk.c = 0
    · exact h0
    · have := (lk_locked hr h0).2.1
      rw [this] at hx
      cases hx
  have hk0 := lk_plain hr hlk
  unfold reportA
  rw [if_pos h]
  exact ⟨hr.key, ⟨by show a.lo ≤ a.base + net; omega, by show a.base + net ≤ a.hi; omega⟩, hr.rd, hs_drop node hr.hs, by show a.base + net + ups (dropH a.hs node) ≤ a.hi; omega, by show a.lo ≤ a.base + net - downs (dropH a.hs node); omega, lkB_plain hk0⟩
theorem total_ok {a : Ac} (h : totalB a = true) : Right a ∧ a.hs = [] ∧ a.lk.c = 0 := by
  unfold totalB at h
  simp only [Bool.and_eq_true, decide_eq_true_eq, List.isEmpty_iff] at h
  exact ⟨(right_iff a).1 h.1.1, h.1.2, h.2⟩
theorem bounds_ok {a : Ac} {lo hi : Int} (h : boundsE a lo hi = 0) : totalB a = true ∧ lo ≤ a.base ∧ a.base ≤ hi := by
  unfold boundsE at h
  by_cases hr : rightB a = true
  · rw [if_pos hr] at h
    by_cases ht : totalB a = true
    · rw [if_pos ht] at h
      by_cases hb : lo ≤ a.base ∧ a.base ≤ hi
      · exact ⟨ht, hb.1, hb.2⟩
      · rw [if_neg hb] at h; cases h
    · rw [if_neg ht] at h; cases h
  · rw [if_neg hr] at h; cases h
theorem right_bounds {a : Ac} {lo hi : Int} (h : boundsE a lo hi = 0) : Right (boundsA a lo hi) := by
  obtain ⟨ht, h1, h2⟩ := bounds_ok h
  obtain ⟨hr, hh, hl⟩ := total_ok ht
  have hk0 := lk_plain hr hl
  unfold boundsA
  rw [if_pos h]
  exact ⟨hr.key, ⟨h1, h2⟩, hr.rd, hr.hs, by show a.base + ups a.hs ≤ hi; rw [hh]; simp only [ups]; omega, by show lo ≤ a.base - downs a.hs; rw [hh]; simp only [downs]; omega, lkB_plain hk0⟩
theorem take_ok {a : Ac} {l : Lk} (h : takeE a l = 0) : totalB a = true ∧ lockB l = true ∧ a.lo ≤ a.base + l.n ∧ a.base + l.n ≤ a.hi := by
  unfold takeE at h
  by_cases hr : rightB a = true
  · rw [if_pos hr] at h
    by_cases hk : lockB l = true
    · rw [if_pos hk] at h
      by_cases ht : totalB a = true
      · rw [if_pos ht] at h
        by_cases hb : a.lo ≤ a.base + l.n ∧ a.base + l.n ≤ a.hi
        · exact ⟨ht, hk, hb.1, hb.2⟩
        · rw [if_neg hb] at h; cases h
      · rw [if_neg ht] at h; cases h
    · rw [if_neg hk] at h; cases h
  · rw [if_neg hr] at h; cases h
theorem right_take {a : Ac} {l : Lk} (h : takeE a l = 0) : Right (takeA a l) := by
  obtain ⟨ht, hk, h1, h2⟩ := take_ok h
  obtain ⟨hr, hh, hl⟩ := total_ok ht
  unfold takeA
  rw [if_pos h]
  refine ⟨hr.key, hr.base, hr.rd, hr.hs, hr.up, hr.dn, ?_⟩
  have hc : ¬ l.c = 0 := by simp [lockB] at hk; omega
  unfold lkB
  simp only
  rw [if_neg hc, hk, hh]
  simp [h1, h2]
theorem free_ok {a : Ac} (h : freeE a = 0) : Right a ∧ ¬ a.lk.c = 0 := by
  unfold freeE at h
  by_cases hr : rightB a = true
  · rw [if_pos hr] at h
    by_cases hl : a.lk.c = 0
    · rw [if_pos hl] at h; cases h
    · exact ⟨(right_iff a).1 hr, hl⟩
  · rw [if_neg hr] at h; cases h
theorem right_free {a : Ac} {commit : Bool} (h : freeE a = 0) : Right (freeA a commit) := by
  obtain ⟨hr, hl⟩ := free_ok h
  obtain ⟨_, hh, h1, h2⟩ := lk_locked hr hl
  have hb := hr.base
  unfold freeA
  rw [if_pos h]
  cases commit with
  | true => exact ⟨hr.key, ⟨h1, h2⟩, hr.rd, hr.hs, by show a.base + a.lk.n + ups a.hs ≤ a.hi; rw [hh]; simp only [ups]; omega, by show a.lo ≤ a.base + a.lk.n - downs a.hs; rw [hh]; simp only [downs]; omega, lkB_plain rfl⟩
  | false => exact ⟨hr.key, hb, hr.rd, hr.hs, hr.up, hr.dn, lkB_plain rfl⟩
/-- what holders may have spent is within the bounds -/
def spentI (h : Hd) (x : Int) : Int := max (-h.dn) (min x h.up)
theorem spent_sum : ∀ (l : List Hd) (xs : List Int) {b : Int}, hsB b l = true → -downs l ≤ ((l.zip xs).map (fun p => spentI p.1 p.2)).foldr (· + ·) 0 ∧ ((l.zip xs).map (fun p => spentI p.1 p.2)).foldr (· + ·) 0 ≤ ups l
  | [], xs, b, _ => by simp [downs, ups]
  | h :: r, [], b, g => by
    have := ups_nonneg g
    simp only [List.zip_nil_right, List.map_nil, List.foldr_nil]
    omega
  | h :: r, x :: xs, b, g => by
    obtain ⟨h1, h2, h3⟩ := hs_cons g
    have ih := spent_sum r xs h3
    have hf := hd_facts h2
    simp only [List.zip_cons_cons, List.map_cons, List.foldr_cons]
    show -(h.dn + downs r) ≤ _ ∧ _ ≤ h.up + ups r
    have k1 : -h.dn ≤ spentI h x := by unfold spentI; omega
    have k2 : spentI h x ≤ h.up := by unfold spentI; omega
    omega
end Ao
end Go.Proofs.Ytjcbhgkfbilifab
