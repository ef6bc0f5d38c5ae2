/- Accounts as plain values: which are right, what each call makes of one, and that a right one stays right. No program, no condition. What the statements of layer 15 say of accounts as plain values. No program, no condition. Where a node's holder is, or would be; holders put in and taken out by places. No program, no condition. Rights, ledgers, and what is asked of them: the plain side. No condition. -/
import Derived.Test.YtjcbhgkfbilifaaJA
import Derived.Lib.Bytealg
namespace Go.Proofs.Ytjcbhgkfbilifaa
namespace Ao
set_option linter.unusedVariables false

structure Hd where
  nd : Int
  ls : Int
  up : Int
  dn : Int
deriving DecidableEq
structure Lk where
  c : Int
  s : Int
  h : Int
  n : Int
deriving DecidableEq
structure Ac where
  key : ByteArray
  lo : Int
  hi : Int
  base : Int
  rd : Int
  hs : List Hd
  lk : Lk
def hd0 : Hd := ⟨0, 0, 0, 0⟩
def lk0 : Lk := ⟨0, 0, 0, 0⟩
def ac0 : Ac := ⟨⟨#[]⟩, 0, 0, 0, 0, [], lk0⟩
def ups : List Hd → Int
  | [] => 0
  | h :: r => h.up + ups r
def downs : List Hd → Int
  | [] => 0
  | h :: r => h.dn + downs r
def hdB (h : Hd) : Bool := decide (h.nd ≤ 5 ∧ 1 ≤ h.ls ∧ 0 ≤ h.up ∧ 0 ≤ h.dn)
def hsB : Int → List Hd → Bool
  | _, [] => true
  | b, h :: r => decide (b < h.nd) && hdB h && hsB h.nd r
def lockB (l : Lk) : Bool := decide (1 ≤ l.c ∧ 1 ≤ l.s ∧ 1 ≤ l.h ∧ l.h < 8)
def keyB (k : ByteArray) : Bool := decide (1 ≤ k.size ∧ k.size ≤ 16)
def numB (n : Int) : Bool := decide (1 ≤ n ∧ n ≤ 4611686018427387904)
def lkB (a : Ac) : Bool := if a.lk.c = 0 then decide (a.lk = lk0) else lockB a.lk && a.hs.isEmpty && decide (a.lo ≤ a.base + a.lk.n ∧ a.base + a.lk.n ≤ a.hi)
def rightB (a : Ac) : Bool := keyB a.key && decide (a.lo ≤ a.base ∧ a.base ≤ a.hi) && decide (0 ≤ a.rd) && hsB 0 a.hs && decide (a.base + ups a.hs ≤ a.hi) && decide (a.lo ≤ a.base - downs a.hs) && lkB a
/-- a right account, said in words -/
structure Right (a : Ac) : Prop where
  key : keyB a.key = true
  base : a.lo ≤ a.base ∧ a.base ≤ a.hi
  rd : 0 ≤ a.rd
  hs : hsB 0 a.hs = true
  up : a.base + ups a.hs ≤ a.hi
  dn : a.lo ≤ a.base - downs a.hs
  lk : lkB a = true
theorem right_iff (a : Ac) : rightB a = true ↔ Right a := by
  unfold rightB
  simp only [Bool.and_eq_true, decide_eq_true_eq]
  constructor
  · rintro ⟨⟨⟨⟨⟨⟨h1, h2⟩, h3⟩, h4⟩, h5⟩, h6⟩, h7⟩
    exact ⟨h1, h2, h3, h4, h5, h6, h7⟩
  · rintro ⟨h1, h2, h3, h4, h5, h6, h7⟩
    exact ⟨⟨⟨⟨⟨⟨h1, h2⟩, h3⟩, h4⟩, h5⟩, h6⟩, h7⟩
theorem hs_cons {b : Int} {h : Hd} {r : List Hd} (g : hsB b (h :: r) = true) : b < h.nd ∧ hdB h = true ∧ hsB h.nd r = true := by
  simp [hsB] at g
  exact ⟨g.1.1, g.1.2, g.2⟩
theorem hd_facts {h : Hd} (g : hdB h = true) : h.nd ≤ 5 ∧ 1 ≤ h.ls ∧ 0 ≤ h.up ∧ 0 ≤ h.dn := by simpa [hdB] using g
theorem hs_low {b b' : Int} : ∀ {l : List Hd}, hsB b l = true → b' ≤ b → hsB b' l = true
  | [], _, _ => rfl
  | h :: r, g, hb => by
    obtain ⟨h1, h2, h3⟩ := hs_cons g
    simp [hsB, h2, h3]
    omega
theorem hs_mem {b : Int} : ∀ {l : List Hd}, hsB b l = true → ∀ h ∈ l, b < h.nd ∧ hdB h = true
  | [], _, h, hm => by simp at hm
  | x :: r, g, h, hm => by
    obtain ⟨h1, h2, h3⟩ := hs_cons g
    rcases List.mem_cons.1 hm with rfl | hm
    · exact ⟨h1, h2⟩
    · obtain ⟨h4, h5⟩ := hs_mem h3 h hm
      exact ⟨by omega, h5⟩
theorem hs_length {b : Int} : ∀ {l : List Hd}, hsB b l = true → (l.length : Int) ≤ max 0 (5 - b)
  | [], _ => by simp; omega
  | x :: r, g => by
    obtain ⟨h1, h2, h3⟩ := hs_cons g
    have := hs_length h3
    have := (hd_facts h2).1
    simp only [List.length_cons]
    push_cast
    omega
theorem ups_nonneg {b : Int} : ∀ {l : List Hd}, hsB b l = true → 0 ≤ ups l ∧ 0 ≤ downs l
  | [], _ => ⟨Int.le_refl _, Int.le_refl _⟩
  | x :: r, g => by
    obtain ⟨h1, h2, h3⟩ := hs_cons g
    have := ups_nonneg h3
    have := hd_facts h2
    show 0 ≤ x.up + ups r ∧ 0 ≤ x.dn + downs r
    omega
def findH (l : List Hd) (n : Int) : Option Hd := l.find? (fun h => h.nd == n)
theorem find_cons (x : Hd) (r : List Hd) (n : Int) : findH (x :: r) n = if x.nd = n then some x else findH r n := by
  unfold findH
  rw [List.find?_cons]
  by_cases h : x.nd = n
  · simp [h]
  · have h2 : (x.nd == n) = false := by simp [h]
    rw [h2, if_neg h]
theorem find_mem {l : List Hd} {n : Int} {h : Hd} (g : findH l n = some h) : h ∈ l ∧ h.nd = n := ⟨List.mem_of_find?_eq_some g, by simpa using List.find?_some g⟩
theorem find_low {b n : Int} : ∀ {l : List Hd}, hsB b l = true → n ≤ b → findH l n = none
  | l, g, hn => by
    unfold findH
    rw [List.find?_eq_none]
    intro x hx
    have := (hs_mem g x hx).1
    simp; omega
/-- the holders but a node's; with one that is put in its place -/
def dropH (l : List Hd) (n : Int) : List Hd := l.filter (fun h => !decide (h.nd = n))
def insH (h : Hd) : List Hd → List Hd
  | [] => [h]
  | x :: r => if x.nd < h.nd then x :: insH h r else if x.nd = h.nd then h :: r else h :: x :: r
theorem hs_ins {h : Hd} (hh : hdB h = true) : ∀ {l : List Hd} {b : Int}, hsB b l = true → b < h.nd → hsB b (insH h l) = true
  | [], b, _, hb => by simp [insH, hsB, hh, hb]
  | x :: r, b, g, hb => by
    obtain ⟨h1, h2, h3⟩ := hs_cons g
    unfold insH
    by_cases e : x.nd < h.nd
    · rw [if_pos e]
      simp [hsB, h1, h2, hs_ins hh h3 e]
    · rw [if_neg e]
      by_cases e2 : x.nd = h.nd
      · rw [if_pos e2]
        simp [hsB, hh, hb]
        rw [← e2]; exact h3
      · rw [if_neg e2]
        simp [hsB, hh, hb, h2, h3]
        omega
theorem find_ins {h : Hd} : ∀ {l : List Hd} {b : Int}, hsB b l = true → ∀ n, findH (insH h l) n = if n = h.nd then some h else findH l n
  | [], b, _, n => by
    show findH [h] n = _
    rw [find_cons]
    by_cases e : h.nd = n
    · rw [if_pos e, if_pos e.symm]
    · rw [if_neg e, if_neg fun h => e h.symm]
  | x :: r, b, g, n => by
    obtain ⟨h1, h2, h3⟩ := hs_cons g
    unfold insH
    by_cases e : x.nd < h.nd
    · rw [if_pos e, find_cons, find_cons, find_ins h3 n]
      by_cases e3 : x.nd = n
      · rw [if_pos e3, if_neg (by omega), if_pos e3]
      · rw [if_neg e3, if_neg e3]
    · rw [if_neg e]
      by_cases e2 : x.nd = h.nd
      · rw [if_pos e2, find_cons, find_cons]
        by_cases e3 : h.nd = n
        · rw [if_pos e3, if_pos e3.symm]
        · rw [if_neg e3, if_neg (show ¬ n = h.nd from fun h => e3 h.symm), if_neg (by omega)]
      · rw [if_neg e2, find_cons h]
        by_cases e3 : h.nd = n
        · rw [if_pos e3, if_pos e3.symm]
        · rw [if_neg e3, if_neg (fun h => e3 h.symm)]
def upOf (o : Option Hd) : Int := match o with | some h => h.up | none => 0
def dnOf (o : Option Hd) : Int := match o with | some h => h.dn | none => 0
theorem sums_ins {h : Hd} : ∀ {l : List Hd} {b : Int}, hsB b l = true → ups (insH h l) = ups l - upOf (findH l h.nd) + h.up ∧ downs (insH h l) = downs l - dnOf (findH l h.nd) + h.dn
  | [], b, _ => by simp [insH, ups, downs, findH, upOf, dnOf]
  | x :: r, b, g => by
    obtain ⟨h1, h2, h3⟩ := hs_cons g
    rw [find_cons]
    unfold insH
    by_cases e : x.nd < h.nd
    · rw [if_pos e, if_neg (by omega)]
      obtain ⟨i1, i2⟩ := sums_ins (h := h) h3
      show x.up + ups _ = x.up + ups r - _ + _ ∧ x.dn + downs _ = x.dn + downs r - _ + _
      omega
    · rw [if_neg e]
      by_cases e2 : x.nd = h.nd
      · rw [if_pos e2, if_pos e2]
        show h.up + ups r = x.up + ups r - x.up + h.up ∧ h.dn + downs r = x.dn + downs r - x.dn + h.dn
        omega
      · rw [if_neg e2, if_neg e2, find_low h3 (by omega)]
        show h.up + (x.up + ups r) = x.up + ups r - 0 + h.up ∧ h.dn + (x.dn + downs r) = x.dn + downs r - 0 + h.dn
        omega
theorem drop_cons (x : Hd) (r : List Hd) (n : Int) : dropH (x :: r) n = if x.nd = n then dropH r n else x :: dropH r n := by
  unfold dropH
  by_cases e : x.nd = n <;> simp [e]
theorem hs_drop (n : Int) : ∀ {l : List Hd} {b : Int}, hsB b l = true → hsB b (dropH l n) = true
  | [], b, _ => rfl
  | x :: r, b, g => by
    obtain ⟨h1, h2, h3⟩ := hs_cons g
    rw [drop_cons]
    by_cases e : x.nd = n
    · rw [if_pos e]
      exact hs_low (hs_drop n h3) (by omega)
    · rw [if_neg e]
      simp [hsB, h1, h2, hs_drop n h3]
theorem drop_none {n : Int} : ∀ {l : List Hd}, findH l n = none → dropH l n = l
  | [], _ => rfl
  | x :: r, h => by
    rw [find_cons] at h
    have e : ¬ x.nd = n := fun e => by rw [if_pos e] at h; cases h
    rw [if_neg e] at h
    rw [drop_cons, if_neg e, drop_none h]
theorem find_drop (n : Int) : ∀ {l : List Hd} {b : Int}, hsB b l = true → ∀ m, findH (dropH l n) m = if m = n then none else findH l m
  | [], b, _, m => by simp [dropH, findH]
  | x :: r, b, g, m => by
    obtain ⟨h1, h2, h3⟩ := hs_cons g
    rw [drop_cons, find_cons]
    by_cases e : x.nd = n
    · rw [if_pos e, find_drop n h3]
      by_cases e2 : m = n
      · rw [if_pos e2, if_pos e2]
      · rw [if_neg e2, if_neg e2, if_neg (by omega)]
    · rw [if_neg e, find_cons, find_drop n h3]
      by_cases e2 : x.nd = m
      · rw [if_pos e2, if_neg (by omega), if_pos e2]
      · rw [if_neg e2, if_neg e2]
theorem sums_drop (n : Int) : ∀ {l : List Hd} {b : Int}, hsB b l = true → ups (dropH l n) = ups l - upOf (findH l n) ∧ downs (dropH l n) = downs l - dnOf (findH l n)
  | [], b, _ => by simp [dropH, ups, downs, findH, upOf, dnOf]
  | x :: r, b, g => by
    obtain ⟨h1, h2, h3⟩ := hs_cons g
    rw [drop_cons, find_cons]
    by_cases e : x.nd = n
    · rw [if_pos e, if_pos e, drop_none (find_low h3 (by omega))]
      show ups r = x.up + ups r - x.up ∧ downs r = x.dn + downs r - x.dn
      omega
    · rw [if_neg e, if_neg e]
      obtain ⟨i1, i2⟩ := sums_drop n h3
      show x.up + ups _ = x.up + ups r - _ ∧ x.dn + downs _ = x.dn + downs r - _
      omega
/-- the room: how much it may fall, and rise -/
def downR (a : Ac) : Int := if rightB a = true ∧ a.lk.c = 0 then a.base - downs a.hs - a.lo else 0
def upR (a : Ac) : Int := if rightB a = true ∧ a.lk.c = 0 then a.hi - (a.base + ups a.hs) else 0
theorem room_nonneg (a : Ac) : 0 ≤ downR a ∧ 0 ≤ upR a := by
  unfold downR upR
  by_cases h : rightB a = true ∧ a.lk.c = 0
  · rw [if_pos h, if_pos h]
    have := ((right_iff a).1 h.1).up
    have := ((right_iff a).1 h.1).dn
    omega
  · rw [if_neg h, if_neg h]
    exact ⟨Int.le_refl _, Int.le_refl _⟩
/-- what each call answers, and makes -/
def totalB (a : Ac) : Bool := rightB a && a.hs.isEmpty && decide (a.lk.c = 0)
def addE (a : Ac) (n : Int) : Int := if rightB a then (if n = 0 then 1 else if a.lk.c = 0 then (if (0 < n ∧ upR a < n) ∨ (n < 0 ∧ downR a < -n) then 150 else 0) else 152) else 21
def addA (a : Ac) (n : Int) : Ac := if addE a n = 0 then { a with base := a.base + n } else ac0
def shareI (v nodes : Int) : Int := v / (nodes + 1)
def moreI (n v : Int) : Int := n + min v (9223372036854775807 - n)
def grantE (a : Ac) (node lease nodes : Int) : Int := if rightB a then (if 1 ≤ nodes ∧ nodes ≤ 5 ∧ 1 ≤ node ∧ node ≤ nodes ∧ numB lease = true then (if a.rd = 0 ∧ a.lk.c = 0 then 0 else 152) else 1) else 21
def grantH (a : Ac) (node lease nodes : Int) : Hd :=
  ⟨node, match findH a.hs node with | some h => h.ls | none => lease, moreI (upOf (findH a.hs node)) (shareI (upR a) nodes), moreI (dnOf (findH a.hs node)) (shareI (downR a) nodes)⟩
def grantA (a : Ac) (node lease nodes : Int) : Ac := if grantE a node lease nodes = 0 then { a with hs := insH (grantH a node lease nodes) a.hs } else ac0
def freezeE (a : Ac) (r : Int) : Int := if rightB a then (if numB r then 0 else 1) else 21
def freezeA (a : Ac) (r : Int) : Ac := if freezeE a r = 0 then (if a.rd = 0 then { a with rd := r } else a) else ac0
def thawE (a : Ac) : Int := if rightB a then 0 else 21
def thawA (a : Ac) : Ac := if thawE a = 0 then { a with rd := 0 } else ac0
def reportE (a : Ac) (node lease r net : Int) : Int :=
  if rightB a then (match findH a.hs node with
    | none => 151
    | some h => if h.ls = lease then (if a.rd = 0 ∨ ¬ a.rd = r then 152 else if h.up < net ∨ h.dn + net < 0 then 150 else 0) else 151) else 21
def reportA (a : Ac) (node lease r net : Int) : Ac := if reportE a node lease r net = 0 then { a with base := a.base + net, hs := dropH a.hs node } else ac0
def boundsE (a : Ac) (lo hi : Int) : Int := if rightB a then (if totalB a then (if lo ≤ a.base ∧ a.base ≤ hi then 0 else 150) else 152) else 21
def boundsA (a : Ac) (lo hi : Int) : Ac := if boundsE a lo hi = 0 then { a with lo := lo, hi := hi } else ac0
def takeE (a : Ac) (l : Lk) : Int := if rightB a then (if lockB l then (if totalB a then (if a.lo ≤ a.base + l.n ∧ a.base + l.n ≤ a.hi then 0 else 150) else 152) else 1) else 21
def takeA (a : Ac) (l : Lk) : Ac := if takeE a l = 0 then { a with lk := l } else ac0
def freeE (a : Ac) : Int := if rightB a then (if a.lk.c = 0 then 60 else 0) else 21
def freeA (a : Ac) (commit : Bool) : Ac := if freeE a = 0 then { a with base := if commit then a.base + a.lk.n else a.base, lk := lk0 } else ac0

theorem lk_plain {a : Ac} (h : Right a) (h0 : a.lk.c = 0) : a.lk = lk0 := by
  have := h.lk
  unfold lkB at this
  rw [if_pos h0] at this
  simpa using this
theorem lkB_plain {a : Ac} (h : a.lk = lk0) : lkB a = true := by
  unfold lkB
  rw [h]
  rfl
theorem lk_locked {a : Ac} (h : Right a) (h0 : ¬ a.lk.c = 0) : lockB a.lk = true ∧ a.hs = [] ∧ a.lo ≤ a.base + a.lk.n ∧ a.base + a.lk.n ≤ a.hi := by
  have := h.lk
  unfold lkB at this
  rw [if_neg h0] at this
  simp only [Bool.and_eq_true, decide_eq_true_eq, List.isEmpty_iff] at this
  exact ⟨this.1.1, this.1.2, this.2.1, this.2.2⟩
theorem add_ok {a : Ac} {n : Int} (h : addE a n = 0) : Right a ∧ ¬ n = 0 ∧ a.lk.c = 0 ∧ ¬ ((0 < n ∧ a.hi - (a.base + ups a.hs) < n) ∨ (n < 0 ∧ a.base - downs a.hs - a.lo < -n)) := by
  unfold addE at h
  by_cases hr : rightB a = true
  · rw [if_pos hr] at h
    by_cases hn : n = 0
    · rw [if_pos hn] at h; cases h
    · rw [if_neg hn] at h
      by_cases hl : a.lk.c = 0
      · rw [if_pos hl] at h
        have e1 : upR a = a.hi - (a.base + ups a.hs) := by unfold upR; rw [if_pos ⟨hr, hl⟩]
        have e2 : downR a = a.base - downs a.hs - a.lo := by unfold downR; rw [if_pos ⟨hr, hl⟩]
        rw [e1, e2] at h
        refine ⟨(right_iff a).1 hr, hn, hl, fun hh => ?_⟩
        rw [if_pos hh] at h
        cases h
      · rw [if_neg hl] at h; cases h
  · rw [if_neg hr] at h; cases h
theorem right_add {a : Ac} {n : Int} (h : addE a n = 0) : Right (addA a n) := by
  obtain ⟨hr, hn, hl, hb⟩ := add_ok h
  have hu := ups_nonneg hr.hs
  have h1 := hr.base
  have h2 := hr.up
  have h3 := hr.dn
  have hk0 := lk_plain hr hl
  unfold addA
  rw [if_pos h]
  exact ⟨hr.key, ⟨by show a.lo ≤ a.base + n; omega, by show a.base + n ≤ a.hi; omega⟩, hr.rd, hr.hs, by show a.base + n + ups a.hs ≤ a.hi; omega, by show a.lo ≤ a.base + n - downs a.hs; omega, lkB_plain hk0⟩
theorem share_le {v nodes : Int} (hv : 0 ≤ v) (hn : 1 ≤ nodes) : 0 ≤ shareI v nodes ∧ shareI v nodes ≤ v := by
  unfold shareI
  constructor
  · exact Int.ediv_nonneg hv (by omega)
  · exact Int.ediv_le_self _ hv
theorem more_le {n v : Int} (hv : 0 ≤ v) (hn : n ≤ 9223372036854775807) : n ≤ moreI n v ∧ moreI n v ≤ n + v ∧ moreI n v ≤ 9223372036854775807 := by
  unfold moreI
  omega
theorem grant_ok {a : Ac} {node lease nodes : Int} (h : grantE a node lease nodes = 0) : Right a ∧ 1 ≤ nodes ∧ nodes ≤ 5 ∧ 1 ≤ node ∧ node ≤ nodes ∧ numB lease = true ∧ a.rd = 0 ∧ a.lk.c = 0 := by
  unfold grantE at h
  by_cases hr : rightB a = true
  · rw [if_pos hr] at h
    by_cases hn : 1 ≤ nodes ∧ nodes ≤ 5 ∧ 1 ≤ node ∧ node ≤ nodes ∧ numB lease = true
    · rw [if_pos hn] at h
      by_cases hl : a.rd = 0 ∧ a.lk.c = 0
      · exact ⟨(right_iff a).1 hr, hn.1, hn.2.1, hn.2.2.1, hn.2.2.2.1, hn.2.2.2.2, hl.1, hl.2⟩
      · rw [if_neg hl] at h; cases h
    · rw [if_neg hn] at h; cases h
  · rw [if_neg hr] at h; cases h
/-- no Up and no Down is above what an int has -/
def Small (a : Ac) : Prop := ∀ h ∈ a.hs, h.up ≤ 9223372036854775807 ∧ h.dn ≤ 9223372036854775807
theorem of_small {a : Ac} (hs : Small a) (n : Int) : upOf (findH a.hs n) ≤ 9223372036854775807 ∧ dnOf (findH a.hs n) ≤ 9223372036854775807 := by
  cases e : findH a.hs n with
  | none => exact ⟨by simp [upOf], by simp [dnOf]⟩
  | some h => exact hs h (find_mem e).1
theorem of_nonneg {a : Ac} (hr : Right a) (n : Int) : 0 ≤ upOf (findH a.hs n) ∧ 0 ≤ dnOf (findH a.hs n) := by
  cases e : findH a.hs n with
  | none => exact ⟨Int.le_refl _, Int.le_refl _⟩
  | some h =>
    have := hd_facts (hs_mem hr.hs h (find_mem e).1).2
    exact ⟨this.2.2.1, this.2.2.2⟩
theorem right_grant {a : Ac} {node lease nodes : Int} (h : grantE a node lease nodes = 0) (hsm : Small a) : Right (grantA a node lease nodes) := by
  obtain ⟨hr, h1, h2, h3, h4, h5, h6, h7⟩ := grant_ok h
  have hrb := (right_iff a).2 hr
  have e1 : upR a = a.hi - (a.base + ups a.hs) := by unfold upR; rw [if_pos ⟨hrb, h7⟩]
  have e2 : downR a = a.base - downs a.hs - a.lo := by unfold downR; rw [if_pos ⟨hrb, h7⟩]
  have hu := hr.up
  have hd := hr.dn
  have s1 := share_le (v := upR a) (nodes := nodes) (by omega) h1
  have s2 := share_le (v := downR a) (nodes := nodes) (by omega) h1
  have o1 := of_small hsm node
  have o2 := of_nonneg hr node
  have m1 := more_le s1.1 o1.1
  have m2 := more_le s2.1 o1.2
  have hl : 1 ≤ (grantH a node lease nodes).ls := by
    show 1 ≤ (match findH a.hs node with | some h => h.ls | none => lease)
    cases e : findH a.hs node with
    | none => simp [numB] at h5; exact h5.1
    | some z => exact (hd_facts (hs_mem hr.hs z (find_mem e).1).2).2.1
  have hhd : hdB (grantH a node lease nodes) = true := by
    unfold hdB
    rw [decide_eq_true]
    exact ⟨by show node ≤ 5; omega, hl, by show 0 ≤ moreI _ _; omega, by show 0 ≤ moreI _ _; omega⟩
  have hsum := sums_ins (h := grantH a node lease nodes) hr.hs
  have k1 : (grantH a node lease nodes).nd = node := rfl
  have k2 : (grantH a node lease nodes).up = moreI (upOf (findH a.hs node)) (shareI (upR a) nodes) := rfl
  have k3 : (grantH a node lease nodes).dn = moreI (dnOf (findH a.hs node)) (shareI (downR a) nodes) := rfl
  rw [k1, k2, k3] at hsum
  have hk0 := lk_plain hr h7
  unfold grantA
  rw [if_pos h]
  refine ⟨hr.key, hr.base, hr.rd, hs_ins hhd hr.hs (by show 0 < node; omega), ?_, ?_, lkB_plain hk0⟩
  · show a.base + ups (insH _ a.hs) ≤ a.hi
    omega
  · show a.lo ≤ a.base - downs (insH _ a.hs)
    omega
theorem freeze_ok {a : Ac} {r : Int} (h : freezeE a r = 0) : Right a ∧ numB r = true := by
  unfold freezeE at h
  by_cases hr : rightB a = true
  · rw [if_pos hr] at h
    by_cases hn : numB r = true
    · exact ⟨(right_iff a).1 hr, hn⟩
    · rw [if_neg hn] at h; cases h
  · rw [if_neg hr] at h; cases h
theorem right_freeze {a : Ac} {r : Int} (h : freezeE a r = 0) : Right (freezeA a r) := by
  obtain ⟨hr, hn⟩ := freeze_ok h
  unfold freezeA
  rw [if_pos h]
  by_cases h0 : a.rd = 0
  · rw [if_pos h0]
    exact ⟨hr.key, hr.base, by simp [numB] at hn; show 0 ≤ r; omega, hr.hs, hr.up, hr.dn, hr.lk⟩
  · rw [if_neg h0]; exact hr
theorem thaw_ok {a : Ac} (h : thawE a = 0) : Right a := by
  unfold thawE at h
  by_cases hr : rightB a = true
  · exact (right_iff a).1 hr
  · rw [if_neg hr] at h; cases h
theorem right_thaw {a : Ac} (h : thawE a = 0) : Right (thawA a) := by
  have hr := thaw_ok h
  unfold thawA
  rw [if_pos h]
  exact ⟨hr.key, hr.base, Int.le_refl _, hr.hs, hr.up, hr.dn, hr.lk⟩
theorem report_ok {a : Ac} {node lease r net : Int} (h : reportE a node lease r net = 0) : Right a ∧ ∃ x, findH a.hs node = some x ∧ x.ls = lease ∧ ¬ a.rd = 0 ∧ a.rd = r ∧ net ≤ x.up ∧ 0 ≤ x.dn + net := by
  unfold reportE at h
  by_cases hr : rightB a = true
  · rw [if_pos hr] at h
    refine ⟨(right_iff a).1 hr, ?_⟩
    cases e : findH a.hs node with
    | none => rw [e] at h; cases h
    | some x =>
      rw [e] at h
      simp only at h
      by_cases h1 : x.ls = lease
      · rw [if_pos h1] at h
        by_cases h2 : a.rd = 0 ∨ ¬ a.rd = r
        · rw [if_pos h2] at h; cases h
        · rw [if_neg h2] at h
          by_cases h3 : x.up < net ∨ x.dn + net < 0
          · rw [if_pos h3] at h; cases h
          · exact ⟨x, rfl, h1, by omega, by omega, by omega, by omega⟩
      · rw [if_neg h1] at h; cases h
  · rw [if_neg hr] at h; cases h
theorem right_report {a : Ac} {node lease r net : Int} (h : reportE a node lease r net = 0) : Right (reportA a node lease r net) := by
  obtain ⟨hr, x, hx, _, _, _, h3, h4⟩ := report_ok h
  have hs := sums_drop node hr.hs
  rw [hx] at hs
  have e1 : upOf (some x) = x.up := rfl
  have e2 : dnOf (some x) = x.dn := rfl
  rw [e1, e2] at hs
  have hu := hr.up
  have hd := hr.dn
  have hn := ups_nonneg (hs_drop node hr.hs)
  have hlk : a.lk.c = 0 := by
    by_cases h0 : a.lk.c = 0
    · exact h0
    · have := (lk_locked hr h0).2.1
      rw [this] at hx
      cases hx
  have hk0 := lk_plain hr hlk
  unfold reportA
  rw [if_pos h]
  exact ⟨hr.key, ⟨by show a.lo ≤ a.base + net; omega, by show a.base + net ≤ a.hi; omega⟩, hr.rd, hs_drop node hr.hs, by show a.base + net + ups (dropH a.hs node) ≤ a.hi; omega, by show a.lo ≤ a.base + net - downs (dropH a.hs node); omega, lkB_plain hk0⟩
theorem total_ok {a : Ac} (h : totalB a = true) : Right a ∧ a.hs = [] ∧ a.lk.c = 0 := by
  unfold totalB at h
  simp only [Bool.and_eq_true, decide_eq_true_eq, List.isEmpty_iff] at h
  exact ⟨(right_iff a).1 h.1.1, h.1.2, h.2⟩
theorem bounds_ok {a : Ac} {lo hi : Int} (h : boundsE a lo hi = 0) : totalB a = true ∧ lo ≤ a.base ∧ a.base ≤ hi := by
  unfold boundsE at h
  by_cases hr : rightB a = true
  · rw [if_pos hr] at h
    by_cases ht : totalB a = true
    · rw [if_pos ht] at h
      by_cases hb : lo ≤ a.base ∧ a.base ≤ hi
      · exact ⟨ht, hb.1, hb.2⟩
      · rw [if_neg hb] at h; cases h
    · rw [if_neg ht] at h; cases h
  · rw [if_neg hr] at h; cases h
theorem right_bounds {a : Ac} {lo hi : Int} (h : boundsE a lo hi = 0) : Right (boundsA a lo hi) := by
  obtain ⟨ht, h1, h2⟩ := bounds_ok h
  obtain ⟨hr, hh, hl⟩ := total_ok ht
  have hk0 := lk_plain hr hl
  unfold boundsA
  rw [if_pos h]
  exact ⟨hr.key, ⟨h1, h2⟩, hr.rd, hr.hs, by show a.base + ups a.hs ≤ hi; rw [hh]; simp only [ups]; omega, by show lo ≤ a.base - downs a.hs; rw [hh]; simp only [downs]; omega, lkB_plain hk0⟩
theorem take_ok {a : Ac} {l : Lk} (h : takeE a l = 0) : totalB a = true ∧ lockB l = true ∧ a.lo ≤ a.base + l.n ∧ a.base + l.n ≤ a.hi := by
  unfold takeE at h
  by_cases hr : rightB a = true
  · rw [if_pos hr] at h
    by_cases hk : lockB l = true
    · rw [if_pos hk] at h
      by_cases ht : totalB a = true
      · rw [if_pos ht] at h
        by_cases hb : a.lo ≤ a.base + l.n ∧ a.base + l.n ≤ a.hi
        · exact ⟨ht, hk, hb.1, hb.2⟩
        · rw [if_neg hb] at h; cases h
      · rw [if_neg ht] at h; cases h
    · rw [if_neg hk] at h; cases h
  · rw [if_neg hr] at h; cases h
theorem right_take {a : Ac} {l : Lk} (h : takeE a l = 0) : Right (takeA a l) := by
  obtain ⟨ht, hk, h1, h2⟩ := take_ok h
  obtain ⟨hr, hh, hl⟩ := total_ok ht
  unfold takeA
  rw [if_pos h]
  refine ⟨hr.key, hr.base, hr.rd, hr.hs, hr.up, hr.dn, ?_⟩
  have hc : ¬ l.c = 0 := by simp [lockB] at hk; omega
  unfold lkB
  simp only
  rw [if_neg hc, hk, hh]
  simp [h1, h2]
theorem free_ok {a : Ac} (h : freeE a = 0) : Right a ∧ ¬ a.lk.c = 0 := by
  unfold freeE at h
  by_cases hr : rightB a = true
  · rw [if_pos hr] at h
    by_cases hl : a.lk.c = 0
    · rw [if_pos hl] at h; cases h
    · exact ⟨(right_iff a).1 hr, hl⟩
  · rw [if_neg hr] at h; cases h
theorem right_free {a : Ac} {commit : Bool} (h : freeE a = 0) : Right (freeA a commit) := by
  obtain ⟨hr, hl⟩ := free_ok h
  obtain ⟨_, hh, h1, h2⟩ := lk_locked hr hl
  have hb := hr.base
  unfold freeA
  rw [if_pos h]
  cases commit with
  | true => exact ⟨hr.key, ⟨h1, h2⟩, hr.rd, hr.hs, by show a.base + a.lk.n + ups a.hs ≤ a.hi; rw [hh]; simp only [ups]; omega, by show a.lo ≤ a.base + a.lk.n - downs a.hs; rw [hh]; simp only [downs]; omega, lkB_plain rfl⟩
  | false => exact ⟨hr.key, hb, hr.rd, hr.hs, hr.up, hr.dn, lkB_plain rfl⟩
/-- what holders may have spent is within the bounds -/
def spentI (h : Hd) (x : Int) : Int := max (-h.dn) (min x h.up)
theorem spent_sum : ∀ (l : List Hd) (xs : List Int) {b : Int}, hsB b l = true → -downs l ≤ ((l.zip xs).map (fun p => spentI p.1 p.2)).foldr (· + ·) 0 ∧ ((l.zip xs).map (fun p => spentI p.1 p.2)).foldr (· + ·) 0 ≤ ups l
  | [], xs, b, _ => by simp [downs, ups]
  | h :: r, [], b, g => by
    have := ups_nonneg g
    simp only [List.zip_nil_right, List.map_nil, List.foldr_nil]
    omega
  | h :: r, x :: xs, b, g => by
    obtain ⟨h1, h2, h3⟩ := hs_cons g
    have ih := spent_sum r xs h3
    have hf := hd_facts h2
    simp only [List.zip_cons_cons, List.map_cons, List.foldr_cons]
    show -(h.dn + downs r) ≤ _ ∧ _ ≤ h.up + ups r
    have k1 : -h.dn ≤ spentI h x := by unfold spentI; omega
    have k2 : spentI h x ≤ h.up := by unfold spentI; omega
    omega
end Ao
end Go.Proofs.Ytjcbhgkfbilifaa

namespace Go.Proofs.Ytjcbhgkfbilifaa
namespace Ao
set_option linter.unusedVariables false

theorem upR_of {a : Ac} (h : Right a) (hl : a.lk.c = 0) : upR a = a.hi - (a.base + ups a.hs) := by unfold upR; rw [if_pos ⟨(right_iff a).2 h, hl⟩]
theorem downR_of {a : Ac} (h : Right a) (hl : a.lk.c = 0) : downR a = a.base - downs a.hs - a.lo := by unfold downR; rw [if_pos ⟨(right_iff a).2 h, hl⟩]
theorem addE_of {a : Ac} {n : Int} (h : Right a) (hn : ¬ n = 0) (hl : a.lk.c = 0) : addE a n = if (0 < n ∧ upR a < n) ∨ (n < 0 ∧ downR a < -n) then 150 else 0 := by
  unfold addE
  rw [if_pos ((right_iff a).2 h), if_neg hn, if_pos hl]
/-- AccountAdds: what is added can be taken away again -/
theorem add_back {a : Ac} {n : Int} (h : addE a n = 0) : addE (addA a n) (-n) = 0 ∧ addA (addA a n) (-n) = a ∧ (addA a n).base = a.base + n := by
  obtain ⟨hr, hn, hl, hb⟩ := add_ok h
  have hx := right_add h
  have e : addA a n = { a with base := a.base + n } := by unfold addA; rw [if_pos h]
  have hu := ups_nonneg hr.hs
  have h1 := hr.base
  have h2 := hr.up
  have h3 := hr.dn
  have hE : addE (addA a n) (-n) = 0 := by
    rw [addE_of hx (by omega) (by rw [e]; exact hl), upR_of hx (by rw [e]; exact hl), downR_of hx (by rw [e]; exact hl), e]
    simp only
    rw [if_neg (by omega)]
  refine ⟨hE, ?_, by rw [e]⟩
  have e2 : addA (addA a n) (-n) = { addA a n with base := (addA a n).base + -n } := by unfold addA; rw [if_pos (by exact hE)]
  rw [e2, e]
  obtain ⟨k, lo, hi, b, r, hs, lk⟩ := a
  simp only
  congr 1
  omega
theorem add_bound {a : Ac} {n : Int} (h : ¬ addE a n = 0) (hr : Right a) (hn : ¬ n = 0) (hl : a.lk.c = 0) : addE a n = 150 ∧ ((0 < n ∧ upR a < n) ∨ (n < 0 ∧ downR a < -n)) := by
  rw [addE_of hr hn hl] at h ⊢
  by_cases hb : (0 < n ∧ upR a < n) ∨ (n < 0 ∧ downR a < -n)
  · rw [if_pos hb]; exact ⟨rfl, hb⟩
  · rw [if_neg hb] at h; exact absurd rfl h
theorem add_other {a : Ac} {n : Int} (h : ¬ (Right a ∧ ¬ n = 0 ∧ a.lk.c = 0)) : addE a n = 21 ∨ addE a n = 1 ∨ addE a n = 152 := by
  unfold addE
  by_cases hr : rightB a = true
  · rw [if_pos hr]
    by_cases hn : n = 0
    · rw [if_pos hn]; exact .inr (.inl rfl)
    · rw [if_neg hn]
      by_cases hl : a.lk.c = 0
      · exact absurd ⟨(right_iff a).1 hr, hn, hl⟩ h
      · rw [if_neg hl]; exact .inr (.inr rfl)
  · rw [if_neg hr]; exact .inl rfl
/-- AccountGrants: what is lent comes out of the room, and goes to that node alone -/
theorem grant_said {a : Ac} {node lease nodes : Int} (h : grantE a node lease nodes = 0) (hsm : Small a) :
    findH (grantA a node lease nodes).hs node = some (grantH a node lease nodes) ∧ upOf (findH a.hs node) ≤ (grantH a node lease nodes).up ∧ dnOf (findH a.hs node) ≤ (grantH a node lease nodes).dn
    ∧ downR a - downR (grantA a node lease nodes) = (grantH a node lease nodes).dn - dnOf (findH a.hs node) ∧ upR a - upR (grantA a node lease nodes) = (grantH a node lease nodes).up - upOf (findH a.hs node)
    ∧ (grantA a node lease nodes).base = a.base ∧ (grantA a node lease nodes).lo = a.lo ∧ (grantA a node lease nodes).hi = a.hi
    ∧ (∀ o, ¬ o = node → findH (grantA a node lease nodes).hs o = findH a.hs o) ∧ (findH a.hs node = none → (grantH a node lease nodes).ls = lease) ∧ (∀ g, findH a.hs node = some g → (grantH a node lease nodes).ls = g.ls) := by
  obtain ⟨hr, h1, h2, h3, h4, h5, h6, h7⟩ := grant_ok h
  have hx := right_grant h hsm
  have e : grantA a node lease nodes = { a with hs := insH (grantH a node lease nodes) a.hs } := by unfold grantA; rw [if_pos h]
  have hxl : (grantA a node lease nodes).lk.c = 0 := by rw [e]; exact h7
  have hsum := sums_ins (h := grantH a node lease nodes) hr.hs
  have k1 : (grantH a node lease nodes).nd = node := rfl
  rw [k1] at hsum
  have s1 := share_le (v := upR a) (nodes := nodes) (room_nonneg a).2 h1
  have s2 := share_le (v := downR a) (nodes := nodes) (room_nonneg a).1 h1
  have o1 := of_small hsm node
  have m1 := more_le s1.1 o1.1
  have m2 := more_le s2.1 o1.2
  have fi := find_ins (h := grantH a node lease nodes) hr.hs
  rw [upR_of hr h7, downR_of hr h7, upR_of hx hxl, downR_of hx hxl, e]
  simp only
  refine ⟨by rw [fi, if_pos k1.symm], m1.1, m2.1, by omega, by omega, trivial, trivial, trivial, fun o ho => by rw [fi, k1, if_neg ho], fun hn => ?_, fun g hg => ?_⟩
  · show (match findH a.hs node with | some h => h.ls | none => lease) = lease
    rw [hn]
  · show (match findH a.hs node with | some h => h.ls | none => lease) = g.ls
    rw [hg]
/-- AccountRounds: a report of the first holder -/
theorem find_head {b : Int} {h : Hd} {r : List Hd} : findH (h :: r) h.nd = some h := by rw [find_cons, if_pos rfl]
theorem drop_head {b : Int} {h : Hd} {r : List Hd} (g : hsB b (h :: r) = true) : dropH (h :: r) h.nd = r := by
  obtain ⟨h1, h2, h3⟩ := hs_cons g
  rw [drop_cons, if_pos rfl, drop_none (find_low h3 (Int.le_refl _))]
theorem report_head {x : Ac} {h : Hd} {r : List Hd} {net : Int} (hr : Right x) (hh : x.hs = h :: r) (hrd : ¬ x.rd = 0) (h1 : net ≤ h.up) (h2 : 0 ≤ h.dn + net) :
    reportE x h.nd h.ls (x.rd + 1) net = 152 ∧ reportE x h.nd h.ls x.rd net = 0 ∧ reportA x h.nd h.ls x.rd net = { x with base := x.base + net, hs := r } ∧ reportE (reportA x h.nd h.ls x.rd net) h.nd h.ls x.rd net = 151 := by
  have hf : findH x.hs h.nd = some h := by rw [hh]; exact find_head (b := 0)
  have hrb := (right_iff x).2 hr
  have e1 : reportE x h.nd h.ls (x.rd + 1) net = 152 := by
    unfold reportE
    rw [if_pos hrb, hf]
    simp only
    rw [if_pos trivial, if_pos (.inr (by omega))]
  have e2 : reportE x h.nd h.ls x.rd net = 0 := by
    unfold reportE
    rw [if_pos hrb, hf]
    simp only
    rw [if_pos trivial, if_neg (fun hh => hh.elim hrd (fun h => h trivial)), if_neg (by omega)]
  have hs0 := hr.hs
  rw [hh] at hs0
  have e3 : reportA x h.nd h.ls x.rd net = { x with base := x.base + net, hs := r } := by
    unfold reportA
    rw [if_pos e2, hh, drop_head hs0]
  refine ⟨e1, e2, e3, ?_⟩
  have hx := right_report e2
  unfold reportE
  rw [if_pos ((right_iff _).2 hx), e3]
  simp only
  rw [find_low (hs_cons hs0).2.2 (Int.le_refl _)]
/-- AccountLocks: a lock changes nothing till it is freed -/
theorem take_said {a : Ac} {l : Lk} (h : takeE a l = 0) (n lo hi : Int) (commit : Bool) :
    ¬ addE (takeA a l) n = 0 ∧ ¬ boundsE (takeA a l) lo hi = 0 ∧ ¬ takeE (takeA a l) l = 0 ∧ ¬ grantE (takeA a l) 1 1 1 = 0 ∧ freeE (takeA a l) = 0
    ∧ freeE (freeA (takeA a l) commit) = 60 ∧ (takeA a l).base = a.base ∧ freeA (takeA a l) commit = { a with base := if commit then a.base + l.n else a.base, lk := lk0 } := by
  obtain ⟨ht, hk, h1, h2⟩ := take_ok h
  obtain ⟨hr, hh, hl⟩ := total_ok ht
  have hx := right_take h
  have e : takeA a l = { a with lk := l } := by unfold takeA; rw [if_pos h]
  have hc : ¬ (takeA a l).lk.c = 0 := by rw [e]; simp [lockB] at hk; show ¬ l.c = 0; omega
  have hnt : totalB (takeA a l) = false := by unfold totalB; rw [decide_eq_false hc]; simp
  have hrb := (right_iff _).2 hx
  have hf : freeE (takeA a l) = 0 := by unfold freeE; rw [if_pos hrb, if_neg hc]
  have hfa : freeA (takeA a l) commit = { a with base := if commit then a.base + l.n else a.base, lk := lk0 } := by unfold freeA; rw [if_pos hf, e]
  refine ⟨fun g => hc (add_ok g).2.2.1, fun g => (by rw [(bounds_ok g).1] at hnt; cases hnt), fun g => (by rw [(take_ok g).1] at hnt; cases hnt), fun g => hc (grant_ok g).2.2.2.2.2.2.2, hf, ?_, by rw [e], hfa⟩
  have hy := right_free (commit := commit) hf
  unfold freeE
  rw [if_pos ((right_iff _).2 hy), if_pos (by rw [hfa]; rfl)]
end Ao
end Go.Proofs.Ytjcbhgkfbilifaa

namespace Go.Proofs.Ytjcbhgkfbilifaa
namespace Ao
set_option linter.unusedVariables false

/-- where a client's mark is, or would be -/
def posL (c : Int) : List Hd → Nat
  | [] => 0
  | x :: r => if x.nd < c then posL c r + 1 else 0
theorem posL_le (c : Int) : ∀ (l : List Hd), posL c l ≤ l.length
  | [] => Nat.le_refl _
  | x :: r => by
    unfold posL
    split
    · have := posL_le c r; simp; omega
    · omega
theorem posL_below {c : Int} : ∀ {l : List Hd} {j : Nat} {x : Hd}, l[j]? = some x → j < posL c l → x.nd < c
  | [], j, x, h, _ => by simp at h
  | y :: r, j, x, h, hj => by
    unfold posL at hj
    split at hj
    · rename_i hy
      cases j with
      | zero => simp at h; subst h; exact hy
      | succ j => exact posL_below (l := r) (by simpa using h) (by omega)
    · omega
theorem posL_above {b c : Int} : ∀ {l : List Hd} {j : Nat} {x : Hd}, hsB b l = true → l[j]? = some x → posL c l ≤ j → c ≤ x.nd
  | [], j, x, _, h, _ => by simp at h
  | y :: r, j, x, hr, h, hj => by
    obtain ⟨h1, h2, h3⟩ := hs_cons hr
    unfold posL at hj
    by_cases hy : y.nd < c
    · rw [if_pos hy] at hj
      cases j with
      | zero => omega
      | succ j => exact posL_above (l := r) h3 (by simpa using h) (by omega)
    · cases j with
      | zero => simp at h; subst h; omega
      | succ j =>
        have h4 := (hs_mem h3 x (List.mem_of_getElem? (by simpa using h))).1
        omega
theorem posL_unique {b c : Int} {l : List Hd} {p : Nat} (hr : hsB b l = true) (hp : p ≤ l.length) (h1 : ∀ j x, l[j]? = some x → j < p → x.nd < c) (h2 : ∀ j x, l[j]? = some x → p ≤ j → c ≤ x.nd) : p = posL c l := by
  have h3 := posL_le c l
  rcases Nat.lt_trichotomy p (posL c l) with h | h | h
  · have hlt : p < l.length := by omega
    have a := posL_below (c := c) (List.getElem?_eq_getElem hlt) h
    have b := h2 p _ (List.getElem?_eq_getElem hlt) (Nat.le_refl _)
    omega
  · exact h
  · have hlt : posL c l < l.length := by omega
    have a := posL_above (c := c) hr (List.getElem?_eq_getElem hlt) (Nat.le_refl _)
    have b := h1 _ _ (List.getElem?_eq_getElem hlt) h
    omega
theorem posL_at {b c : Int} : ∀ {l : List Hd}, hsB b l = true → findH l c = match l[posL c l]? with | some x => if x.nd = c then some x else none | none => none
  | [], _ => rfl
  | y :: r, hr => by
    obtain ⟨h1, h2, h3⟩ := hs_cons hr
    rw [find_cons]
    unfold posL
    by_cases hy : y.nd < c
    · rw [if_pos hy, if_neg (by omega), List.getElem?_cons_succ]
      exact posL_at h3
    · rw [if_neg hy]
      simp only [List.getElem?_cons_zero]
      by_cases e : y.nd = c
      · rw [if_pos e, if_pos e]
      · rw [if_neg e, if_neg e]
        exact find_low h3 (by omega)
theorem ins_new {m : Hd} : ∀ {l : List Hd} {b : Int}, hsB b l = true → findH l m.nd = none → insH m l = l.take (posL m.nd l) ++ [m] ++ l.drop (posL m.nd l)
  | [], b, _, _ => rfl
  | x :: r, b, h, hn => by
    obtain ⟨h1, h2, h3⟩ := hs_cons h
    rw [find_cons] at hn
    have e2 : ¬ x.nd = m.nd := by
      intro e
      rw [if_pos e] at hn
      cases hn
    rw [if_neg e2] at hn
    unfold insH posL
    by_cases e : x.nd < m.nd
    · rw [if_pos e, if_pos e, ins_new h3 hn]
      simp
    · rw [if_neg e, if_neg e2, if_neg e]
      simp
theorem ins_old {m y : Hd} : ∀ {l : List Hd} {b : Int}, hsB b l = true → findH l m.nd = some y → insH m l = l.set (posL m.nd l) m ∧ posL m.nd l < l.length
  | [], b, _, hn => by cases hn
  | x :: r, b, h, hn => by
    obtain ⟨h1, h2, h3⟩ := hs_cons h
    rw [find_cons] at hn
    unfold insH posL
    by_cases e : x.nd < m.nd
    · rw [if_neg (by omega)] at hn
      obtain ⟨h4, h5⟩ := ins_old h3 hn
      rw [if_pos e, if_pos e, h4]
      simp; exact h5
    · by_cases e2 : x.nd = m.nd
      · rw [if_neg e, if_pos e2, if_neg e]
        simp
      · rw [if_neg e2] at hn
        rw [find_low h3 (by omega)] at hn
        cases hn
theorem drop_at {c : Int} {y : Hd} : ∀ {l : List Hd} {b : Int}, hsB b l = true → findH l c = some y → dropH l c = l.take (posL c l) ++ l.drop (posL c l + 1) ∧ posL c l < l.length ∧ l[posL c l]? = some y
  | [], b, _, hn => by cases hn
  | x :: r, b, h, hn => by
    obtain ⟨h1, h2, h3⟩ := hs_cons h
    rw [find_cons] at hn
    unfold posL
    by_cases e : x.nd < c
    · rw [if_neg (by omega)] at hn
      obtain ⟨h4, h5, h6⟩ := drop_at h3 hn
      rw [if_pos e, drop_cons, if_neg (by omega), h4]
      refine ⟨by simp, by simp; exact h5, by rw [List.getElem?_cons_succ]; exact h6⟩
    · by_cases e2 : x.nd = c
      · rw [if_pos e2] at hn
        rw [if_neg e, drop_cons, if_pos e2, drop_none (find_low h3 (by omega))]
        exact ⟨by simp, by simp, by simpa using hn⟩
      · rw [if_neg e2] at hn
        rw [find_low h3 (by omega)] at hn
        cases hn
end Ao
end Go.Proofs.Ytjcbhgkfbilifaa

namespace Go.Proofs.Ytjcbhgkfbilifaa
namespace Lg
open Ao
set_option linter.unusedVariables false

/-- a right: group, key, lease, net -/
structure Rt where
  g : Int
  k : ByteArray
  ls : Int
  nt : Int
deriving DecidableEq, Inhabited
def rt0 : Rt := ⟨0, ⟨#[]⟩, 0, 0⟩
abbrev cmpB (a b : List UInt8) : Int := Lib.compareBytes a b
theorem cmpB_self : ∀ a : List UInt8, cmpB a a = 0
  | [] => rfl
  | x :: a => by
    show (if x < x then (-1 : Int) else if x < x then 1 else cmpB a a) = 0
    have : ¬ x < x := by rw [UInt8.lt_iff_toNat_lt]; omega
    rw [if_neg this, if_neg this, cmpB_self a]
theorem cmpB_swap : ∀ a b : List UInt8, cmpB b a = - cmpB a b
  | [], [] => rfl
  | [], _ :: _ => rfl
  | _ :: _, [] => rfl
  | x :: a, y :: b => by
    show (if y < x then (-1 : Int) else if x < y then 1 else cmpB b a) = -(if x < y then (-1 : Int) else if y < x then 1 else cmpB a b)
    rw [cmpB_swap a b]
    by_cases h1 : x < y
    · have h2 : ¬ y < x := by rw [UInt8.lt_iff_toNat_lt] at *; omega
      rw [if_neg h2, if_pos h1, if_pos h1]
      rfl
    · rw [if_neg h1, if_neg h1]
      split <;> rfl
theorem cmpB_zero : ∀ a b : List UInt8, cmpB a b = 0 → a = b
  | [], [], _ => rfl
  | [], _ :: _, h => absurd h (show ¬ ((-1 : Int) = 0) by omega)
  | _ :: _, [], h => absurd h (show ¬ ((1 : Int) = 0) by omega)
  | x :: a, y :: b, h => by
    have h' : (if x < y then (-1 : Int) else if y < x then 1 else cmpB a b) = 0 := h
    by_cases h1 : x < y
    · rw [if_pos h1] at h'; omega
    · rw [if_neg h1] at h'
      by_cases h2 : y < x
      · rw [if_pos h2] at h'; omega
      · rw [if_neg h2] at h'
        have e : x = y := by
          rw [UInt8.lt_iff_toNat_lt] at h1 h2
          exact UInt8.toNat_inj.1 (by omega)
        rw [e, cmpB_zero a b h']
theorem cmpB_less : ∀ a b : List UInt8, Op.bytesLess a b = decide (cmpB a b < 0)
  | [], [] => rfl
  | [], _ :: _ => rfl
  | _ :: _, [] => rfl
  | x :: a, y :: b => by
    show (decide (x < y) || (x == y && Op.bytesLess a b)) = decide ((if x < y then (-1 : Int) else if y < x then 1 else cmpB a b) < 0)
    rw [cmpB_less a b]
    by_cases h1 : x < y
    · rw [if_pos h1, decide_eq_true h1]; rfl
    · rw [if_neg h1, decide_eq_false h1, Bool.false_or]
      by_cases h2 : y < x
      · have e : ¬ x = y := by intro e; subst e; exact h1 h2
        rw [if_pos h2, beq_eq_false_iff_ne.2 e]; rfl
      · have e : x = y := by
          rw [UInt8.lt_iff_toNat_lt] at h1 h2
          exact UInt8.toNat_inj.1 (by omega)
        rw [if_neg h2, e, beq_self_eq_true, Bool.true_and]
theorem cmpB_trans : ∀ a b c : List UInt8, cmpB a b < 0 → cmpB b c < 0 → cmpB a c < 0
  | [], [], _, h, _ => absurd h (show ¬ ((0 : Int) < 0) by omega)
  | [], _ :: _, [], _, h => absurd h (show ¬ ((1 : Int) < 0) by omega)
  | [], _ :: _, _ :: _, _, _ => show (-1 : Int) < 0 by omega
  | _ :: _, [], _, h, _ => absurd h (show ¬ ((1 : Int) < 0) by omega)
  | _ :: _, _ :: _, [], _, h => absurd h (show ¬ ((1 : Int) < 0) by omega)
  | x :: a, y :: b, z :: c, h1, h2 => by
    have h1' : (if x < y then (-1 : Int) else if y < x then 1 else cmpB a b) < 0 := h1
    have h2' : (if y < z then (-1 : Int) else if z < y then 1 else cmpB b c) < 0 := h2
    show (if x < z then (-1 : Int) else if z < x then 1 else cmpB a c) < 0
    have ih := cmpB_trans a b c
    simp only [UInt8.lt_iff_toNat_lt] at *
    (repeat' split at h1') <;> (repeat' split at h2') <;> (repeat' split) <;> first | omega | (exact ih h1' h2')
/-- how two rights stand to one another -/
def cmpN (x y : Int) : Int := if x < y then -1 else if y < x then 1 else 0
def ordR (a b : Rt) : Int := if cmpN a.g b.g = 0 then cmpB a.k.data.toList b.k.data.toList else cmpN a.g b.g
theorem cmpN_swap (x y : Int) : cmpN y x = - cmpN x y := by unfold cmpN; (repeat' split) <;> omega
theorem cmpN_zero {x y : Int} : cmpN x y = 0 ↔ x = y := by unfold cmpN; constructor <;> intro h <;> (repeat' split at *) <;> omega
theorem cmpN_neg {x y : Int} : cmpN x y < 0 ↔ x < y := by unfold cmpN; constructor <;> intro h <;> (repeat' split at *) <;> omega
theorem key_inj {a b : ByteArray} (h : a.data.toList = b.data.toList) : a = b := WideShapes.bytes_inj h
theorem ord_zero {a b : Rt} : ordR a b = 0 ↔ a.g = b.g ∧ a.k = b.k := by
  unfold ordR
  by_cases h : cmpN a.g b.g = 0
  · rw [if_pos h]
    have hg := cmpN_zero.1 h
    exact ⟨fun e => ⟨hg, key_inj (cmpB_zero _ _ e)⟩, fun e => by rw [e.2]; exact cmpB_self _⟩
  · rw [if_neg h]
    exact ⟨fun e => absurd e h, fun e => absurd (cmpN_zero.2 e.1) h⟩
theorem ord_swap (a b : Rt) : ordR b a = - ordR a b := by
  unfold ordR
  rw [cmpN_swap a.g b.g, cmpB_swap a.k.data.toList b.k.data.toList]
  by_cases h : cmpN a.g b.g = 0
  · rw [if_pos h, if_pos (by omega)]
  · rw [if_neg h, if_neg (by omega)]
theorem ord_neg {a b : Rt} : ordR a b < 0 ↔ a.g < b.g ∨ (a.g = b.g ∧ cmpB a.k.data.toList b.k.data.toList < 0) := by
  unfold ordR
  by_cases h : cmpN a.g b.g = 0
  · rw [if_pos h]
    have hg := cmpN_zero.1 h
    constructor
    · intro e; exact .inr ⟨hg, e⟩
    · rintro (e | ⟨_, e⟩)
      · omega
      · exact e
  · rw [if_neg h, cmpN_neg]
    have hg : ¬ a.g = b.g := fun e => h (cmpN_zero.2 e)
    constructor
    · intro e; exact .inl e
    · rintro (e | ⟨e, _⟩)
      · exact e
      · exact absurd e hg
theorem ord_trans {a b c : Rt} (h1 : ordR a b < 0) (h2 : ordR b c < 0) : ordR a c < 0 := by
  rw [ord_neg] at *
  rcases h1 with h1 | ⟨h1, k1⟩ <;> rcases h2 with h2 | ⟨h2, k2⟩
  · left; omega
  · left; omega
  · left; omega
  · right; exact ⟨by omega, cmpB_trans _ _ _ k1 k2⟩
theorem ord_congr {a b c : Rt} (hg : a.g = b.g) (hk : a.k = b.k) : ordR a c = ordR b c ∧ ordR c a = ordR c b := by unfold ordR; rw [hg, hk]; exact ⟨rfl, rfl⟩
/-- may it stand in a ledger -/
def grpB (g : Int) : Bool := decide (1 ≤ g ∧ g < 8)
def mayB (r : Rt) : Bool := grpB r.g && keyB r.k && decide (1 ≤ r.ls)
def ltR (a b : Rt) : Prop := ordR a b < 0
instance (a b : Rt) : Decidable (ltR a b) := inferInstanceAs (Decidable (ordR a b < 0))
def Led (l : List Rt) : Prop := (∀ x ∈ l, mayB x = true) ∧ l.Pairwise ltR
instance (l : List Rt) : Decidable (Led l) := inferInstanceAs (Decidable (_ ∧ _))
def ledB (l : List Rt) : Bool := decide (Led l)
theorem led_nil : Led [] := ⟨fun x h => absurd h (by simp), List.Pairwise.nil⟩
theorem led_cons {x : Rt} {r : List Rt} (h : Led (x :: r)) : mayB x = true ∧ (∀ y ∈ r, ordR x y < 0) ∧ Led r := by
  obtain ⟨h1, h2⟩ := h
  rw [List.pairwise_cons] at h2
  exact ⟨h1 x (by simp), h2.1, fun y hy => h1 y (List.mem_cons_of_mem _ hy), h2.2⟩
theorem led_steps : ∀ {l : List Rt}, (∀ (j : Nat) x, l[j]? = some x → mayB x = true) → (∀ (j : Nat) x y, l[j]? = some x → l[j + 1]? = some y → ordR x y < 0) → Led l
  | [], _, _ => led_nil
  | [x], h1, _ => ⟨fun y hy => by simp at hy; subst hy; exact h1 0 _ rfl, by simp⟩
  | x :: y :: r, h1, h2 => by
    have ih : Led (y :: r) := led_steps (fun j z hz => h1 (j + 1) z (by simpa using hz)) (fun j z u hz hu => h2 (j + 1) z u (by simpa using hz) (by simpa using hu))
    have hxy : ordR x y < 0 := h2 0 x y rfl rfl
    refine ⟨fun z hz => ?_, List.pairwise_cons.2 ⟨fun z hz => ?_, ih.2⟩⟩
    · rcases List.mem_cons.1 hz with rfl | hz
      · exact h1 0 _ rfl
      · exact ih.1 z hz
    · rcases List.mem_cons.1 hz with rfl | hz
      · exact hxy
      · exact ord_trans hxy ((led_cons ih).2.1 z hz)
theorem led_get : ∀ {l : List Rt} {i j : Nat} {x y : Rt}, Led l → l[i]? = some x → l[j]? = some y → i < j → ordR x y < 0
  | [], i, j, x, y, _, h, _, _ => by simp at h
  | z :: r, 0, 0, x, y, h, hx, hy, hij => by omega
  | z :: r, 0, j + 1, x, y, h, hx, hy, _ => by
    simp at hx hy
    subst hx
    exact (led_cons h).2.1 y (List.mem_of_getElem? hy)
  | z :: r, i + 1, 0, x, y, h, hx, hy, hij => by omega
  | z :: r, i + 1, j + 1, x, y, h, hx, hy, hij => led_get (led_cons h).2.2 (by simpa using hx) (by simpa using hy) (by omega)
theorem led_may {l : List Rt} {i : Nat} {x : Rt} (h : Led l) (hx : l[i]? = some x) : mayB x = true := h.1 x (List.mem_of_getElem? hx)
/-- where one of r's group and key is, or would be -/
def posR (r : Rt) : List Rt → Nat
  | [] => 0
  | x :: t => if ordR x r < 0 then posR r t + 1 else 0
theorem posR_le (r : Rt) : ∀ l : List Rt, posR r l ≤ l.length
  | [] => Nat.le_refl _
  | x :: t => by
    unfold posR
    have := posR_le r t
    split <;> simp <;> omega
theorem posR_unique {r : Rt} : ∀ {l : List Rt} {p : Nat}, p ≤ l.length → (∀ (j : Nat) x, l[j]? = some x → j < p → ordR x r < 0) → (∀ (j : Nat) x, l[j]? = some x → p ≤ j → ¬ ordR x r < 0) → p = posR r l
  | [], p, hp, _, _ => by simp at hp; subst hp; rfl
  | x :: t, 0, hp, _, h2 => by
    unfold posR
    rw [if_neg (h2 0 x rfl (Nat.le_refl _))]
  | x :: t, p + 1, hp, h1, h2 => by
    unfold posR
    rw [if_pos (h1 0 x rfl (by omega)), ← posR_unique (l := t) (p := p) (by simp at hp; exact hp) (fun j y hy hj => h1 (j + 1) y (by simpa using hy) (by omega)) (fun j y hy hj => h2 (j + 1) y (by simpa using hy) (by omega))]
/-- the one of r's group and key, if there is one -/
def lkR (l : List Rt) (r : Rt) : Option Rt :=
  match l[posR r l]? with
  | some x => if ordR x r = 0 then some x else none
  | none => none
def insR (l : List Rt) (r : Rt) : List Rt := if (lkR l r).isSome then l.set (posR r l) r else l.take (posR r l) ++ [r] ++ l.drop (posR r l)
theorem lk_cons {x : Rt} {t : List Rt} {r : Rt} : lkR (x :: t) r = if ordR x r < 0 then lkR t r else if ordR x r = 0 then some x else none := by
  unfold lkR
  by_cases h : ordR x r < 0
  · rw [show posR r (x :: t) = posR r t + 1 by rw [posR, if_pos h], if_pos h]; simp
  · rw [show posR r (x :: t) = 0 by rw [posR, if_neg h], if_neg h]; simp
theorem ins_cons {x : Rt} {t : List Rt} {r : Rt} : insR (x :: t) r = if ordR x r < 0 then x :: insR t r else if ordR x r = 0 then r :: t else r :: x :: t := by
  unfold insR
  rw [lk_cons]
  by_cases h : ordR x r < 0
  · rw [show posR r (x :: t) = posR r t + 1 by rw [posR, if_pos h], if_pos h, if_pos h]
    by_cases h2 : (lkR t r).isSome
    · rw [if_pos h2, if_pos h2]; rfl
    · rw [if_neg h2, if_neg h2]; rfl
  · rw [show posR r (x :: t) = 0 by rw [posR, if_neg h], if_neg h, if_neg h]
    by_cases h2 : ordR x r = 0
    · rw [if_pos h2, if_pos h2]; rfl
    · rw [if_neg h2, if_neg h2]; rfl
theorem filt_all {p : Rt → Bool} {l : List Rt} (h : ∀ x ∈ l, p x = true) : l.filter p = l := List.filter_eq_self.2 h
theorem filt_none {p : Rt → Bool} {l : List Rt} (h : ∀ x ∈ l, p x = false) : l.filter p = [] := List.filter_eq_nil_iff.2 fun x hx => by rw [h x hx]; simp
/-- as the document puts it: what stands ahead, the right, what stands behind -/
theorem put_eq {r : Rt} : ∀ {l : List Rt}, Led l → insR l r = l.filter (fun x => decide (ordR x r < 0)) ++ r :: l.filter (fun x => decide (ordR r x < 0))
  | [], _ => rfl
  | x :: t, h => by
    obtain ⟨h1, h2, h3⟩ := led_cons h
    rw [ins_cons, List.filter_cons, List.filter_cons]
    by_cases a : ordR x r < 0
    · have b : ¬ ordR r x < 0 := by rw [ord_swap x r]; omega
      rw [if_pos a, decide_eq_true a, decide_eq_false b, put_eq h3]; rfl
    · rw [if_neg a, decide_eq_false a]
      have up : ∀ y ∈ t, ordR r y < 0 := fun y hy => by
        by_cases e : ordR x r = 0
        · rw [← (ord_congr (ord_zero.1 e).1 (ord_zero.1 e).2 (c := y)).1]; exact h2 y hy
        · exact ord_trans (by rw [ord_swap x r]; omega) (h2 y hy)
      have f1 : t.filter (fun x => decide (ordR x r < 0)) = [] := filt_none fun y hy => decide_eq_false (by have := up y hy; rw [ord_swap r y]; omega)
      have f2 : t.filter (fun x => decide (ordR r x < 0)) = t := filt_all fun y hy => decide_eq_true (up y hy)
      rw [f1, f2]
      by_cases e : ordR x r = 0
      · rw [if_pos e, decide_eq_false (by rw [ord_swap x r]; omega)]; rfl
      · rw [if_neg e, decide_eq_true (by rw [ord_swap x r]; omega)]; rfl
theorem led_ins {r : Rt} (hr : mayB r = true) : ∀ {l : List Rt}, Led l → Led (insR l r)
  | [], _ => ⟨fun x hx => by simp [insR, lkR] at hx; subst hx; exact hr, by simp [insR, lkR]⟩
  | x :: t, h => by
    obtain ⟨h1, h2, h3⟩ := led_cons h
    have ih := led_ins hr h3
    have sub : ∀ y ∈ insR t r, y = r ∨ y ∈ t := fun y hy => by
      rw [put_eq h3] at hy
      simp at hy
      rcases hy with hy | hy | hy
      · exact .inr hy.1
      · exact .inl hy
      · exact .inr hy.1
    rw [ins_cons]
    by_cases a : ordR x r < 0
    · rw [if_pos a]
      refine ⟨fun y hy => ?_, List.pairwise_cons.2 ⟨fun y hy => ?_, ih.2⟩⟩
      · rcases List.mem_cons.1 hy with rfl | hy
        · exact h1
        · exact ih.1 y hy
      · rcases sub y hy with rfl | hy
        · exact a
        · exact h2 y hy
    · rw [if_neg a]
      have up : ∀ y ∈ t, ordR r y < 0 := fun y hy => by
        by_cases e : ordR x r = 0
        · rw [← (ord_congr (ord_zero.1 e).1 (ord_zero.1 e).2 (c := y)).1]; exact h2 y hy
        · exact ord_trans (by rw [ord_swap x r]; omega) (h2 y hy)
      by_cases e : ordR x r = 0
      · rw [if_pos e]
        exact ⟨fun y hy => by rcases List.mem_cons.1 hy with rfl | hy <;> first | exact hr | exact h3.1 y hy, List.pairwise_cons.2 ⟨up, h3.2⟩⟩
      · rw [if_neg e]
        refine ⟨fun y hy => ?_, List.pairwise_cons.2 ⟨fun y hy => ?_, h.2⟩⟩
        · rcases List.mem_cons.1 hy with rfl | hy
          · exact hr
          · exact h.1 y hy
        · rcases List.mem_cons.1 hy with rfl | hy
          · show ordR r y < 0
            rw [ord_swap y r]; omega
          · exact up y hy
/-- what was spent of a lease -/
def unR (r : Rt) : Rt := { r with nt := 0 }
def findR (l : List Rt) (f : Rt) : Rt := match lkR l f with | some x => if unR x = f then x else f | none => f
def isL (g : Int) (k : ByteArray) (ls : Int) (x : Rt) : Bool := decide (x.g = g) && decide (x.k = k) && decide (x.ls = ls)
def frR (g : Int) (k : ByteArray) (ls : Int) : Rt := ⟨g, k, ls, 0⟩
def netL (l : List Rt) (g : Int) (k : ByteArray) (ls : Int) : Int := match l.find? (isL g k ls) with | some x => x.nt | none => 0
theorem un_eq {x : Rt} {g ls : Int} {k : ByteArray} : unR x = frR g k ls ↔ isL g k ls x = true := by
  obtain ⟨a, b, c, d⟩ := x
  simp [unR, frR, isL, and_assoc]
theorem find_cons' {x : Rt} {t : List Rt} {f : Rt} : findR (x :: t) f = if ordR x f < 0 then findR t f else if unR x = f then x else f := by
  unfold findR
  rw [lk_cons]
  by_cases h : ordR x f < 0
  · rw [if_pos h, if_pos h]
  · rw [if_neg h, if_neg h]
    by_cases h2 : ordR x f = 0
    · rw [if_pos h2]
    · rw [if_neg h2]
      have : ¬ unR x = f := fun e => h2 (by subst e; exact ord_zero.2 ⟨rfl, rfl⟩)
      rw [if_neg this]
theorem find_eq {g ls : Int} {k : ByteArray} : ∀ {l : List Rt}, Led l → findR l (frR g k ls) = ⟨g, k, ls, netL l g k ls⟩
  | [], _ => rfl
  | x :: t, h => by
    obtain ⟨h1, h2, h3⟩ := led_cons h
    rw [find_cons']
    unfold netL
    rw [List.find?_cons]
    by_cases e : unR x = frR g k ls
    · have e0 : ¬ ordR x (frR g k ls) < 0 := by
        have : ordR x (frR g k ls) = 0 := ord_zero.2 (by rw [← e]; exact ⟨rfl, rfl⟩)
        omega
      rw [if_neg e0, if_pos e, un_eq.1 e]
      obtain ⟨a, b, c, d⟩ := x
      simp [unR, frR] at e
      obtain ⟨rfl, rfl, rfl⟩ := e
      rfl
    · have e1 : isL g k ls x = false := by
        cases hh : isL g k ls x
        · rfl
        · exact absurd (un_eq.2 hh) e
      rw [e1, if_neg e]
      by_cases a : ordR x (frR g k ls) < 0
      · rw [if_pos a, find_eq h3]; rfl
      · rw [if_neg a]
        have : t.find? (isL g k ls) = none := by
          rw [List.find?_eq_none]
          intro y hy hl
          have e2 := un_eq.2 hl
          have e3 : ordR y (frR g k ls) = 0 := ord_zero.2 (by rw [← e2]; exact ⟨rfl, rfl⟩)
          have e4 := h2 y hy
          rw [(ord_congr (ord_zero.1 e3).1 (ord_zero.1 e3).2 (c := x)).2] at e4
          exact a e4
        rw [this]; rfl
def netV (l : List Rt) (g : Int) (k : ByteArray) (ls : Int) : Int := if ledB l = true then netL l g k ls else 0
theorem led_iff {l : List Rt} : ledB l = true ↔ Led l := by unfold ledB; exact decide_eq_true_iff
theorem find_ins {r : Rt} {g ls : Int} {k : ByteArray} : ∀ {l : List Rt}, Led l → (insR l r).find? (isL g k ls) = if r.g = g ∧ r.k = k then (if r.ls = ls then some r else none) else l.find? (isL g k ls)
  | [], _ => by
    simp only [insR, lkR, posR, List.getElem?_nil, Option.isSome_none, Bool.false_eq_true, if_false, List.take_nil, List.nil_append, List.drop_nil, List.append_nil, List.find?_cons, List.find?_nil, isL]
    by_cases a : r.g = g ∧ r.k = k
    · rw [if_pos a, decide_eq_true a.1, decide_eq_true a.2]
      by_cases b : r.ls = ls <;> simp [b]
    · rw [if_neg a]
      by_cases c : r.g = g
      · have d : ¬ r.k = k := fun d => a ⟨c, d⟩
        simp [d]
      · simp [c]
  | x :: t, h => by
    obtain ⟨h1, h2, h3⟩ := led_cons h
    have ih := find_ins (r := r) (g := g) (ls := ls) (k := k) h3
    rw [ins_cons, List.find?_cons (p := isL g k ls) (a := x)]
    have rself : (r.g = g ∧ r.k = k) → isL g k ls r = decide (r.ls = ls) := fun e => by unfold isL; rw [decide_eq_true e.1, decide_eq_true e.2]; rfl
    have rnot : ¬ (r.g = g ∧ r.k = k) → isL g k ls r = false := fun e => by
      unfold isL
      by_cases c : r.g = g
      · rw [decide_eq_false (fun d => e ⟨c, d⟩)]; simp
      · rw [decide_eq_false c]; simp
    have tnone : (∀ y ∈ t, ¬ (y.g = g ∧ y.k = k)) → t.find? (isL g k ls) = none := fun e => by
      rw [List.find?_eq_none]
      intro y hy hl
      unfold isL at hl
      simp at hl
      exact e y hy ⟨hl.1.1, hl.1.2⟩
    by_cases a : ordR x r < 0
    · rw [if_pos a, List.find?_cons, ih]
      by_cases b : r.g = g ∧ r.k = k
      · rw [if_pos b]
        have c : isL g k ls x = false := by
          unfold isL
          by_cases c1 : x.g = g
          · have : ¬ x.k = k := fun c2 => by
              have : ordR x r = 0 := ord_zero.2 ⟨by rw [c1, b.1], by rw [c2, b.2]⟩
              omega
            rw [decide_eq_false this]; simp
          · rw [decide_eq_false c1]; simp
        rw [c]
        rw [if_pos b]
      · rw [if_neg b, if_neg b]
    · rw [if_neg a]
      by_cases e : ordR x r = 0
      · obtain ⟨e1, e2⟩ := ord_zero.1 e
        rw [if_pos e, List.find?_cons]
        by_cases b : r.g = g ∧ r.k = k
        · rw [if_pos b, rself b]
          by_cases c : r.ls = ls
          · rw [decide_eq_true c, if_pos c]
          · rw [decide_eq_false c, if_neg c]
            apply tnone
            intro y hy ⟨y1, y2⟩
            have := h2 y hy
            rw [ord_zero.2 ⟨by rw [e1, b.1, y1], by rw [e2, b.2, y2]⟩] at this
            omega
        · rw [if_neg b, rnot b]
          have c : isL g k ls x = false := by
            unfold isL
            by_cases c1 : x.g = g
            · rw [decide_eq_false (fun c2 : x.k = k => b ⟨by rw [← e1, c1], by rw [← e2, c2]⟩)]; simp
            · rw [decide_eq_false c1]; simp
          rw [c]
      · rw [if_neg e, List.find?_cons]
        have lt : ordR r x < 0 := by rw [ord_swap x r]; omega
        by_cases b : r.g = g ∧ r.k = k
        · rw [if_pos b, rself b]
          by_cases c : r.ls = ls
          · rw [decide_eq_true c, if_pos c]
          · rw [decide_eq_false c, if_neg c]
            have ne : ∀ y ∈ x :: t, ¬ (y.g = g ∧ y.k = k) := fun y hy ⟨y1, y2⟩ => by
              have : ordR r y < 0 := by
                rcases List.mem_cons.1 hy with rfl | hy
                · exact lt
                · exact ord_trans lt (h2 y hy)
              rw [ord_zero.2 ⟨by rw [b.1, y1], by rw [b.2, y2]⟩] at this
              omega
            have f : (x :: t).find? (isL g k ls) = none := by
              rw [List.find?_eq_none]
              intro y hy hl
              unfold isL at hl
              simp at hl
              exact ne y hy ⟨hl.1.1, hl.1.2⟩
            exact f
        · rw [if_neg b, rnot b]
          exact (List.find?_cons ..)
theorem net_ins {l : List Rt} {r : Rt} (h : Led l) (g : Int) (k : ByteArray) (ls : Int) : netL (insR l r) g k ls = if r.g = g ∧ r.k = k then (if r.ls = ls then r.nt else 0) else netL l g k ls := by
  unfold netL
  rw [find_ins h]
  by_cases a : r.g = g ∧ r.k = k
  · rw [if_pos a, if_pos a]
    by_cases b : r.ls = ls
    · rw [if_pos b, if_pos b]
    · rw [if_neg b, if_neg b]
  · rw [if_neg a, if_neg a]
end Lg
end Go.Proofs.Ytjcbhgkfbilifaa
