/- Tables of marks as plain lists: what is a table, what each call makes of one. No program, no condition. -/
import Derived.Test.YtbeikdppcfpplaaBase
namespace Go.Proofs.Ytbeikdppcfpplaa
namespace Sn
set_option linter.unusedVariables false

structure An where
  e : Int
  v : Int
  lo : Int
  hi : Int
deriving DecidableEq
structure Mk where
  c : Int
  s : Int
  o : Bool
  a : An
deriving DecidableEq
def an0 : An := ⟨0, 0, 0, 0⟩
def mk0 : Mk := ⟨0, 0, false, an0⟩
def cliB (c : Int) : Bool := decide (1 ≤ c ∧ c ≤ 8)
def mayB (m : Mk) : Bool := cliB m.c && decide (0 ≤ m.s ∧ m.s ≤ 4611686018427387904) && (!m.o || (decide (0 < m.s) && decide (m.a = an0)))
def rightB : Int → List Mk → Bool
  | _, [] => true
  | b, m :: r => decide (b < m.c) && mayB m && rightB m.c r
def Right (l : List Mk) : Prop := rightB 0 l = true
def lkM (l : List Mk) (c : Int) : Option Mk := l.find? (fun m => m.c == c)
def tabN (f : Int → Option Mk) : Int → Nat → List Mk
  | _, 0 => []
  | k, n + 1 => (f (k + 1)).toList ++ tabN f (k + 1) n
def tab (f : Int → Option Mk) : List Mk := tabN f 0 8

theorem mayB_cli {m : Mk} (h : mayB m = true) : 1 ≤ m.c ∧ m.c ≤ 8 := by simp [mayB, cliB] at h; exact h.1.1
theorem mayB_seq {m : Mk} (h : mayB m = true) : 0 ≤ m.s ∧ m.s ≤ 4611686018427387904 := by simp [mayB, cliB] at h; exact h.1.2
theorem mayB_open {m : Mk} (h : mayB m = true) (ho : m.o = true) : 0 < m.s ∧ m.a = an0 := by simp [mayB, cliB, ho] at h; exact h.2
theorem right_cons {b : Int} {m : Mk} {r : List Mk} (h : rightB b (m :: r) = true) : b < m.c ∧ mayB m = true ∧ rightB m.c r = true := by
  simp [rightB] at h
  exact ⟨h.1.1, h.1.2, h.2⟩
theorem right_low {b b' : Int} : ∀ {l : List Mk}, rightB b l = true → b' ≤ b → rightB b' l = true
  | [], _, _ => rfl
  | m :: r, h, hb => by
    obtain ⟨h1, h2, h3⟩ := right_cons h
    simp [rightB, h2, h3]
    omega
theorem right_mem {b : Int} : ∀ {l : List Mk}, rightB b l = true → ∀ m ∈ l, b < m.c ∧ mayB m = true
  | [], _, m, hm => by simp at hm
  | x :: r, h, m, hm => by
    obtain ⟨h1, h2, h3⟩ := right_cons h
    rcases List.mem_cons.1 hm with rfl | hm
    · exact ⟨h1, h2⟩
    · obtain ⟨h4, h5⟩ := right_mem h3 m hm
      exact ⟨by omega, h5⟩
theorem look_mem {l : List Mk} {c : Int} {m : Mk} (h : lkM l c = some m) : m ∈ l ∧ m.c = c := ⟨List.mem_of_find?_eq_some h, by simpa using List.find?_some h⟩
theorem look_cons (x : Mk) (r : List Mk) (c : Int) : lkM (x :: r) c = if x.c = c then some x else lkM r c := by
  unfold lkM
  rw [List.find?_cons]
  by_cases h : x.c = c
  · simp [h]
  · have h2 : (x.c == c) = false := by simp [h]
    rw [h2, if_neg h]
theorem look_low {b c : Int} : ∀ {l : List Mk}, rightB b l = true → c ≤ b → lkM l c = none
  | l, h, hc => by
    unfold lkM
    rw [List.find?_eq_none]
    intro x hx
    have := (right_mem h x hx).1
    simp; omega
theorem tabN_congr {f g : Int → Option Mk} : ∀ (n : Nat) (k : Int), (∀ c, k < c → f c = g c) → tabN f k n = tabN g k n
  | 0, _, _ => rfl
  | n + 1, k, h => by
    show _ ++ _ = _ ++ _
    rw [h (k + 1) (by omega), tabN_congr n (k + 1) fun c hc => h c (by omega)]
theorem tabN_none : ∀ (n : Nat) (k : Int) (f : Int → Option Mk), (∀ c, f c = none) → tabN f k n = []
  | 0, _, _, _ => rfl
  | n + 1, k, f, h => by
    show _ ++ _ = _
    rw [h, tabN_none n (k + 1) f h]
    rfl
theorem tabN_look : ∀ (n : Nat) (k : Int) (l : List Mk), rightB k l = true → k + n = 8 → tabN (lkM l) k n = l
  | 0, k, [], _, _ => rfl
  | 0, k, m :: r, h, hk => by
    obtain ⟨h1, h2, _⟩ := right_cons h
    have := mayB_cli h2
    simp at hk
    omega
  | n + 1, k, [], _, _ => tabN_none _ _ _ fun c => rfl
  | n + 1, k, m :: r, h, hk => by
    obtain ⟨h1, h2, h3⟩ := right_cons h
    have hk2 : k + 1 + (n : Int) = 8 := by push_cast at hk; omega
    show _ ++ _ = _
    by_cases e : m.c = k + 1
    · rw [look_cons, if_pos e]
      have hc : tabN (lkM (m :: r)) (k + 1) n = tabN (lkM r) (k + 1) n := tabN_congr n (k + 1) fun c hc => by rw [look_cons, if_neg (by omega)]
      rw [hc, tabN_look n (k + 1) r (by rw [← e]; exact h3) hk2]
      rfl
    · have hr : rightB (k + 1) (m :: r) = true := by simp [rightB, h2, h3]; omega
      rw [look_low hr (Int.le_refl _), tabN_look n (k + 1) (m :: r) hr hk2]
      rfl
theorem tab_look {l : List Mk} (h : Right l) : tab (lkM l) = l := tabN_look 8 0 l h rfl
/-- what each client has, as a table has it -/
def Good (f : Int → Option Mk) : Prop := ∀ c m, f c = some m → m.c = c ∧ mayB m = true
theorem good_look {l : List Mk} (h : Right l) : Good (lkM l) := fun c m hm => ⟨(look_mem hm).2, (right_mem h m (look_mem hm).1).2⟩
theorem right_tabN {f : Int → Option Mk} (hf : Good f) : ∀ (n : Nat) (k : Int), rightB k (tabN f k n) = true
  | 0, _ => rfl
  | n + 1, k => by
    have ih := right_tabN hf n (k + 1)
    show rightB k (_ ++ _) = true
    cases e : f (k + 1) with
    | none => exact right_low ih (by omega)
    | some m =>
      obtain ⟨h1, h2⟩ := hf _ _ e
      show rightB k (m :: tabN f (k + 1) n) = true
      simp [rightB, h2, h1, ih]
      omega
theorem right_tab {f : Int → Option Mk} (hf : Good f) : Right (tab f) := right_tabN hf 8 0
theorem look_tabN {f : Int → Option Mk} (hf : Good f) : ∀ (n : Nat) (k c : Int), k < c → c ≤ k + n → lkM (tabN f k n) c = f c
  | 0, k, c, h1, h2 => by simp at h2; omega
  | n + 1, k, c, h1, h2 => by
    show lkM (_ ++ _) c = _
    by_cases e : c = k + 1
    · subst e
      cases e2 : f (k + 1) with
      | none => exact look_low (right_tabN hf n (k + 1)) (Int.le_refl _)
      | some m =>
        show lkM (m :: _) _ = _
        rw [look_cons, if_pos (hf _ _ e2).1]
    · have ih := look_tabN hf n (k + 1) c (by omega) (by push_cast at h2; omega)
      cases e2 : f (k + 1) with
      | none => exact ih
      | some m =>
        show lkM (m :: _) _ = _
        rw [look_cons, if_neg (by rw [(hf _ _ e2).1]; omega)]
        exact ih
theorem look_tab {f : Int → Option Mk} (hf : Good f) {c : Int} (h1 : 1 ≤ c) (h2 : c ≤ 8) : lkM (tab f) c = f c := look_tabN hf 8 0 c (by omega) (by simpa using h2)
theorem look_out {l : List Mk} (h : Right l) {c : Int} (hc : ¬ (1 ≤ c ∧ c ≤ 8)) : lkM l c = none := by
  cases e : lkM l c with
  | none => rfl
  | some m =>
    obtain ⟨h1, h2⟩ := good_look h _ _ e
    have := mayB_cli h2
    omega
theorem look_tab_all {f : Int → Option Mk} (hf : Good f) (c : Int) : lkM (tab f) c = f c := by
  by_cases h : 1 ≤ c ∧ c ≤ 8
  · exact look_tab hf h.1 h.2
  · rw [look_out (right_tab hf) h]
    cases e : f c with
    | none => rfl
    | some m =>
      obtain ⟨h1, h2⟩ := hf _ _ e
      have := mayB_cli h2
      omega
theorem tab_ext {l r : List Mk} (hl : Right l) (hr : Right r) (h : ∀ c, lkM l c = lkM r c) : l = r := by
  rw [← tab_look hl, ← tab_look hr, show lkM l = lkM r from funext h]
theorem tabN_length (f : Int → Option Mk) : ∀ (n : Nat) (k : Int), (tabN f k n).length ≤ n
  | 0, _ => Nat.le_refl _
  | n + 1, k => by
    show (_ ++ _ : List Mk).length ≤ _
    have := tabN_length f n (k + 1)
    rw [List.length_append]
    cases f (k + 1) <;> simp <;> omega
theorem right_length {l : List Mk} (h : Right l) : l.length ≤ 8 := by
  rw [← tab_look h]
  exact tabN_length _ 8 0
theorem tabN_snoc (f : Int → Option Mk) : ∀ (n : Nat) (k : Int), tabN f k (n + 1) = tabN f k n ++ (f (k + n + 1)).toList
  | 0, k => by simp [tabN]
  | n + 1, k => by
    show _ ++ tabN f (k + 1) (n + 1) = (_ ++ tabN f (k + 1) n) ++ _
    rw [tabN_snoc f n (k + 1), List.append_assoc, show k + 1 + (n : Int) + 1 = k + ((n + 1 : Nat) : Int) + 1 by push_cast; omega]

/-- l with the mark m, in the place of its client's -/
def upd (f : Int → Option Mk) (m : Mk) : Int → Option Mk := fun c => if c = m.c then some m else f c
def withL (l : List Mk) (m : Mk) : List Mk := tab (upd (lkM l) m)
theorem good_upd {f : Int → Option Mk} (hf : Good f) {m : Mk} (hm : mayB m = true) : Good (upd f m) := by
  intro c x hx
  unfold upd at hx
  by_cases e : c = m.c
  · rw [if_pos e] at hx
    cases hx
    exact ⟨e.symm, hm⟩
  · rw [if_neg e] at hx
    exact hf _ _ hx
theorem right_with {l : List Mk} (h : Right l) {m : Mk} (hm : mayB m = true) : Right (withL l m) := right_tab (good_upd (good_look h) hm)
theorem look_with {l : List Mk} (h : Right l) {m : Mk} (hm : mayB m = true) (c : Int) : lkM (withL l m) c = if c = m.c then some m else lkM l c := look_tab_all (good_upd (good_look h) hm) c
/-- where a client's mark is, or would be -/
def posL (c : Int) : List Mk → Nat
  | [] => 0
  | x :: r => if x.c < c then posL c r + 1 else 0
theorem posL_le (c : Int) : ∀ (l : List Mk), posL c l ≤ l.length
  | [] => Nat.le_refl _
  | x :: r => by
    unfold posL
    split
    · have := posL_le c r; simp; omega
    · omega
theorem posL_below {c : Int} : ∀ {l : List Mk} {j : Nat} {x : Mk}, l[j]? = some x → j < posL c l → x.c < c
  | [], j, x, h, _ => by simp at h
  | y :: r, j, x, h, hj => by
    unfold posL at hj
    split at hj
    · rename_i hy
      cases j with
      | zero => simp at h; subst h; exact hy
      | succ j => exact posL_below (l := r) (by simpa using h) (by omega)
    · omega
theorem posL_above {b c : Int} : ∀ {l : List Mk} {j : Nat} {x : Mk}, rightB b l = true → l[j]? = some x → posL c l ≤ j → c ≤ x.c
  | [], j, x, _, h, _ => by simp at h
  | y :: r, j, x, hr, h, hj => by
    obtain ⟨h1, h2, h3⟩ := right_cons hr
    unfold posL at hj
    by_cases hy : y.c < c
    · rw [if_pos hy] at hj
      cases j with
      | zero => omega
      | succ j => exact posL_above (l := r) h3 (by simpa using h) (by omega)
    · cases j with
      | zero => simp at h; subst h; omega
      | succ j =>
        have h4 := (right_mem h3 x (List.mem_of_getElem? (by simpa using h))).1
        omega
theorem posL_unique {b c : Int} {l : List Mk} {p : Nat} (hr : rightB b l = true) (hp : p ≤ l.length) (h1 : ∀ j x, l[j]? = some x → j < p → x.c < c) (h2 : ∀ j x, l[j]? = some x → p ≤ j → c ≤ x.c) : p = posL c l := by
  have h3 := posL_le c l
  rcases Nat.lt_trichotomy p (posL c l) with h | h | h
  · have hlt : p < l.length := by omega
    have a := posL_below (c := c) (List.getElem?_eq_getElem hlt) h
    have b := h2 p _ (List.getElem?_eq_getElem hlt) (Nat.le_refl _)
    omega
  · exact h
  · have hlt : posL c l < l.length := by omega
    have a := posL_above (c := c) hr (List.getElem?_eq_getElem hlt) (Nat.le_refl _)
    have b := h1 _ _ (List.getElem?_eq_getElem hlt) h
    omega
theorem posL_at {b c : Int} : ∀ {l : List Mk}, rightB b l = true → lkM l c = match l[posL c l]? with | some x => if x.c = c then some x else none | none => none
  | [], _ => rfl
  | y :: r, hr => by
    obtain ⟨h1, h2, h3⟩ := right_cons hr
    rw [look_cons]
    unfold posL
    by_cases hy : y.c < c
    · rw [if_pos hy, if_neg (by omega), List.getElem?_cons_succ]
      exact posL_at h3
    · rw [if_neg hy]
      simp only [List.getElem?_cons_zero]
      by_cases e : y.c = c
      · rw [if_pos e, if_pos e]
      · rw [if_neg e, if_neg e]
        exact look_low h3 (by omega)
def ins (m : Mk) : List Mk → List Mk
  | [] => [m]
  | x :: r => if x.c < m.c then x :: ins m r else if x.c = m.c then m :: r else m :: x :: r
theorem right_ins {m : Mk} (hm : mayB m = true) : ∀ {l : List Mk} {b : Int}, rightB b l = true → b < m.c → rightB b (ins m l) = true
  | [], b, _, hb => by simp [ins, rightB, hm, hb]
  | x :: r, b, h, hb => by
    obtain ⟨h1, h2, h3⟩ := right_cons h
    unfold ins
    by_cases e : x.c < m.c
    · rw [if_pos e]
      simp [rightB, h1, h2, right_ins hm h3 e]
    · rw [if_neg e]
      by_cases e2 : x.c = m.c
      · rw [if_pos e2]
        simp [rightB, hm, hb]
        rw [← e2]; exact h3
      · rw [if_neg e2]
        simp [rightB, hm, hb, h2, h3]
        omega
theorem look_ins {m : Mk} : ∀ {l : List Mk} {b : Int}, rightB b l = true → ∀ c, lkM (ins m l) c = if c = m.c then some m else lkM l c
  | [], b, _, c => by
    show lkM [m] c = _
    rw [look_cons]
    by_cases e : m.c = c
    · rw [if_pos e, if_pos e.symm]
    · rw [if_neg e, if_neg fun h => e h.symm]
  | x :: r, b, h, c => by
    obtain ⟨h1, h2, h3⟩ := right_cons h
    unfold ins
    by_cases e : x.c < m.c
    · rw [if_pos e, look_cons, look_cons, look_ins h3 c]
      by_cases e3 : x.c = c
      · rw [if_pos e3, if_neg (by omega), if_pos e3]
      · rw [if_neg e3, if_neg e3]
    · rw [if_neg e]
      by_cases e2 : x.c = m.c
      · rw [if_pos e2, look_cons, look_cons]
        by_cases e3 : m.c = c
        · rw [if_pos e3, if_pos e3.symm]
        · rw [if_neg e3, if_neg (show ¬ c = m.c from fun h => e3 h.symm), if_neg (by omega)]
      · rw [if_neg e2, look_cons m]
        by_cases e3 : m.c = c
        · rw [if_pos e3, if_pos e3.symm]
        · rw [if_neg e3, if_neg (fun h => e3 h.symm)]
theorem ins_with {l : List Mk} (h : Right l) {m : Mk} (hm : mayB m = true) : ins m l = withL l m := by
  have hc := mayB_cli hm
  refine tab_ext (right_ins hm h (by omega)) (right_with h hm) fun c => ?_
  rw [look_ins h c, look_with h hm c]
theorem ins_new {m : Mk} : ∀ {l : List Mk} {b : Int}, rightB b l = true → lkM l m.c = none → ins m l = l.take (posL m.c l) ++ [m] ++ l.drop (posL m.c l)
  | [], b, _, _ => rfl
  | x :: r, b, h, hn => by
    obtain ⟨h1, h2, h3⟩ := right_cons h
    rw [look_cons] at hn
    have e2 : ¬ x.c = m.c := by
      intro e
      rw [if_pos e] at hn
      cases hn
    rw [if_neg e2] at hn
    unfold ins posL
    by_cases e : x.c < m.c
    · rw [if_pos e, if_pos e, ins_new h3 hn]
      simp
    · rw [if_neg e, if_neg e2, if_neg e]
      simp
theorem ins_old {m y : Mk} : ∀ {l : List Mk} {b : Int}, rightB b l = true → lkM l m.c = some y → ins m l = l.set (posL m.c l) m ∧ posL m.c l < l.length
  | [], b, _, hn => by cases hn
  | x :: r, b, h, hn => by
    obtain ⟨h1, h2, h3⟩ := right_cons h
    rw [look_cons] at hn
    unfold ins posL
    by_cases e : x.c < m.c
    · rw [if_neg (by omega)] at hn
      obtain ⟨h4, h5⟩ := ins_old h3 hn
      rw [if_pos e, if_pos e, h4]
      simp; exact h5
    · by_cases e2 : x.c = m.c
      · rw [if_neg e, if_pos e2, if_neg e]
        simp
      · rw [if_neg e2] at hn
        rw [look_low h3 (by omega)] at hn
        cases hn

/-- what each call answers -/
def seqB (s : Int) : Bool := decide (1 ≤ s ∧ s ≤ 4611686018427387904)
def checkE (l : List Mk) : Int := if rightB 0 l then 0 else 21
def findM (l : List Mk) (c : Int) : Option Mk := if rightB 0 l then lkM l c else none
def beginE (l : List Mk) (c s : Int) : Int := if rightB 0 l then (if cliB c && seqB s then (match lkM l c with | some m => if s < m.s then 80 else 0 | none => 0) else 1) else 21
def beginF (l : List Mk) (c s : Int) : Bool := rightB 0 l && cliB c && seqB s && (match lkM l c with | some m => decide (m.s < s) | none => true)
def opened (c s : Int) : Mk := ⟨c, s, true, an0⟩
def beginL (l : List Mk) (c s : Int) : List Mk := if beginE l c s = 0 then (if beginF l c s then withL l (opened c s) else l) else []
def openB (l : List Mk) (c s : Int) : Bool := match lkM l c with | some m => decide (m.s = s) && m.o | none => false
def openE (l : List Mk) (c s : Int) : Int := if rightB 0 l then (if openB l c s then 0 else 60) else 21
def endL (l : List Mk) (c s : Int) (a : An) : List Mk := if openE l c s = 0 then withL l ⟨c, s, false, a⟩ else []
def lost : An := ⟨80, 0, 0, 0⟩
def loseL (l : List Mk) (c s : Int) : List Mk := if openE l c s = 0 then withL l ⟨c, s - 1, false, lost⟩ else []
def aheadB (m n : Mk) : Bool := if m.s = n.s then n.o && !m.o else decide (n.s < m.s)
def pick : Option Mk → Option Mk → Option Mk
  | none, y => y
  | some x, none => some x
  | some x, some y => if aheadB y x then some y else some x
def joinF (a b : List Mk) : Int → Option Mk := fun c => pick (lkM a c) (lkM b c)
def joinE (a b : List Mk) : Int := if rightB 0 a && rightB 0 b then 0 else 21
def joinL (a b : List Mk) : List Mk := if joinE a b = 0 then tab (joinF a b) else []

theorem open_of {l : List Mk} {c s : Int} (h : openE l c s = 0) : Right l ∧ lkM l c = some (opened c s) ∧ 1 ≤ c ∧ c ≤ 8 ∧ 1 ≤ s ∧ s ≤ 4611686018427387904 := by
  unfold openE at h
  by_cases hr : rightB 0 l = true
  · rw [if_pos hr] at h
    by_cases ho : openB l c s = true
    · unfold openB at ho
      cases e : lkM l c with
      | none => rw [e] at ho; cases ho
      | some m =>
        rw [e] at ho
        simp at ho
        obtain ⟨h1, h2⟩ := good_look hr _ _ e
        have h3 := mayB_cli h2
        have h4 := mayB_seq h2
        have h5 := mayB_open h2 ho.2
        obtain ⟨mc, ms, mo, ma⟩ := m
        simp only at h1 ho h3 h4 h5
        obtain ⟨rfl, rfl⟩ := ho
        obtain ⟨h6, rfl⟩ := h5
        subst h1
        exact ⟨hr, rfl, h3.1, h3.2, by omega, h4.2⟩
    · rw [if_neg ho] at h
      cases h
  · rw [if_neg hr] at h
    cases h
theorem begin_of {l : List Mk} {c s : Int} (h : beginE l c s = 0) : Right l ∧ 1 ≤ c ∧ c ≤ 8 ∧ 1 ≤ s ∧ s ≤ 4611686018427387904 := by
  unfold beginE at h
  by_cases hr : rightB 0 l = true
  · rw [if_pos hr] at h
    by_cases hc : (cliB c && seqB s) = true
    · simp [cliB, seqB] at hc
      exact ⟨hr, hc.1.1, hc.1.2, hc.2.1, hc.2.2⟩
    · rw [if_neg hc] at h
      cases h
  · rw [if_neg hr] at h
    cases h
theorem may_opened {c s : Int} (h : 1 ≤ c ∧ c ≤ 8) (g : 1 ≤ s ∧ s ≤ 4611686018427387904) : mayB (opened c s) = true := by
  have h1 : decide (0 < s) = true := by simp; omega
  have h2 : decide (0 ≤ s ∧ s ≤ 4611686018427387904) = true := by simp; omega
  have h3 : decide (1 ≤ c ∧ c ≤ 8) = true := by simp; omega
  unfold mayB opened cliB
  simp only
  rw [h1, h2, h3]
  rfl
theorem may_ended {c s : Int} (a : An) (h : 1 ≤ c ∧ c ≤ 8) (g : 0 ≤ s ∧ s ≤ 4611686018427387904) : mayB ⟨c, s, false, a⟩ = true := by
  simp [mayB, cliB]
  omega
theorem right_begin {l : List Mk} {c s : Int} (h : beginE l c s = 0) : Right (beginL l c s) := by
  obtain ⟨hr, h1, h2, h3, h4⟩ := begin_of h
  unfold beginL
  rw [if_pos h]
  split
  · exact right_with hr (may_opened ⟨h1, h2⟩ ⟨h3, h4⟩)
  · exact hr
theorem good_join {a b : List Mk} (ha : Right a) (hb : Right b) : Good (joinF a b) := by
  intro c m hm
  unfold joinF pick at hm
  cases e1 : lkM a c with
  | none => rw [e1] at hm; exact good_look hb _ _ hm
  | some x =>
    cases e2 : lkM b c with
    | none => rw [e1, e2] at hm; cases hm; exact good_look ha _ _ e1
    | some y =>
      rw [e1, e2] at hm
      simp only at hm
      split at hm
      · cases hm; exact good_look hb _ _ e2
      · cases hm; exact good_look ha _ _ e1
theorem look_take_low {c : Int} : ∀ {l : List Mk} {b : Int} {k : Nat} {m : Mk}, rightB b l = true → l[k]? = some m → m.c ≤ c → lkM (l.take k) c = none
  | [], b, k, m, _, h, _ => by simp at h
  | x :: r, b, 0, m, _, _, _ => rfl
  | x :: r, b, k + 1, m, h, hk, hc => by
    obtain ⟨h1, h2, h3⟩ := right_cons h
    have hk2 : r[k]? = some m := by simpa using hk
    have := (right_mem h3 m (List.mem_of_getElem? hk2)).1
    rw [List.take_succ_cons, look_cons, if_neg (by omega)]
    exact look_take_low h3 hk2 hc
theorem look_take_next {c : Int} : ∀ {l : List Mk} {b : Int} {k : Nat} {m : Mk}, rightB b l = true → l[k]? = some m → lkM (l.take (k + 1)) c = if c = m.c then some m else lkM (l.take k) c
  | [], b, k, m, _, h => by simp at h
  | x :: r, b, 0, m, _, h => by
    simp at h
    subst h
    show lkM [x] c = _
    rw [look_cons]
    by_cases e : x.c = c
    · rw [if_pos e, if_pos e.symm]
    · rw [if_neg e, if_neg fun h => e h.symm]; rfl
  | x :: r, b, k + 1, m, h, hk => by
    obtain ⟨h1, h2, h3⟩ := right_cons h
    have hk2 : r[k]? = some m := by simpa using hk
    have hx := (right_mem h3 m (List.mem_of_getElem? hk2)).1
    rw [List.take_succ_cons, look_cons, List.take_succ_cons, look_cons, look_take_next h3 hk2]
    by_cases e : x.c = c
    · rw [if_pos e, if_neg (by omega), if_pos e]
    · rw [if_neg e, if_neg e]
/-- Join on its way: so many of b's marks are in -/
def joinK (a b : List Mk) (k : Nat) : List Mk := tab (joinF a (b.take k))
theorem right_take : ∀ {l : List Mk} {b : Int} (k : Nat), rightB b l = true → rightB b (l.take k) = true
  | [], b, k, _ => by simp [rightB]
  | x :: r, b, 0, _ => rfl
  | x :: r, b, k + 1, h => by
    obtain ⟨h1, h2, h3⟩ := right_cons h
    rw [List.take_succ_cons]
    simp [rightB, h1, h2, right_take k h3]
theorem joinK_right {a b : List Mk} (ha : Right a) (hb : Right b) (k : Nat) : Right (joinK a b k) := right_tab (good_join ha (right_take k hb))
theorem joinK_zero {a b : List Mk} (ha : Right a) : joinK a b 0 = a := by
  unfold joinK
  rw [show joinF a (b.take 0) = lkM a from funext fun c => by unfold joinF; cases e : lkM a c <;> rfl]
  exact tab_look ha
theorem joinK_all {a b : List Mk} (ha : Right a) (hb : Right b) : joinK a b b.length = joinL a b := by
  have e : joinE a b = 0 := by simp [joinE, show rightB 0 a = true from ha, show rightB 0 b = true from hb]
  unfold joinK joinL
  rw [if_pos e, List.take_length]
theorem joinK_next {a b : List Mk} (ha : Right a) (hb : Right b) {k : Nat} {m : Mk} (hk : b[k]? = some m) :
    joinK a b (k + 1) = if (match lkM (joinK a b k) m.c with | some x => aheadB m x | none => true) then withL (joinK a b k) m else joinK a b k := by
  have hm := (right_mem hb m (List.mem_of_getElem? hk)).2
  have hr := joinK_right ha hb k
  have hg := good_join ha (right_take (k + 1) hb)
  have hg0 := good_join ha (right_take k hb)
  have hlk : lkM (joinK a b k) m.c = lkM a m.c := by
    unfold joinK
    rw [look_tab_all hg0]
    unfold joinF
    rw [look_take_low hb hk (Int.le_refl _)]
    cases lkM a m.c <;> rfl
  have key : ∀ c, lkM (joinK a b (k + 1)) c = if c = m.c then pick (lkM a m.c) (some m) else lkM (joinK a b k) c := by
    intro c
    unfold joinK
    rw [look_tab_all hg, look_tab_all hg0]
    unfold joinF
    rw [look_take_next hb hk]
    by_cases e : c = m.c
    · rw [if_pos e, if_pos e, e]
    · rw [if_neg e, if_neg e]
  rw [hlk]
  refine tab_ext (joinK_right ha hb (k + 1)) ?_ fun c => ?_
  · by_cases h : (match lkM a m.c with | some x => aheadB m x | none => true) = true
    · rw [if_pos h]; exact right_with hr hm
    · rw [if_neg h]; exact hr
  · rw [key]
    cases e : lkM a m.c with
    | none =>
      simp only [if_true]
      rw [look_with hr hm]
      rfl
    | some x =>
      simp only
      by_cases h : aheadB m x = true
      · rw [if_pos h, look_with hr hm]
        simp [pick, h]
      · rw [if_neg h]
        simp only [pick, if_neg h]
        by_cases e2 : c = m.c
        · rw [if_pos e2, e2, hlk, e]
        · rw [if_neg e2]
end Sn
end Go.Proofs.Ytbeikdppcfpplaa
