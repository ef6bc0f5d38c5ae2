/- Promises copied and sorted by their nodes: slices.Clone, slices.SortFunc, cmp.Compare. No condition but a size. -/
import Derived.Test.YtjhkenmlaammnaaChoMem
import Derived.Test.YtjhkenmlaammnaaSortLaid
import Derived.Laws.AppendOwn
import Derived.Lib.SliceRun
import Derived.Shelf.Abstract
namespace Go.Proofs.Ytjhkenmlaammnaa
open Go.ChangeShapes Go.WideShapes Go.ChangeAt Go.RowKit Go.Shelf Go.Lib B8 Am Cz
open Go.Sort (HoldsK putRowK size_flatK get_flatK holdsK_grow holdsK_putRowK holdsK_ahead putRow mapBlock ahead)
set_option linter.unusedVariables false

instance : Inhabited Pp := ⟨⟨0, none, 0, 0, []⟩⟩
def pcells (l : List Pp) : List Value := l.flatMap Pp.cells
theorem pcells_length : ∀ (l : List Pp), (pcells l).length = l.length * 2
  | [] => rfl
  | p :: r => by show (p.cells ++ pcells r).length = _; rw [List.length_append, pcells_length r]; simp [Pp.cells]; omega
theorem pcells_append (l r : List Pp) : pcells (l ++ r) = pcells l ++ pcells r := by simp [pcells]
theorem pcells_at : ∀ (l : List Pp) (i : Nat) (p : Pp), l[i]? = some p → ∀ j, j < 2 → (pcells l)[i * 2 + j]? = p.cells[j]?
  | [], i, p, hx, _, _ => by simp at hx
  | y :: r, 0, p, hx, j, hj => by
    simp at hx
    subst hx
    show (y.cells ++ pcells r)[0 * 2 + j]? = _
    rw [List.getElem?_append_left (by simp [Pp.cells]; omega)]
    simp
  | y :: r, i + 1, p, hx, j, hj => by
    show (y.cells ++ pcells r)[(i + 1) * 2 + j]? = _
    rw [List.getElem?_append_right (by simp [Pp.cells]; omega), show (i + 1) * 2 + j - y.cells.length = i * 2 + j by simp [Pp.cells]; omega]
    exact pcells_at r i p (by simpa using hx) j hj
theorem pcells_one (l : List Pp) : ∀ v ∈ pcells l, v.oneCell' = true := by
  intro v hv
  obtain ⟨p, _, hp⟩ := List.mem_flatMap.1 hv
  simp [Pp.cells] at hp
  rcases hp with rfl | rfl <;> rfl
/-- a row of promises of the call's own can be read -/
theorem ps_of_row {w : World} {B : Nat} {a : Option Addr} {m c : Nat} {l : List Pp} (h : w.ownsRow B 36 2 (.slice a m c) m (pcells l)) (hl : l.length = m) (he : ∀ p ∈ l, Vs w p.a p.m p.l ∧ (Lit.int .i64 p.nd).wf = true) (hr : m * 32 ≤ 140737488351232) : Ps w a m l := by
  refine ⟨hl, fun h0 => ?_, he, hr⟩
  obtain ⟨_, ⟨e, e2⟩ | ⟨g, cp, cur, e, hB, hg, _⟩⟩ := id h
  · omega
  · obtain ⟨e1, e3⟩ : a = some ⟨g, 0, none⟩ ∧ c = cp := by simpa using e
    rw [e1] at h
    refine ⟨g, 0, e1, (Array.getElem?_eq_some_iff.1 hg).1, fun j p hj o v hv => ?_⟩
    have hjl : j < l.length := (List.getElem?_eq_some_iff.1 hj).1
    have ho : o < 2 := by
      have := (List.getElem?_eq_some_iff.1 hv).1
      simpa [Pp.cells] using this
    rw [Nat.zero_add, h.cellAt (j * 2 + o) (by omega), pcells_at _ _ _ hj o ho]
    exact hv
set_option maxRecDepth 100000 in
theorem clone_pr {w : World} {a : Option Addr} {m cv : Nat} {l : List Pp} (h : Ps w a m l) (hm : m ≤ 1000) :
    Calls Try.prog 54 #[.slice a m cv] w fun e w' => ∃ a' c', e = .returned (.slice a' m c') ∧ Below w.heap.size w w' ∧ w'.ownsRow w.heap.size 36 2 (.slice a' m c') m (pcells l) := by
  obtain ⟨i0, hi, hz0, hz1, hz2⟩ := info_parts prominfo
  have hlen := h.len
  cases a with
  | none =>
    obtain rfl : m = 0 := by
      rcases Nat.eq_zero_or_pos m with e | e
      · exact e
      · obtain ⟨b, off, e2, _⟩ := h.cells e
        cases e2
    obtain rfl : l = [] := List.eq_nil_of_length_eq_zero hlen
    clear h hlen
    have qT : ∀ (w : World) (a : Option Addr) (n c n' c' : Nat), (binOp .eql 22 (.slice a n c) (.slice none n' c')).run Try.prog w = .ok (.bool a.isNone) w := fun w a n c n' c' => Lib.run_eql_slice_nil w _ _ a n c n' c' Try.underlying22
    go_enter Try.func54, Try.ntmps54
    go_wp2_with fail
    go_ret
    exact ⟨none, 0, rfl, Below.refl _ _, World.ownsRow_nil _ _ _ _⟩
  | some ad =>
    have HC : Hid (∀ j u, (pcells l)[j]? = some u → (w.alloc (.cells #[] 36)).cell? (ad.add j) = some u) := fun j u hu => by
      have hj := (List.getElem?_eq_some_iff.1 hu).1
      rw [pcells_length] at hj
      have h0 : 0 < m := by omega
      obtain ⟨b, off, e, hb, hc⟩ := h.cells h0
      cases e
      have hk : j / 2 < l.length := by omega
      have R := hc (j / 2) _ (List.getElem?_eq_getElem hk) (j % 2) u (by
        rw [← pcells_at l (j / 2) _ (List.getElem?_eq_getElem hk) (j % 2) (by omega), show j / 2 * 2 + j % 2 = j by omega]
        exact hu)
      rw [show off + j / 2 * 2 + j % 2 = off + j by omega] at R
      rw [Addr.add_lit, World.cell?_alloc_lt w _ _ hb]
      exact R
    have HL : Hid ((pcells l).length = m * 2) := by show _ = _; rw [pcells_length, hlen]
    have H1 := hide (pcells_one l)
    clear h hlen
    have qT : ∀ (w : World) (a : Option Addr) (n c n' c' : Nat), (binOp .eql 22 (.slice a n c) (.slice none n' c')).run Try.prog w = .ok (.bool a.isNone) w := fun w a n c n' c' => Lib.run_eql_slice_nil w _ _ a n c n' c' Try.underlying22
    go_enter Try.func54, Try.ntmps54
    go_wp2_with (at_builtin; refine wpList_append_own _ rfl (.tmp 5) (.tmp 6) 22 rfl w.heap.size 36 i0 (.agg #[.int .i64 0, .slice none 0 0]) 2 32 Try.underlying22 hi hz0 hz1 hz2 (by rfl) (by omega) (.slice (some ⟨w.heap.size, 0, none⟩) 0 0) 0 [] rfl (World.ownsRow_made w #[] 0 (Nat.le_refl _) (by unfold maxLen; omega) (by simp)) ad m cv (pcells l) rfl HL.out HC.out H1.out (by unfold maxLen; omega) (by omega) (by simp) ?_; intro v' w1 ho hg _; have HO := hide ho; have HG := hide hg; clear ho hg)
    go_ret
    have ho := HO.out
    simp only [Nat.zero_add, List.nil_append] at ho
    have ho' := ho
    obtain ⟨_, ⟨rfl, e⟩ | ⟨G, C, cur, rfl, _⟩⟩ := ho
    · subst e
      exact ⟨none, 0, rfl, below_row HG.out, ho'⟩
    · exact ⟨_, _, rfl, below_row HG.out, ho'⟩

def cmpI (x y : Int) : Int := if x < y then -1 else if y < x then 1 else 0
def cfP (a b : Pp) : Int := cmpI a.nd b.nd
theorem cfP_lt (a b : Pp) : ltOf cfP a b = decide (a.nd < b.nd) := by
  unfold ltOf cfP cmpI
  (repeat' split) <;> simp <;> omega
theorem nan_any (x : Int) (w : World) : Calls Try.prog 70 #[.int .i64 x] w fun e w' => e = .returned (.bool false) ∧ w' = w := by
  go_enter Try.func70, Try.ntmps70
  go_wp2_with fail
  go_ret
  exact ⟨by simp, rfl⟩
theorem compare_any (x y : Int) (w : World) : Calls Try.prog 57 #[.int .i64 x, .int .i64 y] w fun e w' => e = .returned (.int .i64 (cmpI x y)) ∧ w' = w := by
  go_enter Try.func57, Try.ntmps57
  go_wp2_with (go_at_call 70; refine (nan_any _ _).mono ?_; rintro e w' ⟨rfl, hw⟩; rw [hw])
  all_goals (go_ret; refine ⟨?_, rfl⟩; unfold cmpI; (repeat' split) <;> first | rfl | (exfalso; omega))
theorem order_any (a b : Pp) (w : World) : Calls Try.prog 56 #[.agg #[.int .i64 a.nd, .slice a.a a.m a.c], .agg #[.int .i64 b.nd, .slice b.a b.m b.c]] w fun e w' => e = .returned (.int .i64 (cfP a b)) ∧ ∃ q os', w' = Sort.grow (w.drewN q) os' := by
  have C1 := fun W => hide (compare_any a.nd b.nd W)
  have E : Hid (cfP a b = cmpI a.nd b.nd) := rfl
  rw [E.out]
  clear E
  generalize cmpI a.nd b.nd = x at C1
  go_enter Try.func56, Try.ntmps56
  go_wp2_with fail
  refine (C1 _).out.mono ?_
  rintro e w1 ⟨rfl, rfl⟩
  go_wp2_with fail
  go_ret
  refine ⟨rfl, 0, #[.cells #[.int .i64 a.nd, .slice a.a a.m a.c] 36, .cells #[.int .i64 b.nd, .slice b.a b.m b.c] 36], ?_⟩
  simp only [Sort.alloc_eq_grow, Sort.grow_grow]
  rfl
/-- promises in a row of cells at block b -/
def Row2 (w : World) (b : Nat) (l : List Pp) : Prop := ∀ (k : Nat) (p : Pp), l[k]? = some p → w.rangeAt b (k * 2) p.cells
theorem arr_p {d : Array Pp} {k : Nat} {p : Pp} (h : d.toList[k]? = some p) : d[k]! = p := by
  have hk : k < d.size := by simpa using (List.getElem?_eq_some_iff.1 h).1
  rw [getElem!_pos d k hk]
  simpa [hk] using h
theorem row2_of_holds {w : World} {b : Nat} {d : Array Pp} (h : HoldsK Pp.cells 2 w b 0 d) : Row2 w b d.toList := fun k p hp j v hv => by
  have hk : k < d.size := by simpa using (List.getElem?_eq_some_iff.1 hp).1
  have hj : j < 2 := by
    have := (List.getElem?_eq_some_iff.1 hv).1
    simpa [Pp.cells] using this
  have h1 := (h (k * 2 + j) (by rw [size_flatK]; omega)).1
  rw [get_flatK _ _ _ _ (by omega), show (k * 2 + j) / 2 = k by omega, show (k * 2 + j) % 2 = j by omega, Nat.zero_add, arr_p hp] at h1
  rw [h1]
  have h3 : j < p.cells.length := by simpa [Pp.cells] using hj
  rw [List.getElem?_eq_getElem h3] at hv
  rw [getElem!_pos p.cells j h3]
  exact hv
theorem holds_of_row {w : World} {B b m cv : Nat} {l : List Pp} (h : w.ownsRow B 36 2 (.slice (some ⟨b, 0, none⟩) m cv) m (pcells l)) : HoldsK Pp.cells 2 w b 0 l.toArray := by
  have hl : m = l.length := by
    have := h.1
    rw [pcells_length] at this
    omega
  intro j hj
  rw [size_flatK] at hj
  simp only [List.size_toArray] at hj
  refine ⟨?_, by rw [Nat.zero_add]; exact h.frozenAt _⟩
  have hk : j / 2 < l.length := by omega
  rw [get_flatK _ _ _ _ (by simpa using hj), Nat.zero_add, h.cellAt j (by omega), arr_p (p := l[j / 2]) (by simp [hk])]
  have := pcells_at l (j / 2) _ (List.getElem?_eq_getElem hk) (j % 2) (by omega)
  rw [show j / 2 * 2 + j % 2 = j by omega] at this
  rw [this]
  have h3 : j % 2 < (l[j / 2].cells).length := by simp [Pp.cells]; omega
  show _ = some (l[j / 2].cells[j % 2]!)
  rw [List.getElem?_eq_getElem h3, getElem!_pos (l[j / 2].cells) (j % 2) h3]
theorem sw_block (w : World) (b n : Nat) (d : Array Pp) (os : Array Obj) {k : Nat} (hk : k < w.heap.size) (hn : k ≠ b) : (sortWorldK Pp.cells 2 w b 0 n d os).heap[k]? = w.heap[k]? := by
  unfold sortWorldK
  rw [Sort.heap_grow_old _ _ (by simpa [putRowK, putRow, mapBlock, ahead] using hk)]
  show (putRowK Pp.cells 2 w b 0 d).heap[k]? = _
  simp [putRowK, putRow, mapBlock, Array.getElem?_modify, Ne.symm hn]
theorem sw_size (w : World) (b n : Nat) (d : Array Pp) (os : Array Obj) : w.heap.size ≤ (sortWorldK Pp.cells 2 w b 0 n d os).heap.size := by
  unfold sortWorldK
  rw [Sort.size_grow]
  show _ ≤ (putRowK Pp.cells 2 w b 0 d).heap.size + _
  simp [putRowK, putRow, mapBlock]
theorem sw_chg (w : World) (b n : Nat) (d : Array Pp) (os : Array Obj) : Chg (fun k => k = b) w (sortWorldK Pp.cells 2 w b 0 n d os) := ⟨rfl, rfl, rfl, sw_size w b n d os, fun k hk hn => sw_block w b n d os hk hn⟩
theorem sw_rows {w : World} {b n : Nat} {d d' : Array Pp} {os : Array Obj} (h : HoldsK Pp.cells 2 w b 0 d) (hb : b < w.heap.size) (hs : d'.size = d.size) : Row2 (sortWorldK Pp.cells 2 w b 0 n d' os) b d'.toList := by
  refine row2_of_holds ?_
  unfold sortWorldK
  refine holdsK_grow _ _ _ _ _ _ _ (by simpa [putRowK, putRow, mapBlock, ahead] using hb) ?_
  exact holdsK_putRowK _ _ _ _ _ _ _ (holdsK_ahead _ _ _ _ _ _ _ h) hs
theorem swoP : Sort.SWO (ltOf cfP) := by
  have e : ltOf cfP = fun a b => decide (a.nd < b.nd) := by funext a b; exact cfP_lt a b
  rw [e]
  exact ⟨fun a => by simp, fun a b c h1 h2 => by simp at h1 h2 ⊢; omega, fun a b c h1 h2 => by simp at h1 h2 ⊢; omega⟩
theorem cmpP (b size : Nat) (w : World) : CmpLays Try.prog 56 #[] Pp.cells 2 cfP b 0 size w := fun m os dk _ x y => order_any x y _
/-- a row of promises sorted in place -/
theorem sort_pr {w : World} {B b m cv : Nat} {l : List Pp} (h : w.ownsRow B 36 2 (.slice (some ⟨b, 0, none⟩) m cv) m (pcells l)) (hm : m ≤ 1000) :
    Calls Try.prog 55 #[.slice (some ⟨b, 0, none⟩) m cv, .func (.func 56) #[] #[]] w fun e w' => e = .returned (.tuple #[]) ∧ Chg (fun k => k = b) w w' ∧ ∃ l', l'.Perm l ∧ l'.Pairwise (fun x y => x.nd ≤ y.nd) ∧ Row2 w' b l' := by
  have hl : m = l.length := by
    have := h.1
    rw [pcells_length] at this
    omega
  have hb : b < w.heap.size := (h.lt b rfl).2
  have hH := holds_of_row h
  have eg : ∀ args w, (callFunc 56 args).run Try.prog w = .ok (.enter 56 args) w := enters_of Try.func56 (by kernel_rfl) rfl
  have hc := AnyQ.slices_SortFunc sortPr 2 Try.isAgg36 Try.sizeOf36 Pp.cells (fun _ => rfl) (fun x v hv => by simp [Pp.cells] at hv; rcases hv with rfl | rfl <;> rfl) cfP swoP 56 #[] b 0 cv l.toArray w eg (cmpP b _ w) hH hb (by simp; omega)
  rw [List.size_toArray, ← hl] at hc
  refine Calls.mono hc fun e w' ⟨he, d', n, os, hp', hs', hw⟩ => ⟨he, by rw [hw]; exact sw_chg _ _ _ _ _, d'.toList, ?_, ?_, ?_⟩
  · have := hp'.2.2
    have e1 : d'.size = m := by rw [hp'.1]; simp [hl]
    rw [show d'.extract 0 m = d' by rw [← e1]; simp, show l.toArray.extract 0 m = l.toArray by rw [hl]; simp] at this
    simpa using this
  · rw [List.pairwise_iff_getElem]
    intro i j hi hj hij
    have e1 : d'.size = m := by rw [hp'.1]; simp [hl]
    have := hs' i j (Nat.zero_le _) hij (by simpa [e1] using hj)
    rw [cfP_lt, arr_p (List.getElem?_eq_getElem hi), arr_p (List.getElem?_eq_getElem hj)] at this
    have := of_decide_eq_false this
    omega
  · rw [hw]
    exact sw_rows hH hb (by rw [hp'.1])
end Go.Proofs.Ytjhkenmlaammnaa
