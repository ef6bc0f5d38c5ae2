/- slices.Clone and slices.SortFunc at timers. No condition. -/
import Derived.Test.YtoganfdpaagomaaClockTake
import Derived.Test.YtoganfdpaagomaaClockMath
import Derived.Test.YtoganfdpaagomaaSortLaid
import Derived.Laws.AppendOwn
import Derived.Lib.SliceRun
namespace Go.Proofs.Ytoganfdpaagomaa
open Go.ChangeShapes Go.WideShapes Go.ChangeAt Go.RowKit Cm Go.Shelf Go.Lib
open Go.Sort (HoldsK putRowK size_flatK get_flatK holdsK_grow holdsK_putRowK holdsK_ahead putRow mapBlock ahead)
set_option linter.unusedVariables false

theorem below_row {w w1 : World} {T : TypeId} (hg : (w.alloc (.cells #[] T)).grownBy w1 (some w.heap.size)) : Below w.heap.size w w1 :=
  ⟨hg.os, hg.tape, hg.output, Nat.le_trans (by simp) hg.size, fun k hk => (hg.block k (by simp; omega) (by simp; omega)).trans (Below.heap_alloc _ _ _ hk)⟩

set_option maxRecDepth 100000 in
theorem clone_tms {w : World} {av : Option Addr} {m cv : Nat} {xs : List Value} (h : w.ownsRow 0 54 3 (.slice av m cv) m xs) (h1 : ∀ u ∈ xs, u.oneCell' = true) (hm : m ≤ 1000) :
    Calls Try.prog 26 #[.slice av m cv] w fun e w' => ∃ a' c', e = .returned (.slice a' m c') ∧ Below w.heap.size w w' ∧ w'.ownsRow w.heap.size 54 3 (.slice a' m c') m xs := by
  obtain ⟨i0, hi, hz0, hz1, hz2⟩ := info_parts tminfo
  have hlen := h.1
  rcases h.2 with ⟨e1, e2⟩ | ⟨g, cap, cur, e1, _, hg, _⟩
  · obtain ⟨rfl, rfl, rfl⟩ : av = none ∧ m = 0 ∧ cv = 0 := by simpa using e1
    obtain rfl : xs = [] := List.eq_nil_of_length_eq_zero (by simpa using hlen)
    clear h e1 e2 hlen
    have qT : ∀ (w : World) (a : Option Addr) (n c n' c' : Nat), (binOp .eql 51 (.slice a n c) (.slice none n' c')).run Try.prog w = .ok (.bool a.isNone) w := fun w a n c n' c' => Lib.run_eql_slice_nil w _ _ a n c n' c' Try.underlying51
    go_enter Try.func26, Try.ntmps26
    go_wp2_with fail
    go_ret
    exact ⟨none, 0, rfl, Below.refl _ _, World.ownsRow_nil _ _ _ _⟩
  · obtain ⟨rfl, rfl⟩ : av = some ⟨g, 0, none⟩ ∧ cv = cap := by simpa using e1
    have HC : Hid (∀ j u, xs[j]? = some u → (w.alloc (.cells #[] 54)).cell? ((⟨g, 0, none⟩ : Addr).add j) = some u) := (h.alloc _).cells (g := g) rfl
    have HL := hide hlen
    clear h e1 hlen hg
    have qT : ∀ (w : World) (a : Option Addr) (n c n' c' : Nat), (binOp .eql 51 (.slice a n c) (.slice none n' c')).run Try.prog w = .ok (.bool a.isNone) w := fun w a n c n' c' => Lib.run_eql_slice_nil w _ _ a n c n' c' Try.underlying51
    go_enter Try.func26, Try.ntmps26
    go_wp2_with (at_builtin; refine wpList_append_own _ rfl (.tmp 5) (.tmp 6) 51 rfl w.heap.size 54 i0 (.agg ztm) 3 32 Try.underlying51 hi hz0 hz1 hz2 (by rfl) (by omega) (.slice (some ⟨w.heap.size, 0, none⟩) 0 0) 0 [] rfl (World.ownsRow_made w #[] 0 (Nat.le_refl _) (by unfold maxLen; omega) (by simp)) ⟨g, 0, none⟩ m cv xs rfl HL.out HC.out h1 (by unfold maxLen; omega) (by omega) (by simp) ?_; intro v' w1 ho hg _; have HO := hide ho; have HG := hide hg; clear ho hg)
    go_ret
    have ho := HO.out
    simp only [Nat.zero_add, List.nil_append] at ho
    have ho' := ho
    obtain ⟨_, ⟨rfl, e⟩ | ⟨G, C, cur, rfl, _⟩⟩ := ho
    · subst e
      exact ⟨none, 0, rfl, below_row HG.out, ho'⟩
    · exact ⟨_, _, rfl, below_row HG.out, ho'⟩

/-- timers in a row of cells at block b -/
def Row3 (w : World) (b : Nat) (l : List Tm) : Prop := ∀ k, k < l.length → w.cell? ⟨b, k * 3, none⟩ = some (.string (g l k).name) ∧ w.cell? ⟨b, k * 3 + 1, none⟩ = some (.int .i64 (g l k).due) ∧ w.cell? ⟨b, k * 3 + 2, none⟩ = some (.int .i64 (g l k).turn)
theorem arr_g {d : Array Tm} {k : Nat} : d[k]! = g d.toList k := by
  by_cases h : k < d.size
  · rw [getElem!_pos d k h, g_at (by simpa using h)]; simp
  · rw [getElem!_neg d k h]; simp [g, List.getD, h]
theorem cells_of_holds {w : World} {b : Nat} {d : Array Tm} (h : HoldsK Tm.cells 3 w b 0 d) : Row3 w b d.toList := fun k hk => by
  have hk' : k < d.size := by simpa using hk
  have c : ∀ j, j < 3 → w.cell? ⟨b, k * 3 + j, none⟩ = some ((Tm.cells (g d.toList k))[j]!) := fun j hj => by
    have h1 := (h (k * 3 + j) (by rw [size_flatK]; omega)).1
    rw [get_flatK _ _ _ _ (by omega), show (k * 3 + j) / 3 = k by omega, show (k * 3 + j) % 3 = j by omega, Nat.zero_add, arr_g] at h1
    exact h1
  exact ⟨c 0 (by omega), c 1 (by omega), c 2 (by omega)⟩
theorem holds_of_row {w : World} {B b m cv : Nat} {l : List Tm} (h : w.ownsRow B 54 3 (.slice (some ⟨b, 0, none⟩) m cv) m (tcells l)) : HoldsK Tm.cells 3 w b 0 l.toArray := by
  have hl : m = l.length := by
    have := h.1
    rw [tcells_length] at this
    omega
  intro j hj
  rw [size_flatK] at hj
  simp only [List.size_toArray] at hj
  refine ⟨?_, by rw [Nat.zero_add]; exact h.frozenAt _⟩
  rw [get_flatK _ _ _ _ (by simpa using hj), Nat.zero_add, h.cellAt j (by omega), arr_g]
  have hk : j / 3 < l.length := by omega
  have := tcells_at l (j / 3) _ (g_some hk) (j % 3) (by omega)
  rw [show j / 3 * 3 + j % 3 = j by omega] at this
  rw [this]
  have h3 : j % 3 < (Tm.cells (g l (j / 3))).length := by simp [Tm.cells]; omega
  show _ = some ((g l (j / 3)).cells[j % 3]!)
  rw [List.getElem?_eq_getElem h3, getElem!_pos (g l (j / 3)).cells (j % 3) h3]
theorem sw_block (w : World) (b n : Nat) (d : Array Tm) (os : Array Obj) {k : Nat} (hk : k < w.heap.size) (hn : k ≠ b) : (sortWorldK Tm.cells 3 w b 0 n d os).heap[k]? = w.heap[k]? := by
  unfold sortWorldK
  rw [Sort.heap_grow_old _ _ (by simpa [putRowK, putRow, mapBlock, ahead] using hk)]
  show (putRowK Tm.cells 3 w b 0 d).heap[k]? = _
  simp [putRowK, putRow, mapBlock, Array.getElem?_modify, Ne.symm hn]
theorem sw_size (w : World) (b n : Nat) (d : Array Tm) (os : Array Obj) : w.heap.size ≤ (sortWorldK Tm.cells 3 w b 0 n d os).heap.size := by
  unfold sortWorldK
  rw [Sort.size_grow]
  show _ ≤ (putRowK Tm.cells 3 w b 0 d).heap.size + _
  simp [putRowK, putRow, mapBlock]
theorem sw_chg (w : World) (b n : Nat) (d : Array Tm) (os : Array Obj) : Chg (fun k => k = b) w (sortWorldK Tm.cells 3 w b 0 n d os) := ⟨rfl, rfl, rfl, sw_size w b n d os, fun k hk hn => sw_block w b n d os hk hn⟩
theorem sw_rows {w : World} {b n : Nat} {d d' : Array Tm} {os : Array Obj} (h : HoldsK Tm.cells 3 w b 0 d) (hb : b < w.heap.size) (hs : d'.size = d.size) : Row3 (sortWorldK Tm.cells 3 w b 0 n d' os) b d'.toList := by
  refine cells_of_holds ?_
  unfold sortWorldK
  refine holdsK_grow _ _ _ _ _ _ _ (by simpa [putRowK, putRow, mapBlock, ahead] using hb) ?_
  exact holdsK_putRowK _ _ _ _ _ _ _ (holdsK_ahead _ _ _ _ _ _ _ h) hs
theorem ltOf_lt : ltOf cf = lt := by funext a b; exact cf_lt a b
theorem swoTm : Sort.SWO (ltOf cf) := by
  rw [ltOf_lt]
  exact ⟨fun a => lt_irrefl a, fun a b c h1 h2 => lt_trans h1 h2, fun a b c h1 h2 => lt_ntrans h1 h2⟩
theorem cmpTm (b size : Nat) (w : World) : CmpLays Try.prog 28 #[] Tm.cells 3 cf b 0 size w := fun m os dk _ x y => order_any x y _
/-- a row of timers sorted in place -/
theorem sort_any {w : World} {b m cv : Nat} {r l : List Tm} (h : w.ownsRow 0 54 3 (.slice (some ⟨b, 0, none⟩) m cv) m (tcells l)) (hm : m ≤ 65) (hr : r.Pairwise fun a b => a.turn < b.turn) (hp : l.Perm r) :
    Calls Try.prog 27 #[.slice (some ⟨b, 0, none⟩) m cv, .func (.func 28) #[] #[]] w fun e w' => e = .returned (.tuple #[]) ∧ Chg (fun k => k = b) w w' ∧ Row3 w' b (srt r) := by
  have hl : m = l.length := by
    have := h.1
    rw [tcells_length] at this
    omega
  have hb : b < w.heap.size := (h.lt b rfl).2
  have hH := holds_of_row h
  have eg : ∀ args w, (callFunc 28 args).run Try.prog w = .ok (.enter 28 args) w := enters_of Try.func28 (by kernel_rfl) rfl
  have hc := AnyQ.slices_SortFunc sortTm 3 Try.isAgg54 Try.sizeOf54 Tm.cells (fun _ => rfl) (fun x v hv => by simp [Tm.cells] at hv; rcases hv with rfl | rfl | rfl <;> rfl) cf swoTm 28 #[] b 0 cv l.toArray w eg (cmpTm b _ w) hH hb (by simp; omega)
  rw [List.size_toArray, ← hl] at hc
  refine Calls.mono hc fun e w' ⟨he, d', n, os, hp', hs', hw⟩ => ⟨he, by rw [hw]; exact sw_chg _ _ _ _ _, ?_⟩
  have es : d'.toList = srt r := by
    have p1 : d'.toList.Perm l := by
      have := hp'.2.2
      have e1 : d'.size = m := by rw [hp'.1]; simp [hl]
      rw [show d'.extract 0 m = d' by rw [← e1]; simp, show l.toArray.extract 0 m = l.toArray by rw [hl]; simp] at this
      simpa using this
    refine srt_unique hr (p1.trans hp) ?_
    rw [List.pairwise_iff_getElem]
    intro i j hi hj hij
    have e1 : d'.size = m := by rw [hp'.1]; simp [hl]
    have := hs' i j (Nat.zero_le _) hij (by simpa [e1] using hj)
    rw [ltOf_lt, arr_g, arr_g, g_at hi, g_at hj] at this
    exact this
  rw [hw, ← es]
  exact sw_rows hH hb (by rw [hp'.1])
end Go.Proofs.Ytoganfdpaagomaa
