/- Lists of one kind of flat structs: slices.Clone, and the law folder's Plain, Own and Kept. No condition but that the list's bytes are within reach. -/
import Derived.Test.YtjcbhgkfbilifabFAcoMem
import Derived.Laws.AppendOwn
import Derived.Laws.AppendOwnNone
import Derived.OwnWalk
import Derived.Lib.SliceRun
import Derived.Shelf.Abstract
import Derived.BigQuiet
import Derived.Handy
namespace Go.Proofs.Ytjcbhgkfbilifab
namespace FnH
open Go.ChangeShapes Go.WideShapes Go.ChangeAt Go.RowKit Ao
set_option linter.unusedVariables false

theorem info : (Try.prog.info? 33).map (fun i => (i.zero, i.size, i.bytes)) = some (some (.agg #[.int .i64 0, .int .i64 0, .int .i64 0, .int .i64 0]), 4, 32) := by kernel_rfl
theorem below_made {w w1 : World} {T : TypeId} (hg : (w.alloc (.cells #[] T)).grownBy w1 (some w.heap.size)) : Below w.heap.size w w1 :=
  ⟨hg.os, hg.tape, hg.output, Nat.le_trans (by simp) hg.size, fun k hk => (hg.block k (by simp; omega) (by simp; omega)).trans (Below.heap_alloc _ _ _ hk)⟩
set_option maxRecDepth 100000 in
theorem clone_any {w : World} {a : Option Addr} {m cv : Nat} {l : List Hd} (h : Rl henc 4 32 w a m l) :
    Calls Try.prog 50 #[.slice a m cv] w fun e w' => ∃ a' c', e = .returned (.slice a' m c') ∧ Below w.heap.size w w' ∧ w'.ownsRow w.heap.size 33 4 (.slice a' m c') m (fcells henc l) := by
  obtain ⟨i0, hi, hz0, hz1, hz2⟩ := info_parts info
  have hlen := h.len
  have hroom := h.room
  cases a with
  | none =>
    obtain ⟨rfl, rfl⟩ := h.noAddr
    clear h hlen
    have qT : ∀ (w : World) (a : Option Addr) (n c n' c' : Nat), (binOp .eql 24 (.slice a n c) (.slice none n' c')).run Try.prog w = .ok (.bool a.isNone) w := fun w a n c n' c' => Lib.run_eql_slice_nil w _ _ a n c n' c' Try.underlying24
    go_enter Try.func50, Try.ntmps50
    go_wp2_with fail
    go_ret
    exact ⟨none, 0, rfl, Below.refl _ _, World.ownsRow_nil _ _ _ _⟩
  | some ad =>
    have HC : Hid (∀ j u, (fcells henc l)[j]? = some u → (w.alloc (.cells #[] 33)).cell? (ad.add j) = some u) := (h.below (Below.alloc (Below.refl _ _) (Nat.le_refl _) _)).news hflat ad rfl
    have HL : Hid ((fcells henc l).length = m * 4) := by show _ = _; rw [fcells_length hflat, hlen]
    have H1 := hide (fcells_one hflat l)
    clear h hlen
    have qT : ∀ (w : World) (a : Option Addr) (n c n' c' : Nat), (binOp .eql 24 (.slice a n c) (.slice none n' c')).run Try.prog w = .ok (.bool a.isNone) w := fun w a n c n' c' => Lib.run_eql_slice_nil w _ _ a n c n' c' Try.underlying24
    go_enter Try.func50, Try.ntmps50
    go_wp2_with (at_builtin; refine wpList_append_own _ rfl (.tmp 5) (.tmp 6) 24 rfl w.heap.size 33 i0 (.agg #[.int .i64 0, .int .i64 0, .int .i64 0, .int .i64 0]) 4 32 Try.underlying24 hi hz0 hz1 hz2 (by rfl) (by omega) (.slice (some ⟨w.heap.size, 0, none⟩) 0 0) 0 [] rfl (World.ownsRow_made w #[] 0 (Nat.le_refl _) (by unfold maxLen; omega) (by simp)) ad m cv (fcells henc l) rfl HL.out HC.out H1.out (by unfold maxLen; omega) (by omega) (by simp) ?_; intro v' w1 ho hg _; have HO := hide ho; have HG := hide hg; clear ho hg)
    go_ret
    have ho := HO.out
    simp only [Nat.zero_add, List.nil_append] at ho
    have ho' := ho
    obtain ⟨_, ⟨rfl, e⟩ | ⟨G, C, cur, rfl, _⟩⟩ := ho
    · subst e
      exact ⟨none, 0, rfl, below_made HG.out, ho'⟩
    · exact ⟨_, _, rfl, below_made HG.out, ho'⟩
theorem tl_inj (a b : ByteArray) : (a.toList = b.toList) ↔ a = b := ⟨fun e => WideShapes.bytes_inj (by rwa [Lib.toList_data, Lib.toList_data] at e), fun e => by rw [e]⟩
set_option maxRecDepth 100000 in
theorem eql_run (x y : Hd) (w : World) : (binOp .eql 33 (hval x) (hval y)).run Try.prog w = .ok (.bool (decide (x = y))) w := by
  obtain ⟨xn, xl, xu, xd⟩ := x
  obtain ⟨yn, yl, yu, yd⟩ := y
  unfold hval
  go_simp
  (repeat' split) <;> first | (simp_all <;> done) | simp_all [tl_inj]
set_option maxRecDepth 100000 in
theorem neq_run (x y : Hd) (w : World) : (binOp .neq 33 (hval x) (hval y)).run Try.prog w = .ok (.bool (!decide (x = y))) w := by
  obtain ⟨xn, xl, xu, xd⟩ := x
  obtain ⟨yn, yl, yu, yd⟩ := y
  unfold hval
  go_simp
  (repeat' split) <;> first | (simp_all <;> done) | simp_all [tl_inj]
/-- append(s, x...) where s, a row of the call's own, has room -/
theorem wp_fits {ops : Array Oper} {rest : List Oper} {o : Oper} {act : Act} {Q : Exit → Act → World → Prop} (w : World) (hg : o.guard = none) (s x : Operand)
    (hop : o.op = Op.call { callee := Callee.builtin Builtin.append, args := #[s, x], argTypes := #[24, 24] })
    (B g k cp : Nat) (xs : List Value) (hs : act.eval s = .slice (some ⟨g, 0, none⟩) k cp) (hown : w.ownsRow B 33 4 (.slice (some ⟨g, 0, none⟩) k cp) k xs)
    (a : Option Addr) (m c : Nat) (l : List Hd) (hx : act.eval x = .slice a m c) (h : Rl henc 4 32 w a m l) (hno : a = none → c = 0) (hr : k + m ≤ cp)
    (hK : ∀ w', w'.ownsRow B 33 4 (.slice (some ⟨g, 0, none⟩) (k + m) cp) (k + m) (xs ++ fcells henc l) → w.grownBy w' (some g) → wpList Try.prog ops Q rest (act.put o.dst (.slice (some ⟨g, 0, none⟩) (k + m) cp)) w') :
    wpList Try.prog ops Q (o :: rest) act w := by
  obtain ⟨i0, hi, hz0, hz1, hz2⟩ := info_parts info
  cases a with
  | none =>
    obtain ⟨rfl, rfl⟩ := h.noAddr
    obtain rfl := hno rfl
    refine wpList_append_own_none hg s x 24 hop B 33 i0 4 Try.underlying24 hi _ k xs hs hown hx ?_
    have := hK w (by rw [show fcells henc [] = [] from rfl, List.append_nil]; exact hown) (World.grownBy.refl _ _)
    exact this
  | some ad =>
    exact wpList_append_fits w hg s x 24 hop B 33 i0 4 Try.underlying24 hi hz1 g k cp xs hs hown ad m c (fcells henc l) hx (by rw [fcells_length hflat, h.len]) (h.news hflat ad rfl) (fcells_one hflat l) hr hK
/-- what Own has made, as a list, and what stands behind it -/
theorem own_row {w : World} {B g len : Nat} {l : List Hd} {mk : Hd} (hl : l.length = len) (hr : len * 32 ≤ 140737488355328)
    (h : w.ownsRow B 33 4 (.slice (some ⟨g, 0, none⟩) (len + 2) (len + 2)) (len + 2) (fcells henc (l ++ [mk, mk]))) :
    Rl henc 4 32 w (some ⟨g, 0, none⟩) len l ∧ w.rangeAt g (len * 4) (henc mk) ∧ w.rangeAt g ((len + 1) * 4) (henc mk) := by
  have hgl : g < w.heap.size := (h.lt g rfl).2
  have at_ : ∀ j x, (l ++ [mk, mk])[j]? = some x → w.rangeAt g (j * 4) (henc x) := fun j x hj o v hv => by
    have hjl := (List.getElem?_eq_some_iff.1 hj).1
    simp only [List.length_append, List.length_cons, List.length_nil, hl] at hjl
    have ho : o < 4 := by
      have := (List.getElem?_eq_some_iff.1 hv).1
      rw [hflat.size] at this
      exact this
    rw [h.cellAt (j * 4 + o) (by omega), fcells_at hflat _ _ _ hj o ho]
    exact hv
  refine ⟨⟨hl, fun h0 => ⟨g, 0, rfl, hgl, fun j x hj => ?_⟩, hr⟩, at_ len mk ?_, at_ (len + 1) mk ?_⟩
  · rw [Nat.zero_add]
    exact at_ j x (by rw [List.getElem?_append_left (List.getElem?_eq_some_iff.1 hj).1]; exact hj)
  · rw [List.getElem?_append_right (by omega), hl]; simp
  · rw [List.getElem?_append_right (by omega), hl]; simp
end FnH
end Go.Proofs.Ytjcbhgkfbilifab
