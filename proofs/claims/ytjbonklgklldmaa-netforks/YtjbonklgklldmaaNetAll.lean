/- The landed net's All, and the clone that it keeps. No condition. -/
import Derived.Test.YtjbonklgklldmaaNetSmall
import Derived.Laws.AppendOwn
import Derived.Lib.SliceRun
import Derived.RangeFuncBox
namespace Go.Proofs.Ytjbonklgklldmaa
open Go.ChangeShapes Go.WideShapes Go.ChangeAt Go.RowKit B8 Nm
set_option linter.unusedVariables false

theorem below_row {w w1 : World} {T : TypeId} (hg : (w.alloc (.cells #[] T)).grownBy w1 (some w.heap.size)) : Below w.heap.size w w1 :=
  ⟨hg.os, hg.tape, hg.output, Nat.le_trans (by simp) hg.size, fun k hk => (hg.block k (by simp; omega) (by simp; omega)).trans (Below.heap_alloc _ _ _ hk)⟩

set_option maxRecDepth 100000 in
theorem clone_pk {w : World} {av : Option Addr} {m cv : Nat} {xs : List Value} (h : w.ownsRow 0 33 3 (.slice av m cv) m xs) (h1 : ∀ u ∈ xs, u.oneCell' = true) (hm : m ≤ 256) :
    Calls Try.prog 22 #[.slice av m cv] w fun e w' => ∃ a' c', e = .returned (.slice a' m c') ∧ Below w.heap.size w w' ∧ w'.ownsRow w.heap.size 33 3 (.slice a' m c') m xs := by
  obtain ⟨i0, hi, hz0, hz1, hz2⟩ := info_parts pkinfo
  have hlen := h.1
  rcases h.2 with ⟨e1, e2⟩ | ⟨g, cap, cur, e1, _, hg, _⟩
  · obtain ⟨rfl, rfl, rfl⟩ : av = none ∧ m = 0 ∧ cv = 0 := by simpa using e1
    obtain rfl : xs = [] := List.eq_nil_of_length_eq_zero (by simpa using hlen)
    clear h e1 e2 hlen
    have qT : ∀ (w : World) (a : Option Addr) (n c n' c' : Nat), (binOp .eql 27 (.slice a n c) (.slice none n' c')).run Try.prog w = .ok (.bool a.isNone) w := fun w a n c n' c' => Lib.run_eql_slice_nil w _ _ a n c n' c' Try.underlying27
    go_enter Try.func22, Try.ntmps22
    go_wp2_with fail
    go_ret
    exact ⟨none, 0, rfl, Below.refl _ _, World.ownsRow_nil _ _ _ _⟩
  · obtain ⟨rfl, rfl⟩ : av = some ⟨g, 0, none⟩ ∧ cv = cap := by simpa using e1
    have HC : Hid (∀ j u, xs[j]? = some u → (w.alloc (.cells #[] 33)).cell? ((⟨g, 0, none⟩ : Addr).add j) = some u) := (h.alloc _).cells (g := g) rfl
    have HL := hide hlen
    clear h e1 hlen hg
    have qT : ∀ (w : World) (a : Option Addr) (n c n' c' : Nat), (binOp .eql 27 (.slice a n c) (.slice none n' c')).run Try.prog w = .ok (.bool a.isNone) w := fun w a n c n' c' => Lib.run_eql_slice_nil w _ _ a n c n' c' Try.underlying27
    go_enter Try.func22, Try.ntmps22
    go_wp2_with (at_builtin; refine wpList_append_own _ rfl (.tmp 5) (.tmp 6) 27 rfl w.heap.size 33 i0 (.agg zpk) 3 40 Try.underlying27 hi hz0 hz1 hz2 (by rfl) (by omega) (.slice (some ⟨w.heap.size, 0, none⟩) 0 0) 0 [] rfl (World.ownsRow_made w #[] 0 (Nat.le_refl _) (by unfold maxLen; omega) (by simp)) ⟨g, 0, none⟩ m cv xs rfl HL.out HC.out h1 (by unfold maxLen; omega) (by omega) (by simp) ?_; intro v' w1 ho hg _; have HO := hide ho; have HG := hide hg; clear ho hg)
    go_ret
    have ho := HO.out
    simp only [Nat.zero_add, List.nil_append] at ho
    have ho' := ho
    obtain ⟨_, ⟨rfl, e⟩ | ⟨G, C, cur, rfl, _⟩⟩ := ho
    · subst e
      exact ⟨none, 0, rfl, below_row HG.out, ho'⟩
    · exact ⟨_, _, rfl, below_row HG.out, ho'⟩
/-- what All keeps: a box Bs, a list of its own, the bodies that the net has -/
structure Kept (w : World) (N0 Bs : Nat) (v : Value) (m : Nat) (C : List Pv) : Prop where
  box : Boxed w Bs 27 v
  row : w.ownsRow N0 33 3 v m (pcells C)
  shape : ∃ a c, v = .slice a m c
  ins : ∀ p ∈ C, p.In w
  len : m = C.length
  lo : N0 ≤ Bs
theorem all_net {w : World} {L : Lay} {kk : Nat} {s : Ns} (h : Nt w L kk s) :
    Calls Try.prog 10 #[.pointer (some ⟨L.N, 0, none⟩)] w fun e w' => ∃ Bs v, e = .returned (.func (.func 23) #[] #[.pointer (some ⟨Bs, 0, none⟩)]) ∧ Below w.heap.size w w' ∧ Kept w' w.heap.size Bs v L.m L.l := by
  have hm : L.m ≤ 256 := by have := h.ok.most; rw [h.ps, List.length_map, ← h.len] at this; exact this
  have C := hide (clone_pk h.row (pcells_one _) hm)
  have c1 := h.c1
  have H := hide h
  clear h hm
  go_enter Try.func10, Try.ntmps10
  go_wp2_with fail
  refine C.out.mono ?_
  rintro e w1 ⟨a', c', rfl, hb, hr⟩
  have B1 := hide hb
  have R1 := hide hr
  clear hb hr c1
  go_wp2_with fail
  go_ret
  have b2 : Below w1.heap.size w1 (w1.alloc (.cells #[.slice a' L.m c'] 27)) := below_alloc (Below.refl _ _) _
  exact ⟨_, _, rfl, below_alloc B1.out _, Boxed.new w1 _ _, row_same R1.out (fun k hk => Below.heap_alloc _ _ _ (R1.out.lt k hk).2), ⟨a', c', rfl⟩, fun p hp => ((H.out.ins p hp).below B1.out).below b2, H.out.len, B1.out.size⟩
theorem all_nil (w : World) : Calls Try.prog 10 #[.pointer none] w fun e w' => e = .returned (.func (.func 21) #[] #[]) ∧ w' = w := by
  go_enter Try.func10, Try.ntmps10
  go_wp2_with fail
  go_ret
  exact ⟨rfl, rfl⟩
end Go.Proofs.Ytjbonklgklldmaa
