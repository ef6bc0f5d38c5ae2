/- slices.Clone of a row of pointers; the landed log's All, Fork. No condition. -/
import Derived.Test.YtcbijiielikfmaaSlotsCutS
import Derived.Laws.AppendOwn
import Derived.Lib.SliceRun
import Derived.RangeFuncBox
import Derived.RangeFuncNested
import Derived.Deep.RegionWith
namespace Go.Proofs.Ytcbijiielikfmaa.Ls
open Go.ChangeShapes Go.WideShapes Go.ChangeAt Go.RowKit Sx
set_option linter.unusedVariables false

theorem below_row {w w1 : World} {T : TypeId} (hg : (w.alloc (.cells #[] T)).grownBy w1 (some w.heap.size)) : Below w.heap.size w w1 :=
  ⟨hg.os, hg.tape, hg.output, Nat.le_trans (by simp) hg.size, fun k hk => (hg.block k (by simp; omega) (by simp; omega)).trans (Below.heap_alloc _ _ _ hk)⟩
set_option maxRecDepth 100000 in
theorem clone_any {w : World} {av : Option Addr} {m cv : Nat} {xs : List Value} (h : w.ownsRow 0 77 1 (.slice av m cv) m xs) (h1 : ∀ u ∈ xs, u.oneCell' = true) (hm : m ≤ 1024) :
    Calls Try.prog 81 #[.slice av m cv] w fun e w' => ∃ a' c', e = .returned (.slice a' m c') ∧ Below w.heap.size w w' ∧ w'.ownsRow w.heap.size 77 1 (.slice a' m c') m xs := by
  obtain ⟨i0, hi, hz0, hz1, hz2⟩ := info_parts ptrinfo
  have hlen := h.1
  rcases h.2 with ⟨e1, e2⟩ | ⟨g, cap, cur, e1, _, hg, _⟩
  · obtain ⟨rfl, rfl, rfl⟩ : av = none ∧ m = 0 ∧ cv = 0 := by simpa using e1
    obtain rfl : xs = [] := List.eq_nil_of_length_eq_zero (by simpa using hlen)
    clear h e1 e2 hlen
    have qT : ∀ (w : World) (a : Option Addr) (n c n' c' : Nat), (binOp .eql 71 (.slice a n c) (.slice none n' c')).run Try.prog w = .ok (.bool a.isNone) w := fun w a n c n' c' => Lib.run_eql_slice_nil w _ _ a n c n' c' Try.underlying71
    go_enter Try.func81, Try.ntmps81
    go_wp2_with fail
    go_ret
    exact ⟨none, 0, rfl, Below.refl _ _, World.ownsRow_nil _ _ _ _⟩
  · obtain ⟨rfl, rfl⟩ : av = some ⟨g, 0, none⟩ ∧ cv = cap := by simpa using e1
    have HC : Hid (∀ j u, xs[j]? = some u → (w.alloc (.cells #[] 77)).cell? ((⟨g, 0, none⟩ : Addr).add j) = some u) := (h.alloc _).cells (g := g) rfl
    have HL := hide hlen
    clear h e1 hlen hg
    have qT : ∀ (w : World) (a : Option Addr) (n c n' c' : Nat), (binOp .eql 71 (.slice a n c) (.slice none n' c')).run Try.prog w = .ok (.bool a.isNone) w := fun w a n c n' c' => Lib.run_eql_slice_nil w _ _ a n c n' c' Try.underlying71
    go_enter Try.func81, Try.ntmps81
    go_wp2_with (at_builtin; refine wpList_append_own _ rfl (.tmp 5) (.tmp 6) 71 rfl w.heap.size 77 i0 (.pointer none) 1 8 Try.underlying71 hi hz0 hz1 hz2 (by rfl) (by omega) (.slice (some ⟨w.heap.size, 0, none⟩) 0 0) 0 [] rfl (World.ownsRow_made w #[] 0 (Nat.le_refl _) (by unfold maxLen; omega) (by simp)) ⟨g, 0, none⟩ m cv xs rfl HL.out HC.out h1 (by unfold maxLen; omega) (by omega) (by simp) ?_; intro v' w1 ho hg _; have HO := hide ho; have HG := hide hg; clear ho hg)
    go_ret
    have ho := HO.out
    simp only [Nat.zero_add, List.nil_append] at ho
    have ho' := ho
    obtain ⟨_, ⟨rfl, e⟩ | ⟨G, C, cur, rfl, _⟩⟩ := ho
    · subst e
      exact ⟨none, 0, rfl, below_row HG.out, ho'⟩
    · exact ⟨_, _, rfl, below_row HG.out, ho'⟩
/-- a box that lay ahead of a call -/
theorem lay_box {Y w3 : World} {b : Nat} {t : TypeId} {v : Value} (hb : Below Y.drew.heap.size Y.drew w3) (hy : Boxed Y b t v) : w3.cell? ⟨b, 0, none⟩ = some v ∧ w3.frozen? ⟨b, 0, none⟩ = false ∧ Hid (Boxed w3 b t v) := by
  have h : Boxed w3 b t v := (hb.block b hy.lt).trans hy
  exact ⟨h.cell, h.frozen, h⟩
theorem box_two (w : World) (o : Obj) (t : TypeId) (v : Value) : Boxed ((w.alloc o).alloc (.cells #[v] t)) (w.heap.size + 1) t v := by
  have := Boxed.new (w.alloc o) t v
  rwa [World.size_alloc] at this
theorem ne_new {X w2 : World} (hb : Below X.heap.size X w2) (b : Nat) : b < X.heap.size → ¬ w2.heap.size = b := fun h => by have := hb.size; omega
theorem ne_new' {X w2 : World} (hb : Below X.heap.size X w2) (b : Nat) : b < X.heap.size → ¬ b = w2.heap.size := fun h => by have := hb.size; omega
/-- what All keeps -/
structure Kt (w' : World) (N0 Bp Bf : Nat) (v : Value) (F : Int) (bs : List (Option Nat)) : Prop where
  bf : Boxed w' Bf 3 (.int .i64 F)
  bp : Boxed w' Bp 71 v
  row : w'.ownsRow N0 77 1 v bs.length (bs.map pv)
  shape : ∃ a c, v = .slice a bs.length c
  lf : N0 ≤ Bf
  lp : N0 ≤ Bp
theorem kt_of {w X w2 Z : World} {Bp Bf c' : Nat} {a' : Option Addr} {F : Int} {bs : List (Option Nat)} (hX : Below w.heap.size w X) (hb : Below X.heap.size X w2) (hr : w2.ownsRow X.heap.size 77 1 (.slice a' bs.length c') bs.length (bs.map pv)) (hZ : Below w.heap.size w Z) (hs : ∀ (j : Nat) (cs : Array Value), w2.heap[j]? = some (.cells cs 77 (0, 0)) → Z.heap[j]? = some (.cells cs 77 (0, 0)))
    (b1 : Boxed Z Bf 3 (.int .i64 F)) (b2 : Boxed Z Bp 71 (.slice a' bs.length c')) (l1 : w.heap.size ≤ Bf) (l2 : w.heap.size ≤ Bp) :
    Below w.heap.size w Z ∧ Kt Z w.heap.size Bp Bf (.slice a' bs.length c') F bs := by
  refine ⟨hZ, ⟨b1, b2, ?_, ⟨a', c', rfl⟩, l1, l2⟩⟩
  obtain ⟨hl, h | ⟨g, cp, cur, h1, h2, h3, h4⟩⟩ := hr
  · exact ⟨hl, .inl h⟩
  · exact ⟨hl, .inr ⟨g, cp, cur, h1, Nat.le_trans hX.size h2, hs _ _ h3, h4⟩⟩
theorem tag_alloc {w Z : World} (o : Obj) (h : ∀ (j : Nat) (cs : Array Value), w.heap[j]? = some (.cells cs 77 (0, 0)) → Z.heap[j]? = some (.cells cs 77 (0, 0))) : ∀ (j : Nat) (cs : Array Value), w.heap[j]? = some (.cells cs 77 (0, 0)) → (Z.alloc o).heap[j]? = some (.cells cs 77 (0, 0)) :=
  fun j cs hj => (Below.heap_alloc _ _ _ (Array.getElem?_eq_some_iff.1 (h j cs hj)).1).trans (h j cs hj)
theorem tag_set {w Z : World} {b : Nat} {t : TypeId} {v u : Value} (hb : Boxed Z b t v) (ht : t ≠ 77) (h : ∀ (j : Nat) (cs : Array Value), w.heap[j]? = some (.cells cs 77 (0, 0)) → Z.heap[j]? = some (.cells cs 77 (0, 0))) : ∀ (j : Nat) (cs : Array Value), w.heap[j]? = some (.cells cs 77 (0, 0)) → (Z.setCell ⟨b, 0, none⟩ u).heap[j]? = some (.cells cs 77 (0, 0)) :=
  fun j cs hj => (Below.heap_setCell _ _ _ _ (fun e => by
    have := h j cs hj
    rw [e, show Z.heap[b]? = _ from hb] at this
    simp at this
    exact ht this.2)).trans (h j cs hj)
section
variable {w : World} {P : Nat} {L : Lay} {s : Ss Al}
set_option maxRecDepth 100000 in
set_option maxHeartbeats 2000000 in
theorem all_any (h : Lg w P L s) : Calls Try.prog 76 #[.pointer (some ⟨P, 0, none⟩)] w fun e w' => ∃ Bp Bf v, e = .returned (.func (.func 82) #[] #[.pointer (some ⟨Bp, 0, none⟩), .pointer (some ⟨Bf, 0, none⟩)]) ∧ Below w.heap.size w w' ∧ Kt w' w.heap.size Bp Bf v s.first L.bs := by
  obtain ⟨c0, _, c2, cf⟩ := h.c
  rw [Lay.v] at c2
  obtain ⟨N, eN⟩ : ∃ N, N = L.bs.length := ⟨_, rfl⟩
  have CL : Hid (∀ X : World, Below w.heap.size w X → Calls Try.prog 81 #[.slice L.a N L.c] X fun e w' => ∃ a' c', e = .returned (.slice a' N c') ∧ Below w.heap.size w X ∧ Below X.heap.size X w' ∧ w'.ownsRow X.heap.size 77 1 (.slice a' N c') N (L.bs.map pv)) := fun X hX => by
    have hl : L.bs.length ≤ 1024 := by have := h.ok.len; have := h.ok.m2; rw [h.len]; omega
    have := (h.below hX).row
    rw [Lay.v] at this
    rw [eN]
    exact (clone_any this (pvs_one _) hl).mono fun e w' ⟨a', c', h1, h2, h3⟩ => ⟨a', c', h1, hX, h2, h3⟩
  have FI : Hid (∀ {X w2 Z : World} {Bp Bf c' : Nat} {a' : Option Addr}, Below w.heap.size w X → Below X.heap.size X w2 → w2.ownsRow X.heap.size 77 1 (.slice a' N c') N (L.bs.map pv) → Below w.heap.size w Z → (∀ (j : Nat) (cs : Array Value), w2.heap[j]? = some (.cells cs 77 (0, 0)) → Z.heap[j]? = some (.cells cs 77 (0, 0))) →
      Boxed Z Bf 3 (.int .i64 s.first) → Boxed Z Bp 71 (.slice a' N c') → w.heap.size ≤ Bf → w.heap.size ≤ Bp → Below w.heap.size w Z ∧ Kt Z w.heap.size Bp Bf (.slice a' N c') s.first L.bs) := fun {X w2 Z Bp Bf c' a'} hX hb hr hZ hs b1 b2 l1 l2 => by
    rw [eN] at hr b2 ⊢
    exact kt_of hX hb hr hZ hs b1 b2 l1 l2
  rw [← eN] at c2
  have KP : Hid (∀ u, Below w.heap.size w u → u.cell? ⟨P, 0, none⟩ = some (.int .i64 s.first) ∧ u.cell? ⟨P, 2, none⟩ = some (.slice L.a N L.c)) := fun u hu => ⟨(hu.cell (p := ⟨P, 0, none⟩) h.ltP).trans c0, (hu.cell (p := ⟨P, 2, none⟩) h.ltP).trans c2⟩
  clear h eN
  generalize s.first = F at *
  go_enter Try.func76, Try.ntmps76
  go_wp2_with fail
  go_region_held3 (fun u => u.cell? ⟨P, 0, none⟩ = some (.int .i64 F) ∧ u.cell? ⟨P, 2, none⟩ = some (.slice L.a N L.c)) ((first | (refine KP.out _ ?_; repeat (first | exact BB.out | exact Below.refl _ _ | refine below_alloc ?_ _ | refine Below.drew ?_ | refine Below.setCell ?_ ?_ _ | exact Nat.le_refl _ | exact Nat.le_succ _ | exact n5 | exact Nat.le_succ_of_le n5 | omega)))) ((first | (go_at_call 81; refine (CL.out _ (by repeat (first | exact Below.refl _ _ | refine below_alloc ?_ _ | refine Below.drew ?_))).mono ?_; rintro e w2 ⟨a', c', rfl, hX, hb, hr⟩; have HX := hide hX; have BB := hide (hX.trans (hb.mono hX.size)); have HB := hide hb; have HR := hide hr; have q1 := hb.cell (p := ⟨w.heap.size, 0, none⟩); have q2 := hb.frozen (p := ⟨w.heap.size, 0, none⟩); have q3 := hb.cell (p := ⟨w.heap.size + 1, 0, none⟩); have q4 := hb.frozen (p := ⟨w.heap.size + 1, 0, none⟩); have q5 := fun o => (below_alloc hb o).cell (p := ⟨w.heap.size, 0, none⟩); have q6 := fun o => (below_alloc hb o).frozen (p := ⟨w.heap.size, 0, none⟩); have n1 := ne_new hb w.heap.size; have n2 := ne_new hb (w.heap.size + 1); have n3 := ne_new' hb w.heap.size; have n4 := ne_new' hb (w.heap.size + 1); have n5 := BB.out.size; simp at q1 q2 q3 q4 q5 q6 n1 n2 n3 n4; clear hb hr hX)))
  all_goals (go_wp2_with fail; go_ret)
  · exact ⟨_, _, _, rfl, FI.out HX.out HB.out HR.out (below_alloc (below_alloc BB.out _) _) (tag_alloc _ (tag_alloc _ (fun _ _ h => h))) ((Boxed.new w2 _ _).alloc _) (box_two w2 _ _ _) n5 (by omega)⟩
  · exact ⟨_, _, _, rfl, FI.out HX.out HB.out HR.out (below_alloc (below_alloc BB.out _) _) (tag_alloc _ (tag_alloc _ (fun _ _ h => h))) (box_two w2 _ _ _) ((Boxed.new w2 _ _).alloc _) (by omega) n5⟩
  · have x1 := (lay_box HB.out (Boxed.new w _ _)).2.2.out
    have x2 := Boxed.new w2 71 (.slice none 0 0)
    have x3 := (x1.alloc (.cells #[.slice none 0 0] 71)).set (.int .i64 F)
    have x4 := x2.other n1 (.int .i64 F)
    exact ⟨_, _, _, rfl, FI.out HX.out HB.out HR.out (((below_alloc BB.out _).setCell (p := ⟨w.heap.size, 0, none⟩) (Nat.le_refl _) _).setCell (p := ⟨w2.heap.size, 0, none⟩) n5 _) (tag_set x4 (by decide) (tag_set (x1.alloc _) (by decide) (tag_alloc _ (fun _ _ h => h)))) (x3.other n3 _) (x4.set _) (Nat.le_refl _) n5⟩
  · have x1 := (lay_box HB.out ((Boxed.new w _ _).alloc _)).2.2.out
    have x2 := (lay_box HB.out (box_two w _ _ _)).2.2.out
    have x3 := x1.set (.int .i64 F)
    have x4 := x2.other (show w.heap.size + 1 ≠ w.heap.size by omega) (.int .i64 F)
    exact ⟨_, _, _, rfl, FI.out HX.out HB.out HR.out ((BB.out.setCell (p := ⟨w.heap.size, 0, none⟩) (Nat.le_refl _) _).setCell (p := ⟨w.heap.size + 1, 0, none⟩) (Nat.le_succ _) _) (tag_set x4 (by decide) (tag_set x1 (by decide) (fun _ _ h => h))) (x3.other (show w.heap.size ≠ w.heap.size + 1 by omega) _) (x4.set _) (Nat.le_refl _) (Nat.le_succ _)⟩
  · have x1 := (lay_box HB.out (Boxed.new w _ _)).2.2.out
    have x2 := Boxed.new w2 3 (.int .i64 F)
    exact ⟨_, _, _, rfl, FI.out HX.out HB.out HR.out ((below_alloc BB.out _).setCell (p := ⟨w.heap.size, 0, none⟩) (Nat.le_refl _) _) (tag_set (x1.alloc _) (by decide) (tag_alloc _ (fun _ _ h => h))) (x2.other n1 _) ((x1.alloc _).set _) n5 (Nat.le_refl _)⟩
  · have x1 := (lay_box HB.out ((Boxed.new w _ _).alloc _)).2.2.out
    have x2 := (lay_box HB.out (box_two w _ _ _)).2.2.out
    have x3 := x2.set (.int .i64 F)
    have x4 := x1.other (show w.heap.size ≠ w.heap.size + 1 by omega) (.int .i64 F)
    exact ⟨_, _, _, rfl, FI.out HX.out HB.out HR.out ((BB.out.setCell (p := ⟨w.heap.size + 1, 0, none⟩) (Nat.le_succ _) _).setCell (p := ⟨w.heap.size, 0, none⟩) (Nat.le_refl _) _) (tag_set x4 (by decide) (tag_set x2 (by decide) (fun _ _ h => h))) (x3.other (show w.heap.size + 1 ≠ w.heap.size by omega) _) (x4.set _) (Nat.le_succ _) (Nat.le_refl _)⟩
end
end Go.Proofs.Ytcbijiielikfmaa.Ls
