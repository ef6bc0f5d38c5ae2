/- What Grant answers: the landed code. Condition: the account can be read. -/
import Derived.Deep.Cut
import Derived.Deep.CutRange
import Derived.Deep.RegionWith
import Derived.Test.YtjcbhgkfbilifabAcoMade
import Derived.Test.YtjcbhgkfbilifabAcoWith
import Derived.Test.YtjcbhgkfbilifabAcoFind
import Derived.Laws.Tables
namespace Go.Proofs.Ytjcbhgkfbilifab
open Go.ChangeShapes Go.WideShapes Go.ChangeAt Go.RowKit Ao
set_option linter.unusedVariables false

/-- under way: an account's block, its result's place, a holder's block -/
structure Gr (w W : World) (q : Nat) (A : Ac) (a : Option Addr) (n c : Nat) (y : Hd) : Prop where
  b : Below w.heap.size w W
  ab : Ab W w.heap.size A a n c
  zr : Zr W (w.heap.size + 1)
  row : W.heap[q]? = some (.cells #[.int .i64 y.nd, .int .i64 y.ls, .int .i64 y.up, .int .i64 y.dn] 33 (0, 0))
  q : w.heap.size + 1 < q
section
variable {w W : World} {q : Nat} {A : Ac} {a : Option Addr} {n c : Nat} {y : Hd}
theorem Gr.lt (h : Gr w W q A a n c y) : q < W.heap.size := (Array.getElem?_eq_some_iff.1 h.row).1
theorem Gr.below {W' : World} (h : Gr w W q A a n c y) (hb : Below W.heap.size W W') : Gr w W' q A a n c y := ⟨h.b.trans (hb.mono h.b.size), h.ab.below hb, h.zr.below hb, (hb.block _ h.lt).trans h.row, h.q⟩
theorem Gr.drew (h : Gr w W q A a n c y) : Gr w W.drew q A a n c y := h.below ⟨rfl, rfl, rfl, Nat.le_refl _, fun _ _ => rfl⟩
theorem Gr.fz (h : Gr w W q A a n c y) : ∀ o, W.frozen? ⟨q, o, none⟩ = false := fun o => frozen_of_row _ _ _ _ _ h.row
theorem Gr.at_ (h : Gr w W q A a n c y) : HdAt W q 0 y := hd_row y h.row
theorem Gr.two (h : Gr w W q A a n c y) (o o' : Nat) (u v : Value) : Below w.heap.size w ((W.setCell ⟨q, o, none⟩ u).setCell ⟨q, o', none⟩ v) ∧ Ab ((W.setCell ⟨q, o, none⟩ u).setCell ⟨q, o', none⟩ v) w.heap.size A a n c ∧ Zr ((W.setCell ⟨q, o, none⟩ u).setCell ⟨q, o', none⟩ v) (w.heap.size + 1) := by
  have hq := h.q
  exact ⟨(h.b.setCell (p := ⟨q, o, none⟩) (show w.heap.size ≤ q by omega) _).setCell (p := ⟨q, o', none⟩) (show w.heap.size ≤ q by omega) _, ⟨((put_far (by omega)).trans (put_far (by omega))).trans h.ab.row⟩, ((put_far (by omega)).trans (put_far (by omega))).trans h.zr⟩
theorem Gr.put (h : Gr w W q A a n c y) (u v : Int) : Gr w ((W.setCell ⟨q, 2, none⟩ (.int .i64 u)).setCell ⟨q, 3, none⟩ (.int .i64 v)) q A a n c ⟨y.nd, y.ls, u, v⟩ :=
  ⟨(h.two 2 3 _ _).1, (h.two 2 3 _ _).2.1, (h.two 2 3 _ _).2.2, put_row' (put_row' h.row), h.q⟩
theorem Gr.put' (h : Gr w W q A a n c y) (u v : Int) : Gr w ((W.setCell ⟨q, 3, none⟩ (.int .i64 v)).setCell ⟨q, 2, none⟩ (.int .i64 u)) q A a n c ⟨y.nd, y.ls, u, v⟩ :=
  ⟨(h.two 3 2 _ _).1, (h.two 3 2 _ _).2.1, (h.two 3 2 _ _).2.2, put_row' (put_row' h.row), h.q⟩
theorem gr_new (hb : Below w.heap.size w W) (ha : Ab W w.heap.size A a n c) (hz : Zr W (w.heap.size + 1)) (y : Hd) : ∃ W', W' = W.alloc (.cells #[.int .i64 y.nd, .int .i64 y.ls, .int .i64 y.up, .int .i64 y.dn] 33) ∧ Gr w W' W.heap.size A a n c y := by
  have X : Below W.heap.size W (W.alloc (.cells #[.int .i64 y.nd, .int .i64 y.ls, .int .i64 y.up, .int .i64 y.dn] 33)) := Below.alloc (Below.refl _ _) (Nat.le_refl _) _
  exact ⟨_, rfl, hb.trans (X.mono hb.size), ha.below X, hz.below X, heap_alloc_new W _, hz.lt⟩
end
end Go.Proofs.Ytjcbhgkfbilifab
