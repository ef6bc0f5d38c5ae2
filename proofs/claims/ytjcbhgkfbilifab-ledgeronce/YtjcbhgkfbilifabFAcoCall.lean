/- awake, and call: what any call makes of any account, the landed code. Condition: the account can be read. -/
import Derived.Deep.Cut
import Derived.Test.YtjcbhgkfbilifabFAcoAdd
import Derived.Test.YtjcbhgkfbilifabJBA
import Derived.Test.YtjcbhgkfbilifabJBC
import Derived.Test.YtjcbhgkfbilifabFAcoFind
import Derived.Test.YtjcbhgkfbilifabFAcoOps
import Derived.Laws.Tables
namespace Go.Proofs.Ytjcbhgkfbilifab
open Go.ChangeShapes Go.WideShapes Go.ChangeAt Go.RowKit Ao
set_option linter.unusedVariables false

theorem three_new (w : World) (X Y Z : Obj) : ∃ w1, w1 = ((w.alloc X).alloc Y).alloc Z ∧ Below w.heap.size w w1 ∧ w1.heap[w.heap.size]? = some X ∧ w1.heap[w.heap.size + 1]? = some Y ∧ w1.heap[w.heap.size + 2]? = some Z := by
  have b0 : Below w.heap.size w (w.alloc X) := Below.alloc (Below.refl _ _) (Nat.le_refl _) _
  have h0 := heap_alloc_new w X
  obtain ⟨u, eu⟩ : ∃ u, u = w.alloc X := ⟨_, rfl⟩
  have s0 : u.heap.size = w.heap.size + 1 := by rw [eu]; simp
  rw [← eu] at b0 h0 ⊢
  have b1 : Below u.heap.size u (u.alloc Y) := Below.alloc (Below.refl _ _) (Nat.le_refl _) _
  have h1 := heap_alloc_new u Y
  obtain ⟨v, ev⟩ : ∃ v, v = u.alloc Y := ⟨_, rfl⟩
  have s1 : v.heap.size = w.heap.size + 2 := by rw [ev]; simp; omega
  rw [← ev] at b1 h1 ⊢
  have b2 : Below v.heap.size v (v.alloc Z) := Below.alloc (Below.refl _ _) (Nat.le_refl _) _
  have h2 := heap_alloc_new v Z
  rw [s1] at h2
  rw [s0] at h1
  refine ⟨_, rfl, b0.trans ((b1.trans (b2.mono (by omega))).mono (by omega)), ?_, ?_, h2⟩
  · exact (b2.block _ (by omega)).trans ((b1.block _ (by omega)).trans h0)
  · exact (b2.block _ (by omega)).trans h1
theorem freeze_call {w : World} {a : Option Addr} {n c : Nat} {A : Ac} {v : Int} (h : Hs w a n A.hs) (hw : AcW A) : Calls Try.prog 9 #[acval A a n c, .int .i64 v] w fun e w' => Mad w (freezeA A v) (freezeE A v) e w' := freeze_any h hw
theorem thaw_call {w : World} {a : Option Addr} {n c : Nat} {A : Ac} (h : Hs w a n A.hs) (hw : AcW A) : Calls Try.prog 12 #[acval A a n c] w fun e w' => Mad w (thawA A) (thawE A) e w' := thaw_any h hw
theorem report_call {w : World} {a : Option Addr} {n c : Nat} {A : Ac} {node lease r net : Int} (h : Hs w a n A.hs) (hw : AcW A) (hcp : Cp a n c) : Calls Try.prog 11 #[acval A a n c, .int .i64 node, .int .i64 lease, .int .i64 r, .int .i64 net] w fun e w' => Mad w (reportA A node lease r net) (reportE A node lease r net) e w' := report_any h hw hcp
end Go.Proofs.Ytjcbhgkfbilifab
