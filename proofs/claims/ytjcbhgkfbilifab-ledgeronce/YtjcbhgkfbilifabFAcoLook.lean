/- What New, Room and Total answer: the landed code. Condition: the account can be read. -/
import Derived.Test.YtjcbhgkfbilifabFAcoStand
import Derived.Laws.Tables
namespace Go.Proofs.Ytjcbhgkfbilifab
open Go.ChangeShapes Go.WideShapes Go.ChangeAt Go.RowKit Ao
set_option linter.unusedVariables false

theorem one_new (w : World) (A : Ac) (a : Option Addr) (n c : Nat) : ∃ w1, w1 = w.alloc (.cells #[.string A.key, .int .i64 (A.lo), .int .i64 (A.hi), .int .i64 (A.base), .int .i64 (A.rd), .slice a n c, .int .i64 (A.lk.c), .int .i64 (A.lk.s), .int .i64 (A.lk.h), .int .i64 (A.lk.n)] 28) ∧ Below w.heap.size w w1 ∧ Ab w1 w.heap.size A a n c := ⟨_, rfl, Below.alloc (Below.refl _ _) (Nat.le_refl _) _, ab_new w A a n c⟩
theorem two_new (w : World) (A : Ac) (a : Option Addr) (n c : Nat) : ∃ w1, w1 = (w.alloc (.cells #[.string A.key, .int .i64 (A.lo), .int .i64 (A.hi), .int .i64 (A.base), .int .i64 (A.rd), .slice a n c, .int .i64 (A.lk.c), .int .i64 (A.lk.s), .int .i64 (A.lk.h), .int .i64 (A.lk.n)] 28)).alloc (.cells #[.string ⟨#[]⟩, .int .i64 0, .int .i64 0, .int .i64 0, .int .i64 0, .slice none 0 0, .int .i64 0, .int .i64 0, .int .i64 0, .int .i64 0] 28) ∧ Below w.heap.size w w1 ∧ Ab w1 w.heap.size A a n c ∧ Ab w1 (w.heap.size + 1) ac0 none 0 0 := by
  refine ⟨_, rfl, (Below.alloc (Below.refl _ _) (Nat.le_refl _) _).alloc (by simp) _, (ab_new w A a n c).below (Below.alloc (Below.refl _ _) (Nat.le_refl _) _), ?_⟩
  refine ⟨?_⟩
  show _ = some (Obj.cells #[.string ⟨#[]⟩, .int .i64 0, .int .i64 0, .int .i64 0, .int .i64 0, .slice none 0 0, .int .i64 0, .int .i64 0, .int .i64 0, .int .i64 0] 28 (0, 0))
  have := heap_alloc_new (w.alloc (.cells #[.string A.key, .int .i64 (A.lo), .int .i64 (A.hi), .int .i64 (A.base), .int .i64 (A.rd), .slice a n c, .int .i64 (A.lk.c), .int .i64 (A.lk.s), .int .i64 (A.lk.h), .int .i64 (A.lk.n)] 28)) (.cells #[.string ⟨#[]⟩, .int .i64 0, .int .i64 0, .int .i64 0, .int .i64 0, .slice none 0 0, .int .i64 0, .int .i64 0, .int .i64 0, .int .i64 0] 28)
  simpa using this
theorem zrow {w : World} {b : Nat} (h : Ab w b ac0 none 0 0) : w.heap[b]? = some (.cells #[.string ⟨#[]⟩, .int .i64 0, .int .i64 0, .int .i64 0, .int .i64 0, .slice none 0 0, .int .i64 0, .int .i64 0, .int .i64 0, .int .i64 0] 28 (0, 0)) := h.row
def newE (k : ByteArray) : Int := if keyB k = true then 0 else 1
def newA (k : ByteArray) : Ac := if keyB k = true then ⟨k, 0, 0, 0, 0, [], lk0⟩ else ac0
def totalV (A : Ac) : Int := if totalB A = true then A.base else 0
theorem totalB_eq (A : Ac) : totalB A = (rightB A && knownB A) := by
  unfold totalB knownB lockedB
  cases rightB A <;> simp
end Go.Proofs.Ytjcbhgkfbilifab
