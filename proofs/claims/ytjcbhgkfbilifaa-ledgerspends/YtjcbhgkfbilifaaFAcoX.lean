/- The calls on accounts once more, with all cells written out. Condition: the account can be read. -/
import Derived.Test.YtjcbhgkfbilifaaFAcoCall
import Derived.Test.YtjcbhgkfbilifaaFAcoHelp
import Derived.Laws.Tables
namespace Go.Proofs.Ytjcbhgkfbilifaa
open Go.ChangeShapes Go.WideShapes Go.ChangeAt Go.RowKit Ao
set_option linter.unusedVariables false

theorem grant_x {w : World} {a : Option Addr} {n c : Nat} {A B : Ac} {E : Int} {nd ls nodes : Int} (h : Hs w a n A.hs) (hw : AcW A) (eB : grantA A nd ls nodes = B) (eE : grantE A nd ls nodes = E) : Calls Try.prog 39 #[.agg #[.string A.key, .int .i64 A.lo, .int .i64 A.hi, .int .i64 A.base, .int .i64 A.rd, .slice a n c, .int .i64 A.lk.c, .int .i64 A.lk.s, .int .i64 A.lk.h, .int .i64 A.lk.n], .int .i64 nd, .int .i64 ls, .int .i64 nodes] w fun e w' => ∃ a' n' c', e = .returned (.tuple #[.agg #[.string B.key, .int .i64 B.lo, .int .i64 B.hi, .int .i64 B.base, .int .i64 B.rd, .slice a' n' c', .int .i64 B.lk.c, .int .i64 B.lk.s, .int .i64 B.lk.h, .int .i64 B.lk.n], .int .i64 E]) ∧ Hs w' a' n' B.hs ∧ Below w.heap.size w w' ∧ Fr w.heap.size a' ∧ Cp a' n' c' := by
  subst eB
  subst eE
  exact grant_call h hw
theorem freeze_x {w : World} {a : Option Addr} {n c : Nat} {A B : Ac} {E : Int} {v : Int} (h : Hs w a n A.hs) (hw : AcW A) (eB : freezeA A v = B) (eE : freezeE A v = E) : Calls Try.prog 40 #[.agg #[.string A.key, .int .i64 A.lo, .int .i64 A.hi, .int .i64 A.base, .int .i64 A.rd, .slice a n c, .int .i64 A.lk.c, .int .i64 A.lk.s, .int .i64 A.lk.h, .int .i64 A.lk.n], .int .i64 v] w fun e w' => ∃ a' n' c', e = .returned (.tuple #[.agg #[.string B.key, .int .i64 B.lo, .int .i64 B.hi, .int .i64 B.base, .int .i64 B.rd, .slice a' n' c', .int .i64 B.lk.c, .int .i64 B.lk.s, .int .i64 B.lk.h, .int .i64 B.lk.n], .int .i64 E]) ∧ Hs w' a' n' B.hs ∧ Below w.heap.size w w' ∧ Fr w.heap.size a' ∧ Cp a' n' c' := by
  subst eB
  subst eE
  exact freeze_call h hw
theorem thaw_x {w : World} {a : Option Addr} {n c : Nat} {A B : Ac} {E : Int}  (h : Hs w a n A.hs) (hw : AcW A) (eB : thawA A = B) (eE : thawE A = E) : Calls Try.prog 41 #[.agg #[.string A.key, .int .i64 A.lo, .int .i64 A.hi, .int .i64 A.base, .int .i64 A.rd, .slice a n c, .int .i64 A.lk.c, .int .i64 A.lk.s, .int .i64 A.lk.h, .int .i64 A.lk.n]] w fun e w' => ∃ a' n' c', e = .returned (.tuple #[.agg #[.string B.key, .int .i64 B.lo, .int .i64 B.hi, .int .i64 B.base, .int .i64 B.rd, .slice a' n' c', .int .i64 B.lk.c, .int .i64 B.lk.s, .int .i64 B.lk.h, .int .i64 B.lk.n], .int .i64 E]) ∧ Hs w' a' n' B.hs ∧ Below w.heap.size w w' ∧ Fr w.heap.size a' ∧ Cp a' n' c' := by
  subst eB
  subst eE
  exact thaw_call h hw
theorem report_x {w : World} {a : Option Addr} {n c : Nat} {A B : Ac} {E : Int} {nd ls r net : Int} (h : Hs w a n A.hs) (hw : AcW A) (hc : Cp a n c) (eB : reportA A nd ls r net = B) (eE : reportE A nd ls r net = E) : Calls Try.prog 42 #[.agg #[.string A.key, .int .i64 A.lo, .int .i64 A.hi, .int .i64 A.base, .int .i64 A.rd, .slice a n c, .int .i64 A.lk.c, .int .i64 A.lk.s, .int .i64 A.lk.h, .int .i64 A.lk.n], .int .i64 nd, .int .i64 ls, .int .i64 r, .int .i64 net] w fun e w' => ∃ a' n' c', e = .returned (.tuple #[.agg #[.string B.key, .int .i64 B.lo, .int .i64 B.hi, .int .i64 B.base, .int .i64 B.rd, .slice a' n' c', .int .i64 B.lk.c, .int .i64 B.lk.s, .int .i64 B.lk.h, .int .i64 B.lk.n], .int .i64 E]) ∧ Hs w' a' n' B.hs ∧ Below w.heap.size w w' ∧ Fr w.heap.size a' ∧ Cp a' n' c' := by
  subst eB
  subst eE
  exact report_call h hw hc
theorem bounds_x {w : World} {a : Option Addr} {n c : Nat} {A B : Ac} {E : Int} {lo hi : Int} (h : Hs w a n A.hs) (hw : AcW A) (eB : boundsA A lo hi = B) (eE : boundsE A lo hi = E) : Calls Try.prog 43 #[.agg #[.string A.key, .int .i64 A.lo, .int .i64 A.hi, .int .i64 A.base, .int .i64 A.rd, .slice a n c, .int .i64 A.lk.c, .int .i64 A.lk.s, .int .i64 A.lk.h, .int .i64 A.lk.n], .agg #[.int .i64 lo, .int .i64 hi]] w fun e w' => ∃ a' n' c', e = .returned (.tuple #[.agg #[.string B.key, .int .i64 B.lo, .int .i64 B.hi, .int .i64 B.base, .int .i64 B.rd, .slice a' n' c', .int .i64 B.lk.c, .int .i64 B.lk.s, .int .i64 B.lk.h, .int .i64 B.lk.n], .int .i64 E]) ∧ Hs w' a' n' B.hs ∧ Below w.heap.size w w' ∧ Fr w.heap.size a' ∧ Cp a' n' c' := by
  subst eB
  subst eE
  exact bounds_call h hw
theorem take_x {w : World} {a : Option Addr} {n c : Nat} {A B : Ac} {E : Int} {l : Lk} (h : Hs w a n A.hs) (hw : AcW A) (hl : LkW l) (eB : takeA A l = B) (eE : takeE A l = E) : Calls Try.prog 44 #[.agg #[.string A.key, .int .i64 A.lo, .int .i64 A.hi, .int .i64 A.base, .int .i64 A.rd, .slice a n c, .int .i64 A.lk.c, .int .i64 A.lk.s, .int .i64 A.lk.h, .int .i64 A.lk.n], .agg #[.int .i64 l.c, .int .i64 l.s, .int .i64 l.h, .int .i64 l.n]] w fun e w' => ∃ a' n' c', e = .returned (.tuple #[.agg #[.string B.key, .int .i64 B.lo, .int .i64 B.hi, .int .i64 B.base, .int .i64 B.rd, .slice a' n' c', .int .i64 B.lk.c, .int .i64 B.lk.s, .int .i64 B.lk.h, .int .i64 B.lk.n], .int .i64 E]) ∧ Hs w' a' n' B.hs ∧ Below w.heap.size w w' ∧ Fr w.heap.size a' ∧ Cp a' n' c' := by
  subst eB
  subst eE
  exact take_call h hw hl
theorem free_x {w : World} {a : Option Addr} {n c : Nat} {A B : Ac} {E : Int} {b : Bool} (h : Hs w a n A.hs) (hw : AcW A) (eB : freeA A b = B) (eE : freeE A = E) : Calls Try.prog 45 #[.agg #[.string A.key, .int .i64 A.lo, .int .i64 A.hi, .int .i64 A.base, .int .i64 A.rd, .slice a n c, .int .i64 A.lk.c, .int .i64 A.lk.s, .int .i64 A.lk.h, .int .i64 A.lk.n], .bool b] w fun e w' => ∃ a' n' c', e = .returned (.tuple #[.agg #[.string B.key, .int .i64 B.lo, .int .i64 B.hi, .int .i64 B.base, .int .i64 B.rd, .slice a' n' c', .int .i64 B.lk.c, .int .i64 B.lk.s, .int .i64 B.lk.h, .int .i64 B.lk.n], .int .i64 E]) ∧ Hs w' a' n' B.hs ∧ Below w.heap.size w w' ∧ Fr w.heap.size a' ∧ Cp a' n' c' := by
  subst eB
  subst eE
  exact free_call h hw
theorem add_x {w : World} {a : Option Addr} {n c : Nat} {A B : Ac} {E : Int} {v : Int} (h : Hs w a n A.hs) (hw : AcW A) (hv : I64 v) (eB : addA A v = B) (eE : addE A v = E) : Calls Try.prog 46 #[.agg #[.string A.key, .int .i64 A.lo, .int .i64 A.hi, .int .i64 A.base, .int .i64 A.rd, .slice a n c, .int .i64 A.lk.c, .int .i64 A.lk.s, .int .i64 A.lk.h, .int .i64 A.lk.n], .int .i64 v] w fun e w' => ∃ a' n' c', e = .returned (.tuple #[.agg #[.string B.key, .int .i64 B.lo, .int .i64 B.hi, .int .i64 B.base, .int .i64 B.rd, .slice a' n' c', .int .i64 B.lk.c, .int .i64 B.lk.s, .int .i64 B.lk.h, .int .i64 B.lk.n], .int .i64 E]) ∧ Hs w' a' n' B.hs ∧ Below w.heap.size w w' ∧ Fr w.heap.size a' ∧ Cp a' n' c' := by
  subst eB
  subst eE
  exact add_call h hw hv
theorem call_x {w : World} {a : Option Addr} {n c : Nat} {A B : Ac} {E : Int} {o : Opd} {nodes : Int} (h : Hs w a n A.hs) (hw : AcW A) (hc : Cp a n c) (ho : OpW o) (eB : stepA A o nodes = B) (eE : stepE A o nodes = E) : Calls Try.prog 10 #[.agg #[.string A.key, .int .i64 A.lo, .int .i64 A.hi, .int .i64 A.base, .int .i64 A.rd, .slice a n c, .int .i64 A.lk.c, .int .i64 A.lk.s, .int .i64 A.lk.h, .int .i64 A.lk.n], .agg #[.int .i64 o.k, .int .i64 o.nd, .int .i64 o.ls, .int .i64 o.rd, .int .i64 o.n, .int .i64 o.lo, .int .i64 o.hi, .int .i64 o.lk.c, .int .i64 o.lk.s, .int .i64 o.lk.h, .int .i64 o.lk.n, .bool o.cm], .int .i64 nodes] w fun e w' => ∃ a' n' c', e = .returned (.tuple #[.agg #[.string B.key, .int .i64 B.lo, .int .i64 B.hi, .int .i64 B.base, .int .i64 B.rd, .slice a' n' c', .int .i64 B.lk.c, .int .i64 B.lk.s, .int .i64 B.lk.h, .int .i64 B.lk.n], .int .i64 E]) ∧ Hs w' a' n' B.hs ∧ Below w.heap.size w w' ∧ Fr w.heap.size a' ∧ Cp a' n' c' := by
  subst eB
  subst eE
  exact call_any h hw hc ho
theorem check_x {w : World} {a : Option Addr} {n c : Nat} {A : Ac} {E : Int} (h : Hs w a n A.hs) (hw : AcW A) (eE : checkE A = E) : Calls Try.prog 57 #[.agg #[.string A.key, .int .i64 A.lo, .int .i64 A.hi, .int .i64 A.base, .int .i64 A.rd, .slice a n c, .int .i64 A.lk.c, .int .i64 A.lk.s, .int .i64 A.lk.h, .int .i64 A.lk.n]] w fun e w' => e = .returned (.int .i64 E) ∧ Below w.heap.size w w' := by
  subst eE
  exact check_any h hw
theorem room_x {w : World} {a : Option Addr} {n c : Nat} {A : Ac} {d u : Int} (h : Hs w a n A.hs) (hw : AcW A) (ed : downR A = d) (eu : upR A = u) : Calls Try.prog 96 #[.agg #[.string A.key, .int .i64 A.lo, .int .i64 A.hi, .int .i64 A.base, .int .i64 A.rd, .slice a n c, .int .i64 A.lk.c, .int .i64 A.lk.s, .int .i64 A.lk.h, .int .i64 A.lk.n]] w fun e w' => e = .returned (.tuple #[.int .u64 d, .int .u64 u]) ∧ Below w.heap.size w w' := by
  subst ed; subst eu
  exact room_any h hw
theorem find_x {w : World} {a : Option Addr} {n c : Nat} {A : Ac} {node : Int} {x : Hd} {b : Bool} (h : Hs w a n A.hs) (hw : AcW A) (ex : (findF A node).getD hd0 = x) (eb : (findF A node).isSome = b) : Calls Try.prog 95 #[.agg #[.string A.key, .int .i64 A.lo, .int .i64 A.hi, .int .i64 A.base, .int .i64 A.rd, .slice a n c, .int .i64 A.lk.c, .int .i64 A.lk.s, .int .i64 A.lk.h, .int .i64 A.lk.n], .int .i64 node] w fun e w' => e = .returned (.tuple #[.agg #[.int .i64 x.nd, .int .i64 x.ls, .int .i64 x.up, .int .i64 x.dn], .bool b]) ∧ Below w.heap.size w w' := by
  subst ex; subst eb
  exact find_any h hw
theorem plain_x {w : World} {a : Option Addr} {n c : Nat} {A : Ac} {b : Bool} (h : Hs w a n A.hs) (hw : AcW A) (eb : plainB A = b) : Calls Try.prog 56 #[.agg #[.string A.key, .int .i64 A.lo, .int .i64 A.hi, .int .i64 A.base, .int .i64 A.rd, .slice a n c, .int .i64 A.lk.c, .int .i64 A.lk.s, .int .i64 A.lk.h, .int .i64 A.lk.n]] w fun e w' => e = .returned (.bool b) ∧ Below w.heap.size w w' := by
  subst eb
  exact plain_a h hw
theorem same_x {w : World} {a b : Option Addr} {n c n' c' : Nat} {A B : Ac} (h : Hs w a n A.hs) (h' : Hs w b n' B.hs) (e : A = B) : Calls Try.prog 13 #[.agg #[.string A.key, .int .i64 A.lo, .int .i64 A.hi, .int .i64 A.base, .int .i64 A.rd, .slice a n c, .int .i64 A.lk.c, .int .i64 A.lk.s, .int .i64 A.lk.h, .int .i64 A.lk.n], .agg #[.string B.key, .int .i64 B.lo, .int .i64 B.hi, .int .i64 B.base, .int .i64 B.rd, .slice b n' c', .int .i64 B.lk.c, .int .i64 B.lk.s, .int .i64 B.lk.h, .int .i64 B.lk.n]] w fun e w' => e = .returned (.bool true) ∧ Below w.heap.size w w' := by
  subst e
  exact same_true h h'
theorem same_y {w W : World} {a b : Option Addr} {n c n' c' : Nat} {A B : Ac} (hB : Below w.heap.size w W) (h : Hs W a n A.hs) (h' : Hs W b n' B.hs) (e : A = B) : Calls Try.prog 13 #[.agg #[.string A.key, .int .i64 A.lo, .int .i64 A.hi, .int .i64 A.base, .int .i64 A.rd, .slice a n c, .int .i64 A.lk.c, .int .i64 A.lk.s, .int .i64 A.lk.h, .int .i64 A.lk.n], .agg #[.string B.key, .int .i64 B.lo, .int .i64 B.hi, .int .i64 B.base, .int .i64 B.rd, .slice b n' c', .int .i64 B.lk.c, .int .i64 B.lk.s, .int .i64 B.lk.h, .int .i64 B.lk.n]] W fun e w' => e = .returned (.bool true) ∧ Below w.heap.size w w' :=
  (same_x h h' e).mono fun e w' q => ⟨q.1, hB.trans (q.2.mono hB.size)⟩
/-- a list that does not lie in the block g -/
def Aw (g : Nat) (a : Option Addr) (n : Nat) : Prop := 0 < n → ∀ ad, a = some ad → ¬ ad.block = g
theorem aw_old {w : World} {a : Option Addr} {n g : Nat} {l : List Hd} (h : Hs w a n l) (hg : w.heap.size ≤ g) : Aw g a n := fun h0 ad e => by
  obtain ⟨b, off, e2, hb, _⟩ := h.cells h0
  rw [e] at e2
  obtain rfl := Option.some.inj e2
  show ¬ b = g
  omega
theorem aw_new {B g n : Nat} {a : Option Addr} (h : Fr B a) (hg : g < B) : Aw g a n := fun _ ad e => by have := h ad e; omega
theorem hs_put {w : World} {a : Option Addr} {n g o : Nat} {u : Value} {l : List Hd} (h : Hs w a n l) (ha : Aw g a n) : Hs (w.setCell ⟨g, o, none⟩ u) a n l :=
  ⟨h.len, fun h0 => by
    obtain ⟨b, off, e, hl, hc⟩ := h.cells h0
    exact ⟨b, off, e, by simpa [World.setCell] using hl, fun j x hj => range_same (hc j x hj) (put_far (ha h0 _ e))⟩, h.room⟩
/-- a holder lies in the block b -/
structure Hk (w : World) (b : Nat) (x : Hd) : Prop where
  row : w.heap[b]? = some (.cells #[.int .i64 x.nd, .int .i64 x.ls, .int .i64 x.up, .int .i64 x.dn] 33 (0, 0))
theorem Hk.lt {w : World} {b : Nat} {x : Hd} (h : Hk w b x) : b < w.heap.size := (Array.getElem?_eq_some_iff.1 h.row).1
theorem Hk.below {w w' : World} {b : Nat} {x : Hd} (h : Hk w b x) (hb : Below w.heap.size w w') : Hk w' b x := ⟨(hb.block _ h.lt).trans h.row⟩
theorem Hk.at_ {w : World} {b : Nat} {x : Hd} (h : Hk w b x) : w.cell? ⟨b, 0, none⟩ = some (.int .i64 x.nd) ∧ w.cell? ⟨b, 1, none⟩ = some (.int .i64 x.ls) ∧ w.cell? ⟨b, 2, none⟩ = some (.int .i64 x.up) ∧ w.cell? ⟨b, 3, none⟩ = some (.int .i64 x.dn) := by
  refine ⟨?_, ?_, ?_, ?_⟩ <;> (rw [cell_of_row _ _ _ _ _ _ h.row]; rfl)
theorem hk_new (w : World) (x : Hd) : ∃ w1, w1 = w.alloc (.cells #[.int .i64 x.nd, .int .i64 x.ls, .int .i64 x.up, .int .i64 x.dn] 33) ∧ Below w.heap.size w w1 ∧ Hk w1 w.heap.size x := ⟨_, rfl, Below.alloc (Below.refl _ _) (Nat.le_refl _) _, ⟨heap_alloc_new w _⟩⟩
theorem same_none {w : World} {a : Option Addr} {n c : Nat} {A : Ac} (h : Hs w a n A.hs) (e : A = ac0) : Calls Try.prog 13 #[.agg #[.string A.key, .int .i64 A.lo, .int .i64 A.hi, .int .i64 A.base, .int .i64 A.rd, .slice a n c, .int .i64 A.lk.c, .int .i64 A.lk.s, .int .i64 A.lk.h, .int .i64 A.lk.n], .agg #[.string ⟨#[]⟩, .int .i64 0, .int .i64 0, .int .i64 0, .int .i64 0, .slice none 0 0, .int .i64 0, .int .i64 0, .int .i64 0, .int .i64 0]] w fun e w' => e = .returned (.bool true) ∧ Below w.heap.size w w' := by
  subst e
  exact same_true (b := none) (n' := 0) (c' := 0) h (Rl.nil _)
end Go.Proofs.Ytjcbhgkfbilifaa
