/- How numbers and a bool that came in as arguments read: what is needed to begin a walk. No condition. Small things that all walks use: hiding an equation, endings, what lies below a number of blocks. No condition. A region whose order Go leaves open, that reads cells which stay and calls what only makes new memory, is walked once: a class of worlds for the library's quiet walk. No condition. A list of numbers of one kind that came in, or that the call made: what is known of it, and that it stays where nothing old is written. No condition. Numbers as bytes, as plain functions on lists, and what follows of them. No Go in sight. A reader of bytes as plain functions on its place and its fault. No Go in sight. Appending a list to a row of the call's own: where the new row lies; the same as a step of a region that draws its order. No condition. A reader in memory, as one predicate, and what keeps it. No condition. What the landed cut, New, Left, Fault, End and next do. No condition but the size of what an argument may be. What is written is read; what is read, written again, is the same bytes: of numbers and ints as plain functions. No Go in sight. Things as fields one behind the other: how they are written, and how they are read, as plain functions. No Go in sight. What a step of a walk over a thing's fields leaves as it was; how a thing's plain fields lie in memory. No condition. A string as bytes, bytes as a string, at an operation. No condition. Things by value: their cells, what is written of them, what is read. No condition. How things that came in by value read: their plain fields. No condition. Whole rows loaded under a guard; a row laid over a block that was just made. No condition. What the law folder's helper Plain does with two lists of numbers of one kind that are alike, at the landed code. No condition but the size. What is read of bytes that were written: of numbers, ints, texts, flags as plain functions; the law folder's Bytes. No condition. Two things by value that have the same plain fields. No condition. -/
import Derived.Test.YthklpkmdmkgjiaaGreatRows
import Derived.WalkKit
import Derived.ProofKit
import Derived.OpenShut
import Derived.ShutString
import Derived.ChangeOld
import Derived.Below
import Derived.Test.YthklpkmdmkgjiaaGreatChecked
import Derived.WalkLawsBesides
import Derived.BigQuiet
import Derived.Deep.RegionHeld
import Derived.Laws.OwnMore
import Derived.SizedLaws
import Derived.Laws.AppendOwnNone
import Derived.Maps.AppendAt
import Derived.Deep.RegionLaw
import Derived.Laws.World
import Derived.Laws.IdiomStrings
import Derived.Laws.BytesArg
import Derived.Laws.Rows
import Derived.Laws.Tables
namespace Go.Proofs.YthklpkmdmkgjiaaGreat
open Go.ChangeShapes Go.WideShapes Go.ChangeAt Go.RowKit

theorem own : ownKnob Tryz.prog.godebug = none := by kernel_rfl
theorem laidOut : laidOutB Tryz.prog = true := by kernel_rfl

set_option maxRecDepth 100000 in
theorem open_i64 {H : Type} {enc : TypeId × Value → H} {W : World} {r : Reach} {base b0 : Nat} {sp : Nat → Bool} {held : Bool} {v : Value} {d : DataW H} {p : List MemPlace}
    (hv : Value.okWide Tryz.prog W r base 3 v) (h : DataW.Trod enc Tryz.prog W b0 sp held 3 v d p) :
    ∃ a : Int, v = .int .i64 a ∧ -9223372036854775808 ≤ a ∧ a ≤ 9223372036854775807 := by
  obtain ⟨a, rfl, rfl, rfl, w⟩ := open_int Tryz.underlying3 hv h
  exact ⟨a, rfl, bounds_i64 w⟩
set_option maxRecDepth 100000 in
theorem open_u64 {H : Type} {enc : TypeId × Value → H} {W : World} {r : Reach} {base b0 : Nat} {sp : Nat → Bool} {held : Bool} {v : Value} {d : DataW H} {p : List MemPlace}
    (hv : Value.okWide Tryz.prog W r base 170 v) (h : DataW.Trod enc Tryz.prog W b0 sp held 170 v d p) :
    ∃ a : Int, v = .int .u64 a ∧ 0 ≤ a ∧ a ≤ 18446744073709551615 := by
  obtain ⟨a, rfl, rfl, rfl, w⟩ := open_int Tryz.underlying170 hv h
  exact ⟨a, rfl, bounds_u64 w⟩
set_option maxRecDepth 100000 in
theorem open_flag {H : Type} {enc : TypeId × Value → H} {W : World} {r : Reach} {base b0 : Nat} {sp : Nat → Bool} {held : Bool} {v : Value} {d : DataW H} {p : List MemPlace}
    (hv : Value.okWide Tryz.prog W r base 4 v) (h : DataW.Trod enc Tryz.prog W b0 sp held 4 v d p) :
    ∃ a : Bool, v = .bool a ∧ True := by
  obtain ⟨a, rfl, rfl, rfl⟩ := open_bool Tryz.underlying4 hv h
  exact ⟨a, rfl, trivial⟩
end Go.Proofs.YthklpkmdmkgjiaaGreat

namespace Go.Proofs.YthklpkmdmkgjiaaGreat
open Go.ChangeShapes Go.WideShapes Go.ChangeAt Go.RowKit

theorem hide {p : Prop} (h : p) : Hid p := h
theorem bcell {W w1 : World} (hb : Below W.heap.size W w1) : (∀ b o, b < W.heap.size → w1.cell? ⟨b, o, none⟩ = W.cell? ⟨b, o, none⟩) ∧ (∀ b o, b < W.heap.size → w1.frozen? ⟨b, o, none⟩ = W.frozen? ⟨b, o, none⟩) :=
  ⟨fun b o h => hb.cell (p := ⟨b, o, none⟩) h, fun b o h => hb.frozen (p := ⟨b, o, none⟩) h⟩
theorem ret1 {k : IntKind} {a b : Int} (h : a = b) : Ending.returned (.int k a) = .returned (.int k b) := by rw [h]
theorem ret2 {k k' : IntKind} {a b c d : Int} (h : a = b) (h' : c = d) : Ending.returned (.tuple #[.int k a, .int k' c]) = .returned (.tuple #[.int k b, .int k' d]) := by rw [h, h']
theorem wrapU (n : Int) : IntKind.u64.wrap n = n % 18446744073709551616 := by simp [IntKind.wrap, IntKind.bits, IntKind.signed]
theorem wrap8 (n : Int) : IntKind.u8.wrap n = n % 256 := by simp [IntKind.wrap, IntKind.bits, IntKind.signed]
theorem wrapU32 (n : Int) : IntKind.u32.wrap n = n % 4294967296 := by simp [IntKind.wrap, IntKind.bits, IntKind.signed]
end Go.Proofs.YthklpkmdmkgjiaaGreat

namespace Go.Proofs.YthklpkmdmkgjiaaGreat
open Go.ChangeShapes Go.WideShapes Go.ChangeAt Go.RowKit

/-- worlds in which these cells hold these values, and nothing that lay in w0 has turned -/
structure Held (w0 : World) (l : List (Addr × Value)) where
  x : World
  below : Below w0.heap.size w0 x
  cells : ∀ p ∈ l, x.cell? p.1 = some p.2

def AllCells (x : World) : List (Addr × Value) → Prop
  | [] => True
  | p :: r => x.cell? p.1 = some p.2 ∧ AllCells x r

theorem allCells_of {x : World} : ∀ {l : List (Addr × Value)}, (∀ p ∈ l, x.cell? p.1 = some p.2) → AllCells x l
  | [], _ => trivial
  | p :: _, h => ⟨h p (by simp), allCells_of fun q hq => h q (by simp [hq])⟩

theorem of_allCells {x : World} : ∀ {l : List (Addr × Value)}, AllCells x l → ∀ p ∈ l, x.cell? p.1 = some p.2
  | [], _ => fun _ h => absurd h (by simp)
  | _ :: _, h => fun q hq => by
    rcases List.mem_cons.1 hq with rfl | hq
    · exact h.1
    · exact of_allCells h.2 q hq

theorem allCells_below {W w1 : World} (hb : Below W.heap.size W w1) : ∀ {l : List (Addr × Value)}, AllCells W l → AllCells w1 l
  | [], _ => trivial
  | p :: _, h => ⟨(hb.cell (World.block_lt_of_cell? W p.1 h.1)).trans h.1, allCells_below hb h.2⟩
theorem allCells_alloc {W : World} (o : Obj) {l : List (Addr × Value)} (h : AllCells W l) : AllCells (W.alloc o) l :=
  allCells_below (Below.alloc (Below.refl _ _) (Nat.le_refl _) o) h
theorem allCells_new2 (W : World) (a b : Value) (t : TypeId) : AllCells (W.alloc (.cells #[a, b] t)) [(⟨W.heap.size, 0, none⟩, a), (⟨W.heap.size, 1, none⟩, b)] :=
  ⟨by simp, by simp, trivial⟩
theorem allCells_append {W : World} : ∀ {l r : List (Addr × Value)}, AllCells W l → AllCells W r → AllCells W (l ++ r)
  | [], _, _, hr => hr
  | _ :: _, _, hl, hr => ⟨hl.1, allCells_append hl.2 hr⟩
theorem below_step {w W w1 : World} (h : Below w.heap.size w W) (hb : Below W.heap.size W w1) : Below w.heap.size w w1 := h.trans (hb.mono h.size)
theorem below_alloc {w W : World} (h : Below w.heap.size w W) (o : Obj) : Below w.heap.size w (W.alloc o) := h.alloc h.size o

def Held.later {w0 : World} {l : List (Addr × Value)} (y : Held w0 l) (w' : World) (hb : Below y.x.heap.size y.x w') : Held w0 l :=
  ⟨w', y.below.trans (hb.mono y.below.size), fun p hp => (hb.cell (World.block_lt_of_cell? y.x p.1 (y.cells p hp))).trans (y.cells p hp)⟩

theorem Held.call {P : Program} {f : FuncId} {args : Array Value} {v : Value} {w0 : World} {l : List (Addr × Value)} (y : Held w0 l)
    (h : Calls P f args y.x fun e w' => e = .returned v ∧ Below y.x.heap.size y.x w') : Calls P f args y.x fun e w'' => e = .returned v ∧ ∃ m : Held w0 l, w'' = m.x :=
  h.mono fun _ w' ⟨he, hb⟩ => ⟨he, y.later w' hb, rfl⟩

theorem Held.call_alloc {P : Program} {f : FuncId} {args : Array Value} {v : Value} {o : Obj} {w0 : World} {l : List (Addr × Value)} (y : Held w0 l)
    (h : Calls P f args y.x fun e w' => e = .returned v ∧ w' = y.x.alloc o) : Calls P f args y.x fun e w'' => e = .returned v ∧ ∃ m : Held w0 l, w'' = m.x :=
  h.mono fun _ w' ⟨he, hw⟩ => ⟨he, y.later w' (by rw [hw]; exact Below.alloc (Below.refl _ _) (Nat.le_refl _) _), rfl⟩

theorem wp_region_cells {P : Program} {id : Nat} {Q : Exit → Act → World → Prop} {a : Act} {w : World} {ops : List Oper} (w0 : World) (l : List (Addr × Value))
    (hm : P.follows .mixedOrders = true) (hB : Region.lexB .any ops.toArray = true) (hb : Below w0.heap.size w0 w) (hc : AllCells w l)
    (h : Nonempty (Held w0 l) → (∀ y : Held w0 l, AllCells y.x l) → wpQuiet P ops.toArray (fun x => ∃ y : Held w0 l, x = y.x) (fun a' => ∀ w', (∃ y : Held w0 l, w' = y.x) → Q .normal a' w') ops a) :
    (Code.region id ops.toArray true).wp P Q a w :=
  wp_region_quiet (C := fun x => ∃ y : Held w0 l, x = y.x) hm hB ⟨⟨w.drew, hb.drew, fun p hp => of_allCells hc p hp⟩, rfl⟩ (by simpa using h ⟨⟨w, hb, fun p hp => of_allCells hc p hp⟩⟩ fun y => allCells_of y.cells)
end Go.Proofs.YthklpkmdmkgjiaaGreat

namespace Go.Proofs.YthklpkmdmkgjiaaGreat
namespace B8
open Go.ChangeShapes Go.WideShapes Go.ChangeAt Go.RowKit
set_option linter.unusedVariables false

theorem info : (Tryz.prog.info? 5).map (fun i => (i.zero, i.size, i.bytes)) = some (some (.int .u8 0), 1, 1) := by kernel_rfl

/-- the numbers are of the kind -/
def wfs (zs : List Int) : Prop := ∀ j : Nat, (Lit.int .u8 (zs[j]?.getD 0)).wf = true
/-- numbers as cells -/
def vals (zs : List Int) : List Value := zs.map (Value.int .u8)

/-- the slice at a, of so many elements, has the numbers zs in the world w -/
structure Sq (w : World) (a : Option Addr) (len cap : Nat) (zs : List Int) : Prop where
  length : zs.length = len
  lecap : len ≤ cap
  nil : a = none → cap = 0
  cells : 0 < len → ∃ b off, a = some ⟨b, off, none⟩ ∧ ∀ j, j < len → w.cell? ⟨b, off + j, none⟩ = some (.int .u8 (zs[j]?.getD 0))
  wf : wfs zs

theorem Sq.below {w w' : World} {a : Option Addr} {len cap : Nat} {zs : List Int} (h : Sq w a len cap zs) (hb : Below w.heap.size w w') : Sq w' a len cap zs :=
  ⟨h.length, h.lecap, h.nil, fun h0 => by
    obtain ⟨b, off, e, hc⟩ := h.cells h0
    exact ⟨b, off, e, fun j hj => (hb.cell (World.block_lt_of_cell? w _ (hc j hj))).trans (hc j hj)⟩, h.wf⟩
theorem Sq.drew {w : World} {a : Option Addr} {len cap : Nat} {zs : List Int} (h : Sq w a len cap zs) (n : Nat) : Sq (w.drewN n) a len cap zs :=
  ⟨h.length, h.lecap, h.nil, h.cells, h.wf⟩

set_option maxRecDepth 100000 in
theorem open_sq_sized {H : Type} {enc : TypeId × Value → H} {W : World} {r : Reach} {base b0 : Nat} {held : Bool} {v : Value} {d : DataW H} {p : List MemPlace}
    (hv : Value.okWide Tryz.prog W r base 29 v) (h : DataW.Trod enc Tryz.prog W b0 (fun _ => true) held 29 v d p)
    (hw : ∀ elems spare, d = .slice elems spare → (elems.length + spare.length) * Tryz.prog.bytesOf 5 ≤ reachBytes) :
    ∃ (a : Option Addr) (len cap : Nat) (zs : List Int), v = .slice a len cap ∧ Sq W a len cap zs ∧ cap * 1 ≤ 140737488351232 := by
  obtain ⟨a, len, cap, rfl⟩ := okWide_slice Tryz.underlying29 hv
  obtain ⟨fuel, hf⟩ := h
  rcases open_ints Tryz.underlying29 Tryz.underlying5 (by kernel_rfl) hf with ⟨hcs, _⟩ | ⟨x, l, c, zs, hcs, _, hl, hm, hz, hx, hcell, hwz⟩
  · simp [Value.cells] at hcs
    obtain ⟨rfl, rfl, rfl⟩ := hcs
    exact ⟨_, _, _, [], rfl, ⟨rfl, Nat.le_refl _, fun _ => rfl, fun h => absurd h (by omega), fun j => by simp; decide⟩, by omega⟩
  · simp [Value.cells] at hcs
    obtain ⟨rfl, rfl, rfl⟩ := hcs
    simp only [if_true] at hz
    simp only [Prod.mk.injEq] at hx
    have hw' := hw _ _ hx.1
    rw [show Tryz.prog.bytesOf 5 = 1 from by kernel_rfl] at hw'
    simp only [lits, List.length_map, List.length_take, List.length_drop, reachBytes] at hw'
    refine ⟨_, _, _, zs.take len, rfl, ⟨by simp; omega, hl, fun h => absurd h (by simp), fun h0 => ?_, ?_⟩, by omega⟩
    · obtain ⟨b, off, spot⟩ := x
      have hc0 := hcell 0 (by omega)
      have hspot : spot = none := by simpa [Addr.add] using World.cell?_spot hc0
      subst hspot
      refine ⟨b, off, rfl, fun j hj => ?_⟩
      have := hcell j (by omega)
      rw [Addr.add_lit] at this
      simpa [List.getElem?_take, hj, List.getD] using this
    · intro j
      by_cases hj : j < (zs.take len).length
      · have hm : (zs.take len)[j] ∈ zs := List.mem_of_mem_take (List.getElem_mem hj)
        rw [List.getElem?_eq_getElem hj]; exact hwz _ hm
      · rw [List.getElem?_eq_none (Nat.le_of_not_lt hj)]
        decide

/-- a row that the call itself made, as a list -/
theorem sq_row {w : World} {B len : Nat} {zs : List Int} {v : Value} (hl : zs.length = len) (h0 : 0 < len) (hi : wfs zs)
    (h : w.ownsRow B 5 1 v len (vals zs)) : ∃ g cp, v = .slice (some ⟨g, 0, none⟩) len cp ∧ B ≤ g ∧ Sq w (some ⟨g, 0, none⟩) len cp zs := by
  have h' := h
  obtain ⟨_, ⟨_, h2⟩ | ⟨g, cp, cur, rfl, h3, h4, h5, h6, h7, h8⟩⟩ := h
  · omega
  · refine ⟨g, cp, rfl, h3, hl, h5, fun h => absurd h (by simp), fun _ => ⟨g, 0, rfl, fun j hj => ?_⟩, hi⟩
    rw [Nat.zero_add, h'.cellAt j (by omega)]
    have hj' : j < zs.length := by omega
    simp [vals, hj']

/-- the same, whatever its length -/
theorem sq_of_row {w : World} {B len : Nat} {zs : List Int} {v : Value} (hl : zs.length = len) (hi : wfs zs)
    (h : w.ownsRow B 5 1 v len (vals zs)) : ∃ a cp, v = .slice a len cp ∧ Sq w a len cp zs := by
  have h' := h
  obtain ⟨_, ⟨h1, h2⟩ | ⟨g, cp, cur, rfl, h3, h4, h5, h6, h7, h8⟩⟩ := h
  · subst h2
    exact ⟨none, 0, h1, hl, Nat.le_refl _, fun _ => rfl, fun h => absurd h (by omega), hi⟩
  · refine ⟨_, cp, rfl, hl, h5, fun h => absurd h (by simp), fun _ => ⟨g, 0, rfl, fun j hj => ?_⟩, hi⟩
    rw [Nat.zero_add, h'.cellAt j (by omega)]
    have hj' : j < zs.length := by omega
    simp [vals, hj']
/-- a new block of cells, as a row of its own -/
theorem row_new (w : World) (B : Nat) (hB : B ≤ w.heap.size) (cs : Array Value) (hc : cs.size ≤ maxLen) :
    (w.alloc (.cells cs 5)).ownsRow B 5 1 (.slice (some ⟨w.heap.size, 0, none⟩) cs.size cs.size) cs.size cs.toList := by
  refine ⟨by simp, .inr ⟨w.heap.size, cs.size, cs, rfl, hB, heap_alloc_new w _, Nat.le_refl _, hc, by simp, by rw [Nat.mul_one, ← Array.length_toList]; exact List.take_length⟩⟩

theorem wfs_take {zs : List Int} (h : wfs zs) (k : Nat) : wfs (zs.take k) := by
  intro j
  by_cases hj : j < k
  · have := h j
    rw [List.getElem?_take, if_pos hj]
    exact this
  · rw [List.getElem?_take, if_neg hj]
    decide
theorem wfs_drop {zs : List Int} (h : wfs zs) (k : Nat) : wfs (zs.drop k) := by
  intro j
  rw [List.getElem?_drop]
  exact h (k + j)
theorem wfs_append {zs ys : List Int} (h : wfs zs) (h' : wfs ys) : wfs (zs ++ ys) := by
  intro j
  by_cases hj : j < zs.length
  · rw [List.getElem?_append_left hj]; exact h j
  · rw [List.getElem?_append_right (by omega)]; exact h' _
theorem wfs_cons {z : Int} {zs : List Int} (h : (Lit.int .u8 z).wf = true) (h' : wfs zs) : wfs (z :: zs) := by
  intro j
  match j with
  | 0 => exact h
  | j + 1 => exact h' j
theorem wfs_nil : wfs [] := fun j => by simp; decide

theorem Sq.take {w : World} {b off len cap : Nat} {zs : List Int} (h : Sq w (some ⟨b, off, none⟩) len cap zs) (kk : Nat) (hk : kk ≤ len) : Sq w (some ⟨b, off, none⟩) kk cap (zs.take kk) := by
  refine ⟨by have := h.length; simp; omega, by have := h.lecap; omega, fun h => absurd h (by simp), fun h0 => ?_, wfs_take h.wf kk⟩
  obtain ⟨b', off', e, hc⟩ := h.cells (by omega)
  refine ⟨b', off', e, fun j hj => ?_⟩
  rw [hc j (by omega), List.getElem?_take, if_pos hj]
theorem Sq.drop {w : World} {b off len cap : Nat} {zs : List Int} (h : Sq w (some ⟨b, off, none⟩) len cap zs) (kk : Nat) (hk : kk ≤ len) (a : Option Addr) (hn : a = none → cap - kk = 0) (ha : kk < len → a = some ⟨b, off + kk, none⟩) : Sq w a (len - kk) (cap - kk) (zs.drop kk) := by
  refine ⟨by have := h.length; simp; omega, by have := h.lecap; omega, hn, fun h0 => ⟨b, off + kk, ha (by omega), fun j hj => ?_⟩, wfs_drop h.wf kk⟩
  obtain ⟨b', off', e, hc⟩ := h.cells (by omega)
  obtain ⟨rfl, rfl⟩ : b = b' ∧ off = off' := by simpa using e
  rw [Nat.add_assoc, hc (kk + j) (by omega), List.getElem?_drop]

/-- what a list's cells are, as the laws on append ask -/
theorem Sq.news {w : World} {a : Option Addr} {len cap : Nat} {zs : List Int} (h : Sq w a len cap zs) : ∀ ad, a = some ad → ∀ j u, (vals zs)[j]? = some u → w.cell? (ad.add j) = some u := by
  intro ad e j u hu
  have hj : j < len := by
    have h1 := (List.getElem?_eq_some_iff.1 hu).1
    have h2 := h.length
    simp [vals] at h1
    omega
  obtain ⟨b, off, e2, hc⟩ := h.cells (by omega)
  rw [e] at e2
  obtain rfl := Option.some.inj e2
  rw [Addr.add_lit, hc j hj]
  have h2 := h.length
  have hj' : j < zs.length := by omega
  simpa [vals, hj'] using hu
theorem Sq.valsLength {w : World} {a : Option Addr} {len cap : Nat} {zs : List Int} (h : Sq w a len cap zs) : (vals zs).length = len * 1 := by have := h.length; simp [vals]; omega
theorem Sq.noAddr {w : World} {a : Option Addr} {len cap : Nat} {zs : List Int} (h : Sq w a len cap zs) : a = none → len = 0 ∧ cap = 0 := fun e => by have := h.nil e; have := h.lecap; omega
theorem vals_append (zs ys : List Int) : vals (zs ++ ys) = vals zs ++ vals ys := List.map_append
theorem vals_one (zs : List Int) : ∀ u ∈ vals zs, u.oneCell' = true := ints_oneCell _ _

theorem row_below {w w' : World} {B n : Nat} {v : Value} {xs : List Value} (h : w.ownsRow B 5 1 v n xs) (hb : Below w.heap.size w w') : w'.ownsRow B 5 1 v n xs := by
  obtain ⟨hl, h | ⟨g, cp, cur, h1, h2, h3, h4, h5, h6, h7⟩⟩ := h
  · exact ⟨hl, .inl h⟩
  · refine ⟨hl, .inr ⟨g, cp, cur, h1, h2, ?_, h4, h5, h6, h7⟩⟩
    rw [hb.block g (by rcases Nat.lt_or_ge g w.heap.size with h | h; exact h; rw [Array.getElem?_eq_none h] at h3; cases h3)]
    exact h3
theorem row_base {w : World} {B B' n : Nat} {v : Value} {xs : List Value} (h : w.ownsRow B 5 1 v n xs) (hB : B' ≤ B) : w.ownsRow B' 5 1 v n xs := by
  obtain ⟨hl, h | ⟨g, cp, cur, h1, h2, h3⟩⟩ := h
  · exact ⟨hl, .inl h⟩
  · exact ⟨hl, .inr ⟨g, cp, cur, h1, Nat.le_trans hB h2, h3⟩⟩
theorem below_grown {w W W' : World} {B n : Nat} {v : Value} {xs : List Value} (h : Below w.heap.size w W) (hown : W.ownsRow B 5 1 v n xs) (hB : w.heap.size ≤ B) (hg : W.grownBy W' v.ownBlock) : Below w.heap.size w W' :=
  h.grown hg h.size (fun k hk => Nat.le_trans hB (hown.lt k hk).1)

theorem grownBy_refl (w : World) (row : Option Nat) : w.grownBy w row := World.grownBy.refl w row

/-- append(s, x...): s a row of the call's own (or nil), x whatever list -/
theorem wp_append_sq {ops : Array Oper} {rest : List Oper} {o : Oper} {act : Act} {Q : Exit → Act → World → Prop} (w : World) (hg : o.guard = none) (s x : Operand)
    (hop : o.op = Op.call { callee := Callee.builtin Builtin.append, args := #[s, x], argTypes := #[29, 29] })
    (B : Nat) (v : Value) (n : Nat) (zs : List Int) (hs : act.eval s = v) (hown : w.ownsRow B 5 1 v n (vals zs))
    (a : Option Addr) (m c : Nat) (bs : List Int) (hx : act.eval x = .slice a m c) (hsq : Sq w a m c bs) (hr : (n + m) * 1 ≤ 140737488355328) (hB : B ≤ w.heap.size)
    (hK : ∀ v' w', w'.ownsRow B 5 1 v' (n + m) (vals (zs ++ bs)) → w.grownBy w' v.ownBlock → wpList Tryz.prog ops Q rest (act.put o.dst v') w') :
    wpList Tryz.prog ops Q (o :: rest) act w := by
  obtain ⟨i0, hi, hz0, hz1, hz2⟩ := info_parts info
  cases a with
  | none =>
    obtain ⟨rfl, rfl⟩ := hsq.noAddr rfl
    have hb : bs = [] := List.eq_nil_of_length_eq_zero hsq.length
    subst hb
    refine wpList_append_own_none hg s x 29 hop B 5 i0 1 Tryz.underlying29 hi v n (vals zs) hs hown hx ?_
    refine hK v w ?_ (grownBy_refl _ _)
    rw [List.append_nil]
    exact hown
  | some ad =>
    refine wpList_append_own w hg s x 29 hop B 5 i0 (.int .u8 0) 1 1 Tryz.underlying29 hi hz0 hz1 hz2 rfl (by decide) v n (vals zs) hs hown ad m c (vals bs) hx hsq.valsLength (hsq.news ad rfl) (vals_one _) (by unfold maxLen; omega) (by omega) hB ?_
    intro v' w' h1 h2 _
    refine hK v' w' ?_ h2
    rw [vals_append]
    exact h1
end B8
end Go.Proofs.YthklpkmdmkgjiaaGreat

namespace Go.Proofs.YthklpkmdmkgjiaaGreat
namespace Cm
set_option linter.unusedVariables false

/-- seven bits a byte, the lowest first (f: how many bytes may still have their highest bit set) -/
def numF : Nat → Nat → List Int
  | 0, v => [(v : Int)]
  | f + 1, v => if v ≤ 127 then [(v : Int)] else ((v : Int) % 128 + 128) :: numF f (v / 128)
def numB (v : Nat) : List Int := numF 9 v

theorem numF_end (f v : Nat) (h : v ≤ 127) : numF f v = [(v : Int)] := by
  cases f with
  | zero => rfl
  | succ f => show (if v ≤ 127 then _ else _) = _; rw [if_pos h]
theorem numF_more (f v : Nat) (h : ¬ v ≤ 127) : numF (f + 1) v = ((v : Int) % 128 + 128) :: numF f (v / 128) := by
  show (if v ≤ 127 then _ else _) = _; rw [if_neg h]
theorem numF_length (f v : Nat) : 1 ≤ (numF f v).length ∧ (numF f v).length ≤ f + 1 := by
  induction f generalizing v with
  | zero => exact ⟨Nat.le_refl _, Nat.le_refl _⟩
  | succ f ih =>
    by_cases h : v ≤ 127
    · rw [numF_end _ _ h]; simp
    · rw [numF_more _ _ h]; have := ih (v / 128); simp; omega
theorem numF_bytes (f v : Nat) (h : v < 128 ^ (f + 1)) : ∀ x ∈ numF f v, 0 ≤ x ∧ x ≤ 255 := by
  induction f generalizing v with
  | zero =>
    intro x hx
    have hv : v < 128 := by simpa using h
    rw [show numF 0 v = [(v : Int)] from rfl, List.mem_singleton] at hx
    omega
  | succ f ih =>
    intro x hx
    by_cases hv : v ≤ 127
    · rw [numF_end _ _ hv, List.mem_singleton] at hx
      omega
    · rw [numF_more _ _ hv, List.mem_cons] at hx
      rcases hx with hx | hx
      · omega
      · exact ih (v / 128) (by rw [Nat.pow_succ] at h; exact Nat.div_lt_of_lt_mul (by rw [Nat.mul_comm]; exact h)) x hx

/-- an int as a number -/
def zig (n : Int) : Nat := if 0 ≤ n then (2 * n).toNat else (2 * -(n + 1) + 1).toNat
theorem zig_up (n : Int) (h : 0 ≤ n) : zig n = (2 * n).toNat := if_pos h
theorem zig_down (n : Int) (h : ¬ 0 ≤ n) : zig n = (2 * -(n + 1) + 1).toNat := if_neg h

/-- what a number's bytes are read as, from the k-th one on: the number, how many bytes it has, the fault -/
structure NumR where
  v : Nat
  used : Nat
  e : Int
/-- the place behind a number, or 0 -/
def numTo (at_ : Nat) (r : NumR) : Int := if r.e = 0 then ((at_ + r.used : Nat) : Int) else 0
def numG : List Int → Nat → Nat → NumR
  | [], _, _ => ⟨0, 0, 20⟩
  | c :: r, k, v => if (k = 9 ∧ 1 < c) ∨ (0 < k ∧ c = 0) then ⟨0, 0, 21⟩ else if c < 128 then ⟨v + (c % 128).toNat * 2 ^ (7 * k), k + 1, 0⟩ else numG r (k + 1) (v + (c % 128).toNat * 2 ^ (7 * k))
theorem numG_nil (k v : Nat) : numG [] k v = ⟨0, 0, 20⟩ := rfl
theorem numG_form (c : Int) (r : List Int) (k v : Nat) (h : (k = 9 ∧ 1 < c) ∨ (0 < k ∧ c = 0)) : numG (c :: r) k v = ⟨0, 0, 21⟩ := if_pos h
theorem numG_done (c : Int) (r : List Int) (k v : Nat) (h : ¬ ((k = 9 ∧ 1 < c) ∨ (0 < k ∧ c = 0))) (hc : c < 128) : numG (c :: r) k v = ⟨v + (c % 128).toNat * 2 ^ (7 * k), k + 1, 0⟩ := (if_neg h).trans (if_pos hc)
theorem numG_more (c : Int) (r : List Int) (k v : Nat) (h : ¬ ((k = 9 ∧ 1 < c) ∨ (0 < k ∧ c = 0))) (hc : ¬ c < 128) : numG (c :: r) k v = numG r (k + 1) (v + (c % 128).toNat * 2 ^ (7 * k)) := (if_neg h).trans (if_neg hc)

theorem acc_bd (vv k d : Nat) (hd : d ≤ 127) (hv : vv < 2 ^ (7 * k)) (hk : k ≤ 8 ∨ (k = 9 ∧ d ≤ 1)) : d * 2 ^ (7 * k) < 18446744073709551616 ∧ vv + d * 2 ^ (7 * k) < 18446744073709551616 ∧ vv + d * 2 ^ (7 * k) < 2 ^ (7 * (k + 1)) := by
  obtain ⟨P, hP⟩ : ∃ P, P = 2 ^ (7 * k) := ⟨_, rfl⟩
  have h1 : d * P ≤ 127 * P := Nat.mul_le_mul_right P hd
  have h2 : 2 ^ (7 * (k + 1)) = P * 128 := by rw [hP, Nat.mul_add, Nat.pow_add]
  rw [h2, ← hP]
  rw [← hP] at hv
  rcases hk with hk | ⟨rfl, hd1⟩
  · have h3 : P ≤ 2 ^ 56 := by rw [hP]; exact Nat.pow_le_pow_right (by omega) (by omega)
    omega
  · have h4 : d * P ≤ 1 * P := Nat.mul_le_mul_right P hd1
    have h5 : P = 9223372036854775808 := hP
    omega
end Cm
end Go.Proofs.YthklpkmdmkgjiaaGreat

namespace Go.Proofs.YthklpkmdmkgjiaaGreat
namespace Cm
set_option linter.unusedVariables false

/-- where a reader stands, and its fault -/
structure St where
  pl : Nat
  err : Int

/-- an answer, and how the reader stands then -/
structure Ans (α : Type) where
  v : α
  s : St

def numA (bs : List Int) (s : St) : Ans Nat :=
  if s.err = 0 then (if (numG (bs.drop s.pl) 0 0).e = 0 then ⟨(numG (bs.drop s.pl) 0 0).v, ⟨s.pl + (numG (bs.drop s.pl) 0 0).used, 0⟩⟩ else ⟨0, ⟨s.pl, (numG (bs.drop s.pl) 0 0).e⟩⟩) else ⟨0, s⟩
/-- a number as an int -/
def zag (v : Nat) : Int := if v % 2 = 1 then -((v / 2 : Nat) : Int) - 1 else ((v / 2 : Nat) : Int)
def intA (bs : List Int) (s : St) : Ans Int := ⟨zag (numA bs s).v, (numA bs s).s⟩
def byteA (bs : List Int) (s : St) : Ans Int :=
  if s.err = 0 then (if s.pl < bs.length then ⟨bs[s.pl]?.getD 0, ⟨s.pl + 1, 0⟩⟩ else ⟨0, ⟨s.pl, 20⟩⟩) else ⟨0, s⟩
def flagA (bs : List Int) (s : St) : Ans Bool :=
  if 1 < (byteA bs s).v then ⟨false, ⟨s.pl, 21⟩⟩ else ⟨decide ((byteA bs s).v = 1), (byteA bs s).s⟩
def countA (bs : List Int) (most : Int) (s : St) : Ans Nat :=
  if max 0 most < ((numA bs s).v : Int) then ⟨0, ⟨s.pl, 22⟩⟩ else numA bs s
def textA (bs : List Int) (most : Int) (s : St) : Ans (List Int) :=
  if (countA bs most s).s.err = 0 then
    (if bs.length - (countA bs most s).s.pl < (countA bs most s).v then ⟨[], ⟨s.pl, 20⟩⟩ else ⟨(bs.drop (countA bs most s).s.pl).take (countA bs most s).v, ⟨(countA bs most s).s.pl + (countA bs most s).v, 0⟩⟩)
  else ⟨[], (countA bs most s).s⟩
def faultA (s : St) : Int × Int := if s.err = 0 then (0, 0) else (s.err, (s.pl : Int))
def endA (bs : List Int) (s : St) : Int := if s.err = 0 then (if s.pl < bs.length then 24 else 0) else s.err

theorem numG_used : ∀ (r : List Int) (k v : Nat), (numG r k v).e = 0 → k < (numG r k v).used ∧ (numG r k v).used ≤ k + r.length
  | [], k, v, h => absurd (show (20 : Int) = 0 from h) (by decide)
  | c :: r, k, v, h => by
    by_cases h1 : (k = 9 ∧ 1 < c) ∨ (0 < k ∧ c = 0)
    · rw [numG_form _ _ _ _ h1] at h; exact absurd h (by decide)
    · by_cases h2 : c < 128
      · rw [numG_done _ _ _ _ h1 h2]; simp
      · rw [numG_more _ _ _ _ h1 h2] at h ⊢
        have := numG_used r (k + 1) _ h
        simp; omega
theorem numG_e : ∀ (r : List Int) (k v : Nat), (numG r k v).e = 0 ∨ (numG r k v).e = 20 ∨ (numG r k v).e = 21
  | [], k, v => .inr (.inl rfl)
  | c :: r, k, v => by
    by_cases h1 : (k = 9 ∧ 1 < c) ∨ (0 < k ∧ c = 0)
    · rw [numG_form _ _ _ _ h1]; exact .inr (.inr rfl)
    · by_cases h2 : c < 128
      · rw [numG_done _ _ _ _ h1 h2]; exact .inl rfl
      · rw [numG_more _ _ _ _ h1 h2]; exact numG_e r (k + 1) _
theorem numG_err0 : ∀ (r : List Int) (k v : Nat), (numG r k v).e ≠ 0 → (numG r k v).v = 0
  | [], k, v, _ => rfl
  | c :: r, k, v, h => by
    by_cases h1 : (k = 9 ∧ 1 < c) ∨ (0 < k ∧ c = 0)
    · rw [numG_form _ _ _ _ h1]
    · by_cases h2 : c < 128
      · rw [numG_done _ _ _ _ h1 h2] at h; exact absurd rfl h
      · rw [numG_more _ _ _ _ h1 h2] at h ⊢; exact numG_err0 r (k + 1) _ h
theorem numG_lt : ∀ (r : List Int) (k v : Nat), k ≤ 9 → v < 2 ^ (7 * k) → (∀ x ∈ r, 0 ≤ x ∧ x ≤ 255) → (numG r k v).v < 18446744073709551616
  | [], k, v, _, _, _ => by show 0 < _; omega
  | c :: r, k, v, hk, hv, hr => by
    by_cases h1 : (k = 9 ∧ 1 < c) ∨ (0 < k ∧ c = 0)
    · rw [numG_form _ _ _ _ h1]; show 0 < _; omega
    · have hc := hr c (by simp)
      have hd : (c % 128).toNat ≤ 127 := by omega
      have hb := acc_bd v k (c % 128).toNat hd hv (by omega)
      by_cases h2 : c < 128
      · rw [numG_done _ _ _ _ h1 h2]; exact hb.2.1
      · rw [numG_more _ _ _ _ h1 h2]
        exact numG_lt r (k + 1) _ (by omega) hb.2.2 (fun x hx => hr x (by simp [hx]))

theorem numA_fault (bs : List Int) (s : St) (h : ¬ s.err = 0) : numA bs s = ⟨0, s⟩ := if_neg h
theorem numA_bad (bs : List Int) (s : St) (h : s.err = 0) (h' : ¬ (numG (bs.drop s.pl) 0 0).e = 0) : numA bs s = ⟨0, ⟨s.pl, (numG (bs.drop s.pl) 0 0).e⟩⟩ := (if_pos h).trans (if_neg h')
theorem numA_good (bs : List Int) (s : St) (h : s.err = 0) (h' : (numG (bs.drop s.pl) 0 0).e = 0) : numA bs s = ⟨(numG (bs.drop s.pl) 0 0).v, ⟨s.pl + (numG (bs.drop s.pl) 0 0).used, 0⟩⟩ := (if_pos h).trans (if_pos h')

theorem numA_place (bs : List Int) (s : St) (h : s.pl ≤ bs.length) : (numA bs s).s.pl ≤ bs.length := by
  by_cases h1 : s.err = 0
  · by_cases h2 : (numG (bs.drop s.pl) 0 0).e = 0
    · rw [numA_good _ _ h1 h2]
      have := (numG_used _ _ _ h2).2
      simp at this ⊢; omega
    · rw [numA_bad _ _ h1 h2]; exact h
  · rw [numA_fault _ _ h1]; exact h
theorem numA_lt (bs : List Int) (s : St) (h : ∀ x ∈ bs, 0 ≤ x ∧ x ≤ 255) : (numA bs s).v < 18446744073709551616 := by
  by_cases h1 : s.err = 0
  · by_cases h2 : (numG (bs.drop s.pl) 0 0).e = 0
    · rw [numA_good _ _ h1 h2]
      exact numG_lt _ _ _ (by omega) (by simp) (fun x hx => h x (List.mem_of_mem_drop hx))
    · rw [numA_bad _ _ h1 h2]; show 0 < _; omega
  · rw [numA_fault _ _ h1]; show 0 < _; omega
/-- with a fault the answer is 0 -/
theorem numA_err (bs : List Int) (s : St) (h : ¬ (numA bs s).s.err = 0) : (numA bs s).v = 0 := by
  by_cases h1 : s.err = 0
  · by_cases h2 : (numG (bs.drop s.pl) 0 0).e = 0
    · rw [numA_good _ _ h1 h2] at h; exact absurd rfl h
    · rw [numA_bad _ _ h1 h2]
  · rw [numA_fault _ _ h1]
theorem byteA_fault (bs : List Int) (s : St) (h : ¬ s.err = 0) : byteA bs s = ⟨0, s⟩ := if_neg h
theorem byteA_short (bs : List Int) (s : St) (h : s.err = 0) (h' : ¬ s.pl < bs.length) : byteA bs s = ⟨0, ⟨s.pl, 20⟩⟩ := (if_pos h).trans (if_neg h')
theorem byteA_good (bs : List Int) (s : St) (h : s.err = 0) (h' : s.pl < bs.length) : byteA bs s = ⟨bs[s.pl]?.getD 0, ⟨s.pl + 1, 0⟩⟩ := (if_pos h).trans (if_pos h')
theorem byteA_place (bs : List Int) (s : St) (h : s.pl ≤ bs.length) : (byteA bs s).s.pl ≤ bs.length := by
  by_cases h1 : s.err = 0
  · by_cases h2 : s.pl < bs.length
    · rw [byteA_good _ _ h1 h2]; exact h2
    · rw [byteA_short _ _ h1 h2]; exact h
  · rw [byteA_fault _ _ h1]; exact h
theorem byteA_err (bs : List Int) (s : St) (h : ¬ (byteA bs s).s.err = 0) : (byteA bs s).v = 0 := by
  by_cases h1 : s.err = 0
  · by_cases h2 : s.pl < bs.length
    · rw [byteA_good _ _ h1 h2] at h; exact absurd rfl h
    · rw [byteA_short _ _ h1 h2]
  · rw [byteA_fault _ _ h1]
theorem flagA_bad (bs : List Int) (s : St) (h : 1 < (byteA bs s).v) : flagA bs s = ⟨false, ⟨s.pl, 21⟩⟩ := if_pos h
theorem flagA_good (bs : List Int) (s : St) (h : ¬ 1 < (byteA bs s).v) : flagA bs s = ⟨decide ((byteA bs s).v = 1), (byteA bs s).s⟩ := if_neg h
theorem flagA_place (bs : List Int) (s : St) (h : s.pl ≤ bs.length) : (flagA bs s).s.pl ≤ bs.length := by
  by_cases h1 : 1 < (byteA bs s).v
  · rw [flagA_bad _ _ h1]; exact h
  · rw [flagA_good _ _ h1]; exact byteA_place bs s h
theorem countA_long (bs : List Int) (most : Int) (s : St) (h : max 0 most < ((numA bs s).v : Int)) : countA bs most s = ⟨0, ⟨s.pl, 22⟩⟩ := if_pos h
theorem countA_good (bs : List Int) (most : Int) (s : St) (h : ¬ max 0 most < ((numA bs s).v : Int)) : countA bs most s = numA bs s := if_neg h
theorem countA_place (bs : List Int) (most : Int) (s : St) (h : s.pl ≤ bs.length) : (countA bs most s).s.pl ≤ bs.length := by
  by_cases h1 : max 0 most < ((numA bs s).v : Int)
  · rw [countA_long _ _ _ h1]; exact h
  · rw [countA_good _ _ _ h1]; exact numA_place bs s h
theorem countA_le (bs : List Int) (most : Int) (s : St) : ((countA bs most s).v : Int) ≤ max 0 most := by
  by_cases h1 : max 0 most < ((numA bs s).v : Int)
  · rw [countA_long _ _ _ h1]; show ((0 : Nat) : Int) ≤ _; omega
  · rw [countA_good _ _ _ h1]; omega
theorem textA_fault (bs : List Int) (most : Int) (s : St) (h : ¬ (countA bs most s).s.err = 0) : textA bs most s = ⟨[], (countA bs most s).s⟩ := if_neg h
theorem textA_short (bs : List Int) (most : Int) (s : St) (h : (countA bs most s).s.err = 0) (h' : bs.length - (countA bs most s).s.pl < (countA bs most s).v) : textA bs most s = ⟨[], ⟨s.pl, 20⟩⟩ := (if_pos h).trans (if_pos h')
theorem textA_good (bs : List Int) (most : Int) (s : St) (h : (countA bs most s).s.err = 0) (h' : ¬ bs.length - (countA bs most s).s.pl < (countA bs most s).v) : textA bs most s = ⟨(bs.drop (countA bs most s).s.pl).take (countA bs most s).v, ⟨(countA bs most s).s.pl + (countA bs most s).v, 0⟩⟩ := (if_pos h).trans (if_neg h')
end Cm
end Go.Proofs.YthklpkmdmkgjiaaGreat

namespace Go.Proofs.YthklpkmdmkgjiaaGreat
namespace B8
open Go.ChangeShapes Go.WideShapes Go.ChangeAt Go.RowKit
set_option linter.unusedVariables false

theorem run_append_sq (w : World) (ty : TypeId) (B : Nat) (v : Value) (n : Nat) (zs : List Int) (hown : w.ownsRow B 5 1 v n (vals zs))
    (a : Option Addr) (m c : Nat) (bs : List Int) (hsq : Sq w a m c bs) (hr : (n + m) * 1 ≤ 140737488355328) (hB : B ≤ w.heap.size) :
    ∃ v' w', (Builtin.append_ #[29, 29] ty #[v, .slice a m c]).run Tryz.prog w = .ok v' w' ∧ w'.ownsRow B 5 1 v' (n + m) (vals (zs ++ bs)) ∧ w.grownBy w' v.ownBlock ∧ (v'.ownBlock = v.ownBlock ∨ v'.ownBlock = some w.heap.size) := by
  obtain ⟨i0, hi, hz0, hz1, hz2⟩ := info_parts info
  cases a with
  | none =>
    obtain ⟨rfl, rfl⟩ := hsq.noAddr rfl
    have hb : bs = [] := List.eq_nil_of_length_eq_zero hsq.length
    subst hb
    refine ⟨v, w, run_append_owned_none w B 29 ty 5 i0 1 Tryz.underlying29 hi v n (vals zs) hown, ?_, grownBy_refl _ _, .inl rfl⟩
    rw [List.append_nil]
    exact hown
  | some ad =>
    obtain ⟨v', w', h1, h2, h3, _, h5⟩ := run_append_own_at (P := Tryz.prog) w B 29 ty 5 i0 (.int .u8 0) 1 1 Tryz.underlying29 hi hz0 hz1 hz2 rfl (by decide) v n (vals zs) hown ad m c (vals bs) hsq.valsLength (hsq.news ad rfl) (vals_one _) (by unfold maxLen; omega) (by omega) hB
    refine ⟨v', w', h1, ?_, h3, h5⟩
    rw [vals_append]
    exact h2

theorem row_block {w : World} {B n : Nat} {v : Value} {xs : List Value} (h : w.ownsRow B 5 1 v n xs) {g : Nat} (hg : v.ownBlock = some g) : ∃ cp, v = .slice (some ⟨g, 0, none⟩) n cp := by
  obtain ⟨_, ⟨rfl, _⟩ | ⟨g', cp, cur, rfl, _⟩⟩ := h
  · simp [Value.ownBlock] at hg
  · simp [Value.ownBlock] at hg
    subst hg
    exact ⟨cp, rfl⟩
/-- onto a row that is there, the new row written out -/
theorem run_append_out (w : World) (ty : TypeId) (B g0 c0 n : Nat) (zs : List Int) (hown : w.ownsRow B 5 1 (.slice (some ⟨g0, 0, none⟩) n c0) n (vals zs))
    (a : Option Addr) (m c : Nat) (bs : List Int) (hsq : Sq w a m c bs) (hr : (n + m) * 1 ≤ 140737488355328) (hB : B ≤ w.heap.size) :
    ∃ g cp w', (Builtin.append_ #[29, 29] ty #[.slice (some ⟨g0, 0, none⟩) n c0, .slice a m c]).run Tryz.prog w = .ok (.slice (some ⟨g, 0, none⟩) (n + m) cp) w' ∧ w'.ownsRow B 5 1 (.slice (some ⟨g, 0, none⟩) (n + m) cp) (n + m) (vals (zs ++ bs)) ∧ w.grownBy w' (some g0) ∧ (g = g0 ∨ g = w.heap.size) := by
  obtain ⟨v', w', h1, h2, h3, h4⟩ := run_append_sq w ty B _ n zs hown a m c bs hsq hr hB
  obtain ⟨g, hg, ho⟩ : ∃ g, v'.ownBlock = some g ∧ (g = g0 ∨ g = w.heap.size) := by
    rcases h4 with h4 | h4
    · exact ⟨g0, h4, .inl rfl⟩
    · exact ⟨_, h4, .inr rfl⟩
  obtain ⟨cp, rfl⟩ := row_block h2 hg
  exact ⟨g, cp, w', h1, h2, h3, ho⟩

/-- at the operation -/
theorem wp_append_at {ops : Array Oper} {rest : List Oper} {o : Oper} {act : Act} {Q : Exit → Act → World → Prop} (w : World) (hg : o.guard = none) (s x : Operand)
    (hop : o.op = Op.call { callee := Callee.builtin Builtin.append, args := #[s, x], argTypes := #[29, 29] })
    (B g0 c0 n : Nat) (zs : List Int) (hs : act.eval s = .slice (some ⟨g0, 0, none⟩) n c0) (hown : w.ownsRow B 5 1 (.slice (some ⟨g0, 0, none⟩) n c0) n (vals zs))
    (a : Option Addr) (m c : Nat) (bs : List Int) (hx : act.eval x = .slice a m c) (hsq : Sq w a m c bs) (hr : (n + m) * 1 ≤ 140737488355328) (hB : B ≤ w.heap.size)
    (hK : ∀ g cp w', w'.ownsRow B 5 1 (.slice (some ⟨g, 0, none⟩) (n + m) cp) (n + m) (vals (zs ++ bs)) → w.grownBy w' (some g0) → (g = g0 ∨ g = w.heap.size) → wpList Tryz.prog ops Q rest (act.put o.dst (.slice (some ⟨g, 0, none⟩) (n + m) cp)) w') :
    wpList Tryz.prog ops Q (o :: rest) act w := by
  refine wpList_plain hg fun K hK' => ?_
  obtain ⟨g, cp, w', hr, h2, h3, h4⟩ := run_append_out w o.type B g0 c0 n zs hown a m c bs hsq hr hB
  unfold Oper.wp execOp
  simp only [hop, resolve, invoke, builtin, Sem.run_bind, Sem.run_pure, Result.andThen_ok, List.map_toArray, List.map_cons, List.map_nil, hs, hx, hr]
  exact hK' _ _ (hK g cp w' h2 h3 h4)

/-- as a step of a region that draws its order -/
theorem step_append_sq {ops : Array Oper} {o : Oper} {act : Act} {K : Act → World → Prop} {Q : Exit → Act → World → Prop} {E : Prop} (w : World) (hg : o.guard = none) (s x : Operand)
    (hop : o.op = Op.call { callee := Callee.builtin Builtin.append, args := #[s, x], argTypes := #[29, 29] })
    (B g0 c0 n : Nat) (zs : List Int) (hs : act.eval s = .slice (some ⟨g0, 0, none⟩) n c0) (hown : w.ownsRow B 5 1 (.slice (some ⟨g0, 0, none⟩) n c0) n (vals zs))
    (a : Option Addr) (m c : Nat) (bs : List Int) (hx : act.eval x = .slice a m c) (hsq : Sq w a m c bs) (hr : (n + m) * 1 ≤ 140737488355328) (hB : B ≤ w.heap.size)
    (hK : ∀ g cp w', w'.ownsRow B 5 1 (.slice (some ⟨g, 0, none⟩) (n + m) cp) (n + m) (vals (zs ++ bs)) → w.grownBy w' (some g0) → (g = g0 ∨ g = w.heap.size) → K (act.put o.dst (.slice (some ⟨g, 0, none⟩) (n + m) cp)) w') :
    if Region.wanted o (yielded ops act.tmps) = true then Oper.wp Tryz.prog o act w K Q else E := by
  have hw : Region.wanted o (yielded ops act.tmps) = true := by simp [Region.wanted, hg]
  rw [if_pos hw]
  obtain ⟨g, cp, w', hr, h2, h3, h4⟩ := run_append_out w o.type B g0 c0 n zs hown a m c bs hsq hr hB
  unfold Oper.wp execOp
  simp only [hop, resolve, invoke, builtin, Sem.run_bind, Sem.run_pure, Result.andThen_ok, List.map_toArray, List.map_cons, List.map_nil, hs, hx, hr]
  exact hK g cp w' h2 h3 h4
end B8
end Go.Proofs.YthklpkmdmkgjiaaGreat

namespace Go.Proofs.YthklpkmdmkgjiaaGreat
open Go.ChangeShapes Go.WideShapes Go.ChangeAt Go.RowKit B8 Cm
set_option linter.unusedVariables false

/-- a reader in memory: its bytes, its place, its fault -/
structure Rd (w : World) (R : Nat) (a : Option Addr) (n cp : Nat) (bs : List Int) (at_ : Nat) (err : Int) : Prop where
  c0 : w.cell? ⟨R, 0, none⟩ = some (.slice a n cp)
  c1 : w.cell? ⟨R, 1, none⟩ = some (.int .i64 at_)
  c2 : w.cell? ⟨R, 2, none⟩ = some (.int .i64 err)
  f1 : w.frozen? ⟨R, 1, none⟩ = false
  f2 : w.frozen? ⟨R, 2, none⟩ = false
  sq : Sq w a n cp bs
  apart : ∀ b off, a = some ⟨b, off, none⟩ → b ≠ R
  place : at_ ≤ n
  room : n ≤ 140737488355328

theorem acc_form (vv k : Nat) (c : Int) (c0 : 0 ≤ c) (c1 : c ≤ 255) (h1 : (c % 128).toNat * 2 ^ (7 * k) < 18446744073709551616) (h2 : vv + (c % 128).toNat * 2 ^ (7 * k) < 18446744073709551616) :
    IntKind.u64.wrap ((vv : Int) + IntKind.u64.wrap (c % 128 * 2 ^ (7 * k))) = ((vv + (c % 128).toNat * 2 ^ (7 * k) : Nat) : Int) := by
  obtain ⟨d, hd⟩ : ∃ d : Nat, c % 128 = d := ⟨(c % 128).toNat, by omega⟩
  rw [hd] at h1 h2 ⊢
  rw [Int.toNat_natCast] at h1 h2 ⊢
  have e : ((d : Int) * 2 ^ (7 * k)) = ((d * 2 ^ (7 * k) : Nat) : Int) := by simp
  rw [e, wrapU, wrapU]
  omega

theorem grown_setCell (w : World) (R o : Nat) (v : Value) : w.grownBy (w.setCell ⟨R, o, none⟩ v) (some R) :=
  ⟨rfl, rfl, rfl, by simp [World.setCell], fun k hk hne => Below.heap_setCell _ _ _ _ (fun e => hne (by rw [e]))⟩
theorem grown_drewN (w : World) (n : Nat) (row : Option Nat) : w.grownBy (w.drewN n) row := ⟨rfl, rfl, rfl, Nat.le_refl _, fun _ _ _ => rfl⟩
theorem Sq.grown {w w' : World} {a : Option Addr} {len cap : Nat} {zs : List Int} {row : Option Nat} (h : Sq w a len cap zs) (hg : w.grownBy w' row) (hne : ∀ b off, a = some ⟨b, off, none⟩ → some b ≠ row) : Sq w' a len cap zs :=
  ⟨h.length, h.lecap, h.nil, fun h0 => by
    obtain ⟨b, off, e, hc⟩ := h.cells h0
    exact ⟨b, off, e, fun j hj => hg.cell (hc j hj) (hne b off e)⟩, h.wf⟩

section
variable {w w' : World} {R : Nat} {a : Option Addr} {n cp : Nat} {bs : List Int} {s : Nat} {err : Int}
theorem Rd.drewN (h : Rd w R a n cp bs s err) (k : Nat) : Rd (w.drewN k) R a n cp bs s err := ⟨h.c0, h.c1, h.c2, h.f1, h.f2, h.sq.drew k, h.apart, h.place, h.room⟩
theorem Rd.grown {row : Option Nat} (h : Rd w R a n cp bs s err) (hg : w.grownBy w' row) (hR : some R ≠ row) (hb : ∀ b off, a = some ⟨b, off, none⟩ → some b ≠ row) : Rd w' R a n cp bs s err := by
  have hlt := World.block_lt_of_cell? w _ h.c0
  refine ⟨hg.cell h.c0 hR, hg.cell h.c1 hR, hg.cell h.c2 hR, ?_, ?_, Sq.grown h.sq hg hb, h.apart, h.place, h.room⟩
  · exact (World.frozen?_of_block (w := w) (hg.block R hlt hR)).trans h.f1
  · exact (World.frozen?_of_block (w := w) (hg.block R hlt hR)).trans h.f2
theorem Rd.moved (h : Rd w R a n cp bs s err) (s' : Nat) (hs : s' ≤ n) : Rd (w.setCell ⟨R, 1, none⟩ (.int .i64 s')) R a n cp bs s' err := by
  refine ⟨?_, World.cell?_setCell_same _ _ _ h.c1, ?_, by simpa using h.f1, by simpa using h.f2, Sq.grown h.sq (grown_setCell w R 1 _) (fun b off e => ?_), h.apart, hs, h.room⟩
  · rw [World.cell?_setCell_other _ _ _ _ (by simp)]; exact h.c0
  · rw [World.cell?_setCell_other _ _ _ _ (by simp)]; exact h.c2
  · simpa using h.apart b off e
theorem Rd.failed (h : Rd w R a n cp bs s err) (x : Int) : Rd (w.setCell ⟨R, 2, none⟩ (.int .i64 x)) R a n cp bs s x := by
  refine ⟨?_, ?_, World.cell?_setCell_same _ _ _ h.c2, by simpa using h.f1, by simpa using h.f2, Sq.grown h.sq (grown_setCell w R 2 _) (fun b off e => ?_), h.apart, h.place, h.room⟩
  · rw [World.cell?_setCell_other _ _ _ _ (by simp)]; exact h.c0
  · rw [World.cell?_setCell_other _ _ _ _ (by simp)]; exact h.c1
  · simpa using h.apart b off e
end

theorem bs_bd {bs : List Int} (h : wfs bs) : ∀ x ∈ bs, 0 ≤ x ∧ x ≤ 255 := by
  intro x hx
  obtain ⟨j, hj, e⟩ := List.getElem_of_mem hx
  have := bounds_u8 (h j)
  rw [List.getElem?_eq_getElem hj, e] at this
  exact this

theorem grown_below {w w' : World} (h : Below w.heap.size w w') (row : Option Nat) : w.grownBy w' row := ⟨h.os, h.tape, h.output, h.size, fun k hk _ => h.block k hk⟩

end Go.Proofs.YthklpkmdmkgjiaaGreat

namespace Go.Proofs.YthklpkmdmkgjiaaGreat
open Go.ChangeShapes Go.WideShapes Go.ChangeAt Go.RowKit B8 Cm
set_option linter.unusedVariables false

/-- a list of numbers in a block of the call's own (or nil): it may be written, and it lies from B on -/
def Mine (w : World) (B : Nat) (a : Option Addr) (n cp : Nat) (bs : List Int) : Prop :=
  Sq w a n cp bs ∧ ∀ ad, a = some ad → ∃ g cur, ad = ⟨g, 0, none⟩ ∧ B ≤ g ∧ w.heap[g]? = some (.cells cur 5 (0, 0)) ∧ n ≤ cur.size

theorem Mine.sq {w : World} {B : Nat} {a : Option Addr} {n cp : Nat} {bs : List Int} (h : Mine w B a n cp bs) : Sq w a n cp bs := h.1
theorem mine_of_row {w : World} {B len : Nat} {zs : List Int} {v : Value} (hl : zs.length = len) (hi : wfs zs)
    (h : w.ownsRow B 5 1 v len (vals zs)) : ∃ a cp, v = .slice a len cp ∧ Mine w B a len cp zs := by
  obtain ⟨a, cp, rfl, q⟩ := sq_of_row hl hi h
  refine ⟨a, cp, rfl, q, ?_⟩
  intro ad e
  subst e
  obtain ⟨_, ⟨h1, h2⟩ | ⟨g, cp', cur, h2, h3, h4, h5, h6, h7, h8⟩⟩ := h
  · cases h1
  · simp only [Value.slice.injEq, Option.some.injEq] at h2
    obtain ⟨rfl, _, rfl⟩ := h2
    refine ⟨g, cur, rfl, h3, h4, ?_⟩
    have := hl
    have h9 : (cur.toList.take (len * 1)).length = (vals zs).length := by rw [h8]
    simp [vals] at h9
    omega
theorem Mine.below {w w' : World} {B : Nat} {a : Option Addr} {n cp : Nat} {bs : List Int} (h : Mine w B a n cp bs) (hb : Below w.heap.size w w') : Mine w' B a n cp bs := by
  refine ⟨h.1.below hb, fun ad e => ?_⟩
  obtain ⟨g, cur, e1, e2, e3, e4⟩ := h.2 ad e
  refine ⟨g, cur, e1, e2, ?_, e4⟩
  rw [hb.block g (by rcases Nat.lt_or_ge g w.heap.size with h | h; exact h; rw [Array.getElem?_eq_none h] at e3; cases e3)]
  exact e3
theorem Mine.base {w : World} {B B' : Nat} {a : Option Addr} {n cp : Nat} {bs : List Int} (h : Mine w B a n cp bs) (hB : B' ≤ B) : Mine w B' a n cp bs := by
  refine ⟨h.1, fun ad e => ?_⟩
  obtain ⟨g, cur, e1, e2, e3, e4⟩ := h.2 ad e
  exact ⟨g, cur, e1, Nat.le_trans hB e2, e3, e4⟩

theorem cut_sq {w : World} {a : Option Addr} {n cp : Nat} {bs : List Int} (h : Sq w a n cp bs) (hr : n ≤ 140737488355328) :
    Calls Tryz.prog 77 #[.slice a n cp] w fun e w' => ∃ a', e = .returned (.slice a' n n) ∧ Mine w' w.heap.size a' n n bs ∧ Below w.heap.size w w' := by
  have H := hide h
  clear h
  go_enter Tryz.func77, Tryz.ntmps77
  go_wp2_with (at_builtin; refine wp_append_sq _ rfl (.const (.slice none 0 0)) (.tmp 4) rfl w.heap.size (.slice none 0 0) 0 [] rfl (World.ownsRow_nil _ _ _ _) a n cp bs rfl H.out (by omega) (Nat.le_refl _) ?_; intro v' w1 hown hgrow; simp only [List.nil_append, Nat.zero_add] at hown; obtain ⟨a1, cp1, rfl, M⟩ := mine_of_row H.out.length H.out.wf hown; have hlc := M.sq.lecap; have HM := hide M; clear M)
  go_ret
  refine ⟨a1, rfl, ⟨⟨HM.out.sq.length, Nat.le_refl _, fun h => (HM.out.sq.noAddr h).1, HM.out.sq.cells, HM.out.sq.wf⟩, HM.out.2⟩, (Below.refl _ _).grown hgrow (Nat.le_refl _) (fun k hk => by cases hk)⟩

/-- a reader that the call made, at the beginning of its own copy -/
def Made (w w' : World) (R n : Nat) (bs : List Int) : Prop := ∃ a cp, Rd w' R a n cp bs 0 0 ∧ ∀ b off, a = some ⟨b, off, none⟩ → w.heap.size ≤ b ∧ b < w'.heap.size
theorem cnew_any {w : World} {a : Option Addr} {n cp : Nat} {bs : List Int} (h : Sq w a n cp bs) (hr : n ≤ 140737488355328) :
    Calls Tryz.prog 55 #[.slice a n cp] w fun e w' => ∃ R, e = .returned (.pointer (some ⟨R, 0, none⟩)) ∧ Made w w' R n bs ∧ Below w.heap.size w w' ∧ w.heap.size ≤ R := by
  have C := hide (cut_sq h hr)
  clear h
  go_enter Tryz.func55, Tryz.ntmps55
  go_wp2_with fail
  refine C.out.mono ?_
  rintro e w1 ⟨a', rfl, hm, hb⟩
  have HM := hide hm
  have HB := hide hb
  clear hm hb
  go_wp2_with fail
  go_ret
  have b2 : Below w1.heap.size w1 (w1.alloc (.cells #[.slice a' n n, .int .i64 0, .int .i64 0] 164)) := Below.alloc (Below.refl _ _) (Nat.le_refl _) _
  refine ⟨w1.heap.size, rfl, ⟨a', n, ⟨by simp, by simp, by simp, by simp, by simp, HM.out.sq.below b2, ?_, Nat.zero_le _, hr⟩, ?_⟩, below_step HB.out b2, HB.out.size⟩
  · intro b off e
    obtain ⟨g, cur, e1, e2, e3, e4⟩ := HM.out.2 _ e
    obtain ⟨rfl, rfl⟩ : b = g ∧ off = 0 := by simpa using e1
    have : b < w1.heap.size := by rcases Nat.lt_or_ge b w1.heap.size with h | h; exact h; rw [Array.getElem?_eq_none h] at e3; cases e3
    omega
  · intro b off e
    obtain ⟨g, cur, e1, e2, e3, e4⟩ := HM.out.2 _ e
    obtain ⟨rfl, rfl⟩ : b = g ∧ off = 0 := by simpa using e1
    have : b < w1.heap.size := by rcases Nat.lt_or_ge b w1.heap.size with h | h; exact h; rw [Array.getElem?_eq_none h] at e3; cases e3
    exact ⟨e2, by simp; omega⟩

theorem cleft_any {w : World} {R : Nat} {a : Option Addr} {n cp : Nat} {bs : List Int} {pl : Nat} {err : Int} (h : Rd w R a n cp bs pl err) :
    Calls Tryz.prog 91 #[.pointer (some ⟨R, 0, none⟩)] w fun e w' => e = .returned (.int .i64 ((n - pl : Nat) : Int)) ∧ ∃ m, w' = w.drewN m := by
  have c0 := h.c0
  have c1 := h.c1
  have hpl := h.place
  have hro := h.room
  clear h
  go_enter Tryz.func91, Tryz.ntmps91
  go_wp2_with fail
  go_quiet (fail)
  go_wp2_with fail
  go_ret
  exact ⟨ret1 (by omega), _, rfl⟩

theorem cfault_any {w : World} {R : Nat} {a : Option Addr} {n cp : Nat} {bs : List Int} {s : St} (h : Rd w R a n cp bs s.pl s.err) :
    Calls Tryz.prog 90 #[.pointer (some ⟨R, 0, none⟩)] w fun e w' => e = .returned (.tuple #[.int .i64 (faultA s).1, .int .i64 (faultA s).2]) ∧ ∃ m, w' = w.drewN m := by
  have c1 := h.c1
  have c2 := h.c2
  clear h
  obtain ⟨pl, err⟩ := s
  by_cases h0 : err = 0
  · subst h0
    go_enter Tryz.func90, Tryz.ntmps90
    go_wp2_with fail
    go_ret2
    exact ⟨rfl, 0, rfl⟩
  · have HV : Hid (faultA ⟨pl, err⟩ = (err, (pl : Int))) := if_neg h0
    have hx : (err == 0) = false := by simpa using h0
    go_enter Tryz.func90, Tryz.ntmps90
    go_wp2_with fail
    go_quiet (fail)
    go_wp2_with fail
    go_ret2
    rw [HV.out]
    exact ⟨rfl, _, rfl⟩

theorem cend_any {w : World} {R : Nat} {a : Option Addr} {n cp : Nat} {bs : List Int} {s : St} (h : Rd w R a n cp bs s.pl s.err) :
    Calls Tryz.prog 78 #[.pointer (some ⟨R, 0, none⟩)] w fun e w' => e = .returned (.int .i64 (endA bs s)) ∧ ∃ m, w' = w.drewN m := by
  have CF := hide (cfault_any h)
  have HR := hide h
  have HL : Hid (bs.length = n) := h.sq.length
  have hpl := h.place
  have hro := h.room
  clear h
  obtain ⟨pl, err⟩ := s
  have hpl' : pl ≤ n := hpl
  clear hpl
  by_cases h0 : err = 0
  · subst h0
    by_cases h1 : pl < n
    · have HV : Hid (endA bs ⟨pl, 0⟩ = 24) := by show _ = _; unfold endA; rw [HL.out]; simp [h1]
      go_enter Tryz.func78, Tryz.ntmps78
      go_wp2_with fail
      refine CF.out.mono ?_
      rintro e w1 ⟨rfl, m, rfl⟩
      have HF : Hid (faultA ⟨pl, 0⟩ = (0, 0)) := rfl
      rw [HF.out]
      have i1 : decide ((0 : Int) < ((n - pl : Nat) : Int)) = true := by simp; omega
      have i2 : (0 : Int) < ((n - pl : Nat) : Int) := by omega
      go_wp2_with (go_at_call 91; refine (cleft_any (HR.out.drewN m)).mono ?_; rintro e w2 ⟨rfl, m2, rfl⟩)
      go_ret
      rw [HV.out]
      exact ⟨rfl, _, rfl⟩
    · have HV : Hid (endA bs ⟨pl, 0⟩ = 0) := by show _ = _; unfold endA; rw [HL.out]; simp [h1]
      obtain rfl : pl = n := by omega
      go_enter Tryz.func78, Tryz.ntmps78
      go_wp2_with fail
      refine CF.out.mono ?_
      rintro e w1 ⟨rfl, m, rfl⟩
      have HF : Hid (faultA ⟨pl, 0⟩ = (0, 0)) := rfl
      rw [HF.out]
      have c := cleft_any (HR.out.drewN m)
      rw [Nat.sub_self] at c
      have CL := hide c
      clear c
      go_wp2_with (go_at_call 91; refine CL.out.mono ?_; rintro e w2 ⟨rfl, m2, rfl⟩)
      go_ret
      rw [HV.out]
      exact ⟨rfl, _, rfl⟩
  · have HV : Hid (endA bs ⟨pl, err⟩ = err) := if_neg h0
    have HF : Hid (faultA ⟨pl, err⟩ = (err, (pl : Int))) := if_neg h0
    have hx : (err == 0) = false := by simpa using h0
    go_enter Tryz.func78, Tryz.ntmps78
    go_wp2_with fail
    refine CF.out.mono ?_
    rintro e w1 ⟨rfl, m, rfl⟩
    rw [HF.out]
    go_wp2_with fail
    go_ret
    rw [HV.out]
    exact ⟨rfl, _, rfl⟩

/-- what next answers, and where the reader stands then -/
def nextA (bs : List Int) (pl : Nat) : Int × Int × Nat := if pl < bs.length then (bs[pl]?.getD 0, 0, pl + 1) else (0, 20, pl)
theorem cnext_any {w : World} {R : Nat} {a : Option Addr} {n cp : Nat} {bs : List Int} {pl : Nat} {err : Int} (h : Rd w R a n cp bs pl err) :
    Calls Tryz.prog 140 #[.pointer (some ⟨R, 0, none⟩)] w fun e w' => e = .returned (.tuple #[.int .u8 (nextA bs pl).1, .int .i64 (nextA bs pl).2.1]) ∧ Rd w' R a n cp bs (nextA bs pl).2.2 err ∧ w.grownBy w' (some R) := by
  have CL := cleft_any h
  have HR := hide h
  have HL : Hid (bs.length = n) := h.sq.length
  have hpl := h.place
  have hro := h.room
  clear h
  by_cases h1 : pl < n
  · have HV : Hid (nextA bs pl = (bs[pl]?.getD 0, 0, pl + 1)) := if_pos (by rw [HL.out]; exact h1)
    have i1 : (((n - pl : Nat) : Int) == 0) = false := by simp; omega
    have CL := hide CL
    go_enter Tryz.func140, Tryz.ntmps140
    go_wp2_with fail
    refine CL.out.mono ?_
    rintro e w1 ⟨rfl, m, ew⟩
    have H' := hide (HR.out.drewN m)
    have G' := hide (grown_drewN w m (some R))
    rw [← ew] at H' G'
    clear ew
    have c0 := H'.out.c0
    have c1 := H'.out.c1
    have f1 := H'.out.f1
    obtain ⟨b, off, ea, hc⟩ := H'.out.sq.cells (by omega)
    have d := hc pl h1
    obtain ⟨c, ec⟩ : ∃ c, c = bs[pl]?.getD 0 := ⟨_, rfl⟩
    rw [← ec] at d
    rw [ea] at c0
    have EC := hide ec
    clear ec hc ea
    have i2 : (pl : Int) < (n : Int) := by omega
    go_wp2_with fail
    go_quiet (fail)
    go_wp2_with fail
    go_ret2
    rw [HV.out]
    have e1 : (pl : Int) + 1 = ((pl + 1 : Nat) : Int) := by omega
    refine ⟨ret2 EC.out rfl, ?_, ?_⟩
    · rw [e1]
      exact (H'.out.drewN _).moved (pl + 1) (by omega)
    · exact World.grownBy.trans G'.out (World.grownBy.trans (grown_drewN _ _ _) (grown_setCell _ _ _ _))
  · have HV : Hid (nextA bs pl = (0, 20, pl)) := if_neg (by rw [HL.out]; exact h1)
    obtain rfl : pl = n := by omega
    rw [Nat.sub_self] at CL
    have CL := hide CL
    go_enter Tryz.func140, Tryz.ntmps140
    go_wp2_with fail
    refine CL.out.mono ?_
    rintro e w1 ⟨rfl, m, rfl⟩
    go_wp2_with fail
    go_ret2
    rw [HV.out]
    exact ⟨rfl, HR.out.drewN m, grown_drewN w m _⟩
end Go.Proofs.YthklpkmdmkgjiaaGreat

namespace Go.Proofs.YthklpkmdmkgjiaaGreat
namespace Cm
set_option linter.unusedVariables false

theorem pow_next (k : Nat) : 2 ^ (7 * (k + 1)) = 128 * 2 ^ (7 * k) := by rw [Nat.mul_add, Nat.pow_add, Nat.mul_comm]

theorem numG_numF : ∀ (f k x acc : Nat) (rest : List Int), f + k = 9 → (0 < k → 0 < x) → x * 2 ^ (7 * k) < 18446744073709551616 →
    numG (numF f x ++ rest) k acc = ⟨acc + x * 2 ^ (7 * k), k + (numF f x).length, 0⟩
  | 0, k, x, acc, rest, hk, h0, hx => by
    obtain rfl : k = 9 := by omega
    have hx1 : x ≤ 1 := by
      have : x * 9223372036854775808 < 18446744073709551616 := hx
      omega
    have hx0 := h0 (by omega)
    show numG ((x : Int) :: rest) 9 acc = _
    rw [numG_done _ _ _ _ (by omega) (by omega)]
    rw [show ((x : Int) % 128).toNat = x by omega]
    rfl
  | f + 1, k, x, acc, rest, hk, h0, hx => by
    by_cases h : x ≤ 127
    · rw [numF_end _ _ h]
      show numG ((x : Int) :: rest) k acc = _
      rw [numG_done _ _ _ _ (by omega) (by omega)]
      rw [show ((x : Int) % 128).toNat = x by omega]
      rfl
    · rw [numF_more _ _ h]
      show numG (((x : Int) % 128 + 128) :: (numF f (x / 128) ++ rest)) k acc = _
      rw [numG_more _ _ _ _ (by omega) (by omega)]
      have hd : x = x % 128 + 128 * (x / 128) := (Nat.mod_add_div x 128).symm
      have hx' : x / 128 * 2 ^ (7 * (k + 1)) < 18446744073709551616 := by
        rw [pow_next, ← Nat.mul_assoc]
        exact Nat.lt_of_le_of_lt (Nat.mul_le_mul_right _ (by omega)) hx
      rw [numG_numF f (k + 1) (x / 128) _ rest (by omega) (fun _ => by omega) hx']
      rw [show (((x : Int) % 128 + 128) % 128).toNat = x % 128 by omega]
      rw [pow_next]
      have e : acc + x % 128 * 2 ^ (7 * k) + x / 128 * (128 * 2 ^ (7 * k)) = acc + x * 2 ^ (7 * k) := by
        generalize 2 ^ (7 * k) = P
        have : x * P = (x % 128 + 128 * (x / 128)) * P := by rw [← hd]
        rw [this, Nat.add_mul, Nat.add_assoc, Nat.mul_comm 128 (x / 128), Nat.mul_assoc]
      rw [e]
      simp
      omega

/-- a number's bytes are read as it, whatever stands behind them -/
theorem numG_numB (v : Nat) (hv : v < 18446744073709551616) (rest : List Int) : numG (numB v ++ rest) 0 0 = ⟨v, (numB v).length, 0⟩ := by
  have := numG_numF 9 0 v 0 rest rfl (fun h => absurd h (by omega)) (by simpa using hv)
  rw [show numB v = numF 9 v from rfl, this]
  simp

theorem numF_numG : ∀ (r : List Int) (k acc : Nat), k ≤ 9 → (∀ x ∈ r, 0 ≤ x ∧ x ≤ 255) → (numG r k acc).e = 0 →
    ∃ x, (numG r k acc).v = acc + x * 2 ^ (7 * k) ∧ r.take ((numG r k acc).used - k) = numF (9 - k) x ∧ (0 < k → 0 < x)
  | [], k, acc, _, _, h => absurd (show (20 : Int) = 0 from h) (by decide)
  | c :: r, k, acc, hk, hb, h => by
    have hc := hb c (by simp)
    by_cases h1 : (k = 9 ∧ 1 < c) ∨ (0 < k ∧ c = 0)
    · rw [numG_form _ _ _ _ h1] at h; exact absurd h (by decide)
    · by_cases h2 : c < 128
      · rw [numG_done _ _ _ _ h1 h2]
        refine ⟨c.toNat, ?_, ?_, fun h => by omega⟩
        · show acc + (c % 128).toNat * _ = _
          rw [show (c % 128).toNat = c.toNat by omega]
        · show (c :: r).take (k + 1 - k) = _
          rw [Nat.add_sub_cancel_left, numF_end _ _ (by omega)]
          show [c] = [((c.toNat : Nat) : Int)]
          rw [Int.toNat_of_nonneg hc.1]
      · rw [numG_more _ _ _ _ h1 h2] at h ⊢
        have hk8 : k ≤ 8 := by omega
        obtain ⟨x, e1, e2, e3⟩ := numF_numG r (k + 1) _ (by omega) (fun y hy => hb y (by simp [hy])) h
        have hu := (numG_used _ _ _ h).1
        have hx := e3 (by omega)
        have hcn : (c % 128).toNat = (c - 128).toNat := by omega
        refine ⟨(c - 128).toNat + 128 * x, ?_, ?_, fun _ => by omega⟩
        · rw [e1, hcn, pow_next]
          generalize 2 ^ (7 * k) = P
          rw [Nat.add_mul, Nat.add_assoc, Nat.mul_comm 128 x, Nat.mul_assoc]
        · obtain ⟨u, eu⟩ : ∃ u, (numG r (k + 1) (acc + (c % 128).toNat * 2 ^ (7 * k))).used = u + (k + 1) := ⟨_, (Nat.sub_add_cancel (by omega)).symm⟩
          rw [eu] at e2 ⊢
          rw [Nat.add_sub_cancel] at e2
          rw [show u + (k + 1) - k = u + 1 by omega, List.take_succ_cons, e2, show 9 - k = (9 - (k + 1)) + 1 by omega, numF_more _ _ (by omega)]
          rw [show ((c - 128).toNat + 128 * x) / 128 = x by omega]
          congr 1
          omega

/-- what is read as a number, written again, is these bytes -/
theorem numB_numG (r : List Int) (hb : ∀ x ∈ r, 0 ≤ x ∧ x ≤ 255) (h : (numG r 0 0).e = 0) : r.take (numG r 0 0).used = numB (numG r 0 0).v := by
  obtain ⟨x, e1, e2, _⟩ := numF_numG r 0 0 (by omega) hb h
  rw [Nat.sub_zero] at e2
  rw [e2, e1]
  simp [numB]

theorem zag_zig (n : Int) : zag (zig n) = n := by
  unfold zag
  by_cases h : 0 ≤ n
  · rw [zig_up _ h, if_neg (by omega)]; omega
  · rw [zig_down _ h, if_pos (by omega)]; omega
theorem zig_zag (v : Nat) : zig (zag v) = v := by
  by_cases h : v % 2 = 1
  · have e : zag v = -((v / 2 : Nat) : Int) - 1 := if_pos h
    rw [e, zig_down _ (by omega)]; omega
  · have e : zag v = ((v / 2 : Nat) : Int) := if_neg h
    rw [e, zig_up _ (by omega)]; omega
theorem zig_lt (n : Int) (h1 : -9223372036854775808 ≤ n) (h2 : n ≤ 9223372036854775807) : zig n < 18446744073709551616 := by
  by_cases h : 0 ≤ n
  · rw [zig_up _ h]; omega
  · rw [zig_down _ h]; omega
theorem numB_length (v : Nat) : 1 ≤ (numB v).length ∧ (numB v).length ≤ 10 := numF_length 9 v
end Cm
end Go.Proofs.YthklpkmdmkgjiaaGreat

namespace Go.Proofs.YthklpkmdmkgjiaaGreat
namespace Wm
open Cm
set_option linter.unusedVariables false

/-- a plain field: its kind (0 an int, 1 a uint32, 2 a bool, 3 a string, 4 a list of bytes), its number (of a bool 0 or 1), its bytes -/
structure Atom where
  k : Nat
  z : Int
  bs : List Int
def atomB (a : Atom) : List Int := if a.k = 0 then numB (zig a.z) else if a.k = 1 then numB a.z.toNat else if a.k = 2 then [a.z] else numB a.bs.length ++ a.bs
def atomFit (a : Atom) : Bool := decide (a.k ≤ 2) || decide (a.bs.length ≤ 65535)
/-- a field as it is written: its bytes, and whether it may be written -/
structure Fld where
  bytes : List Int
  fit : Bool
def fldA (a : Atom) : Fld := ⟨atomB a, atomFit a⟩
def fldN (n : Nat) : Fld := ⟨numB n, decide (n ≤ 1024)⟩
def flds (xs : List Atom) : List Fld := xs.map fldA
def bytesOf (fs : List Fld) : List Int := (fs.map Fld.bytes).flatten
def okAll (fs : List Fld) : Bool := fs.all Fld.fit && decide ((bytesOf fs).length ≤ 65536)
def listF {α : Type} (f : α → List Fld) (xs : List α) : List Fld := fldN xs.length :: (xs.map f).flatten

theorem flds_nil : flds [] = [] := rfl
theorem flds_append (xs ys : List Atom) : flds (xs ++ ys) = flds xs ++ flds ys := List.map_append
theorem bytesOf_nil : bytesOf [] = [] := rfl
theorem bytesOf_append (fs gs : List Fld) : bytesOf (fs ++ gs) = bytesOf fs ++ bytesOf gs := by simp [bytesOf]
theorem bytesOf_one (f : Fld) : bytesOf [f] = f.bytes := by simp [bytesOf]
theorem okAll_nil : okAll [] = true := by decide
theorem okAll_snoc (fs : List Fld) (f : Fld) : okAll (fs ++ [f]) = (okAll fs && f.fit && decide ((bytesOf fs).length + f.bytes.length ≤ 65536)) := by
  unfold okAll
  rw [bytesOf_append, bytesOf_one, List.all_append, List.length_append]
  rw [Bool.eq_iff_iff]
  simp
  intros
  omega
theorem okAll_left (fs gs : List Fld) (h : okAll fs = false) : okAll (fs ++ gs) = false := by
  cases h2 : okAll (fs ++ gs) with
  | false => rfl
  | true =>
    unfold okAll at h h2
    rw [bytesOf_append, List.all_append, List.length_append] at h2
    simp at h2
    have : (fs.all Fld.fit && decide ((bytesOf fs).length ≤ 65536)) = true := by
      simp
      exact ⟨h2.1.1, by omega⟩
    rw [this] at h
    exact h
theorem okAll_le {fs : List Fld} (h : okAll fs = true) : (bytesOf fs).length ≤ 65536 := by
  unfold okAll at h
  simp at h
  exact h.2
theorem okAll_fit {fs gs : List Fld} {f : Fld} (h : f.fit = false) : okAll (fs ++ f :: gs) = false := by
  rw [show fs ++ f :: gs = (fs ++ [f]) ++ gs by simp]
  exact okAll_left _ _ (by rw [okAll_snoc, h]; simp)

/-- what a thing's bytes are, and its fault -/
def wBytes (fs : List Fld) : List Int := if okAll fs then bytesOf fs else []
def wErr (fs : List Fld) : Int := if okAll fs then 0 else 22
theorem wBytes_ok {fs : List Fld} (h : okAll fs = true) : wBytes fs = bytesOf fs := by unfold wBytes; rw [h]; rfl
theorem wBytes_no {fs : List Fld} (h : okAll fs = false) : wBytes fs = [] := by unfold wBytes; rw [h]; rfl
theorem wErr_ok {fs : List Fld} (h : okAll fs = true) : wErr fs = 0 := by unfold wErr; rw [h]; rfl
theorem wErr_no {fs : List Fld} (h : okAll fs = false) : wErr fs = 22 := by unfold wErr; rw [h]; rfl
theorem wBytes_le (fs : List Fld) : (wBytes fs).length ≤ 65536 := by
  cases h : okAll fs with
  | false => rw [wBytes_no h]; exact Nat.zero_le _
  | true => rw [wBytes_ok h]; exact okAll_le h

def atomA (bs : List Int) (k : Nat) (s : St) : Ans Atom :=
  if k = 0 then ⟨⟨0, (intA bs s).v, []⟩, (intA bs s).s⟩
  else if k = 1 then (if 4294967295 < (numA bs s).v then ⟨⟨1, 0, []⟩, ⟨s.pl, 21⟩⟩ else ⟨⟨1, ((numA bs s).v : Int), []⟩, (numA bs s).s⟩)
  else if k = 2 then ⟨⟨2, if (flagA bs s).v then 1 else 0, []⟩, (flagA bs s).s⟩
  else ⟨⟨k, 0, (textA bs 65535 s).v⟩, (textA bs 65535 s).s⟩
def flatA (bs : List Int) : List Nat → St → Ans (List Atom)
  | [], s => ⟨[], s⟩
  | k :: ks, s => ⟨(atomA bs k s).v :: (flatA bs ks (atomA bs k s).s).v, (flatA bs ks (atomA bs k s).s).s⟩
def timesA {α : Type} (item : St → Ans α) : Nat → St → Ans (List α)
  | 0, s => ⟨[], s⟩
  | n + 1, s => ⟨(item s).v :: (timesA item n (item s).s).v, (timesA item n (item s).s).s⟩
def listA {α : Type} (bs : List Int) (item : St → Ans α) (s : St) : Ans (List α) := timesA item (countA bs 1024 s).v (countA bs 1024 s).s

theorem intA_stuck (bs : List Int) (s : St) (h : ¬ s.err = 0) : (intA bs s).s = s := by unfold intA; rw [numA_fault _ _ h]
theorem flagA_stuck (bs : List Int) (s : St) (h : ¬ s.err = 0) : (flagA bs s).s = s := by
  rw [flagA_good _ _ (by rw [byteA_fault _ _ h]; exact (show ¬ (1 : Int) < 0 by decide)), byteA_fault _ _ h]
theorem countA_stuck (bs : List Int) (most : Int) (s : St) (h : ¬ s.err = 0) : countA bs most s = ⟨0, s⟩ := by
  rw [countA_good _ _ _ (by rw [numA_fault _ _ h]; show ¬ _ < ((0 : Nat) : Int); omega), numA_fault _ _ h]
theorem textA_stuck (bs : List Int) (most : Int) (s : St) (h : ¬ s.err = 0) : textA bs most s = ⟨[], s⟩ := by
  have e := countA_stuck bs most s h
  rw [textA_fault _ _ _ (by rw [e]; exact h), e]
theorem atomA_stuck (bs : List Int) (k : Nat) (s : St) (h : ¬ s.err = 0) : (atomA bs k s).s = s := by
  unfold atomA
  split
  · exact intA_stuck bs s h
  · split
    · rw [numA_fault _ _ h, if_neg (show ¬ 4294967295 < 0 by omega)]
    · split
      · exact flagA_stuck bs s h
      · rw [textA_stuck _ _ _ h]
theorem flatA_stuck (bs : List Int) : ∀ (ks : List Nat) (s : St), ¬ s.err = 0 → (flatA bs ks s).s = s
  | [], s, _ => rfl
  | k :: ks, s, h => by
    show (flatA bs ks (atomA bs k s).s).s = s
    rw [atomA_stuck _ _ _ h]
    exact flatA_stuck bs ks s h
theorem timesA_stuck {α : Type} (item : St → Ans α) (hi : ∀ s, ¬ s.err = 0 → (item s).s = s) : ∀ (n : Nat) (s : St), ¬ s.err = 0 → (timesA item n s).s = s
  | 0, s, _ => rfl
  | n + 1, s, h => by
    show (timesA item n (item s).s).s = s
    rw [hi _ h]
    exact timesA_stuck item hi n s h
theorem listA_stuck {α : Type} (bs : List Int) (item : St → Ans α) (s : St) (h : ¬ s.err = 0) : (listA bs item s).s = s := by
  unfold listA
  rw [countA_stuck _ _ _ h]
  rfl
theorem flatA_append (bs : List Int) : ∀ (ks ls : List Nat) (s : St), flatA bs (ks ++ ls) s = ⟨(flatA bs ks s).v ++ (flatA bs ls (flatA bs ks s).s).v, (flatA bs ls (flatA bs ks s).s).s⟩
  | [], ls, s => rfl
  | k :: ks, ls, s => by
    show (⟨_ :: (flatA bs (ks ++ ls) _).v, (flatA bs (ks ++ ls) _).s⟩ : Ans (List Atom)) = _
    rw [flatA_append bs ks ls]
    rfl
theorem flatA_length (bs : List Int) : ∀ (ks : List Nat) (s : St), (flatA bs ks s).v.length = ks.length
  | [], s => rfl
  | k :: ks, s => by show (flatA bs ks _).v.length + 1 = _; rw [flatA_length bs ks]; rfl
theorem timesA_snoc {α : Type} (item : St → Ans α) : ∀ (n : Nat) (s : St), timesA item (n + 1) s = ⟨(timesA item n s).v ++ [(item (timesA item n s).s).v], (item (timesA item n s).s).s⟩
  | 0, s => rfl
  | n + 1, s => by
    show (⟨(item s).v :: (timesA item (n + 1) (item s).s).v, (timesA item (n + 1) (item s).s).s⟩ : Ans (List α)) = _
    rw [timesA_snoc item n]
    rfl
theorem timesA_length {α : Type} (item : St → Ans α) : ∀ (n : Nat) (s : St), (timesA item n s).v.length = n
  | 0, s => rfl
  | n + 1, s => by show (timesA item n _).v.length + 1 = _; rw [timesA_length item n]
/-- once at fault, for ever -/
theorem err_back {α : Type} (item : St → Ans α) (hi : ∀ s, ¬ s.err = 0 → (item s).s = s) (s : St) (h : (item s).s.err = 0) : s.err = 0 :=
  Decidable.by_contra fun h' => by rw [hi s h'] at h; exact h' h
end Wm
end Go.Proofs.YthklpkmdmkgjiaaGreat

namespace Go.Proofs.YthklpkmdmkgjiaaGreat
open Go.ChangeShapes Go.WideShapes Go.ChangeAt Go.RowKit B8 Cm Wm
set_option linter.unusedVariables false

/-- blocks that are not the clerk's (S) stay as they were; the clerk's are those that it had, or new ones -/
structure Stq (S : World → Nat → Prop) (w w' : World) : Prop where
  os : w'.os = w.os
  tape : w'.tape = w.tape
  output : w'.output = w.output
  size : w.heap.size ≤ w'.heap.size
  block : ∀ k, k < w.heap.size → ¬ S w k → w'.heap[k]? = w.heap[k]?
  own : ∀ k, S w' k → S w k ∨ w.heap.size ≤ k

/-- likewise, but for the cells from lo on, up to hi, of the block M -/
structure Stp (S : World → Nat → Prop) (M lo hi : Nat) (w w' : World) : Prop where
  os : w'.os = w.os
  tape : w'.tape = w.tape
  output : w'.output = w.output
  size : w.heap.size ≤ w'.heap.size
  block : ∀ k, k < w.heap.size → ¬ S w k → k ≠ M → w'.heap[k]? = w.heap[k]?
  cell : ∀ o, ¬ (lo ≤ o ∧ o < hi) → w'.cell? ⟨M, o, none⟩ = w.cell? ⟨M, o, none⟩
  frozen : ∀ o, w'.frozen? ⟨M, o, none⟩ = w.frozen? ⟨M, o, none⟩
  own : ∀ k, S w' k → S w k ∨ w.heap.size ≤ k

section
variable {S : World → Nat → Prop} {w w1 w2 : World} {M lo hi lo' hi' : Nat}
theorem Stq.refl (S : World → Nat → Prop) (w : World) : Stq S w w := ⟨rfl, rfl, rfl, Nat.le_refl _, fun _ _ _ => rfl, fun _ h => .inl h⟩
theorem Stq.keep (h : Stq S w w1) {k : Nat} (hk : k < w.heap.size) (hs : ¬ S w k) : ¬ S w1 k := fun hs1 => by
  rcases h.own k hs1 with h1 | h1
  · exact hs h1
  · omega
theorem Stq.trans (h : Stq S w w1) (g : Stq S w1 w2) : Stq S w w2 :=
  ⟨g.os.trans h.os, g.tape.trans h.tape, g.output.trans h.output, Nat.le_trans h.size g.size,
   fun k hk hs => (g.block k (Nat.lt_of_lt_of_le hk h.size) (h.keep hk hs)).trans (h.block k hk hs),
   fun k hs => by
    rcases g.own k hs with h1 | h1
    · exact h.own k h1
    · exact .inr (Nat.le_trans h.size h1)⟩
theorem Stp.keep (h : Stp S M lo hi w w1) {k : Nat} (hk : k < w.heap.size) (hs : ¬ S w k) : ¬ S w1 k := fun hs1 => by
  rcases h.own k hs1 with h1 | h1
  · exact hs h1
  · omega
theorem Stp.refl (S : World → Nat → Prop) (M lo hi : Nat) (w : World) : Stp S M lo hi w w := ⟨rfl, rfl, rfl, Nat.le_refl _, fun _ _ _ _ => rfl, fun _ _ => rfl, fun _ => rfl, fun _ h => .inl h⟩
theorem Stp.wider (h : Stp S M lo hi w w1) (h1 : lo' ≤ lo) (h2 : hi ≤ hi') : Stp S M lo' hi' w w1 :=
  ⟨h.os, h.tape, h.output, h.size, h.block, fun o ho => h.cell o (by omega), h.frozen, h.own⟩
theorem Stp.trans (h : Stp S M lo hi w w1) (g : Stp S M lo hi w1 w2) : Stp S M lo hi w w2 :=
  ⟨g.os.trans h.os, g.tape.trans h.tape, g.output.trans h.output, Nat.le_trans h.size g.size,
   fun k hk hs hM => (g.block k (Nat.lt_of_lt_of_le hk h.size) (h.keep hk hs) hM).trans (h.block k hk hs hM),
   fun o ho => (g.cell o ho).trans (h.cell o ho), fun o => (g.frozen o).trans (h.frozen o),
   fun k hs => by
    rcases g.own k hs with h1 | h1
    · exact h.own k h1
    · exact .inr (Nat.le_trans h.size h1)⟩
theorem Stq.to (h : Stq S w w1) (hM : M < w.heap.size) (hs : ¬ S w M) (lo hi : Nat) : Stp S M lo hi w w1 :=
  ⟨h.os, h.tape, h.output, h.size, fun k hk hs' _ => h.block k hk hs', fun o _ => World.cell?_of_block (w := w) (h.block M hM hs), fun o => World.frozen?_of_block (w := w) (h.block M hM hs), h.own⟩
/-- what was done at a block of the call's own is nothing to what was there -/
theorem Stp.inner (h : Stp S M lo hi w1 w2) (g : Stq S w w1) (hM : w.heap.size ≤ M) : Stq S w w2 :=
  ⟨h.os.trans g.os, h.tape.trans g.tape, h.output.trans g.output, Nat.le_trans g.size h.size,
   fun k hk hs => (h.block k (Nat.lt_of_lt_of_le hk g.size) (g.keep hk hs) (by omega)).trans (g.block k hk hs),
   fun k hs => by
    rcases h.own k hs with h1 | h1
    · exact g.own k h1
    · exact .inr (Nat.le_trans g.size h1)⟩
theorem Stp.below (h : Stp S M lo hi w w1) {B : Nat} (hB : B ≤ w.heap.size) (hS : ∀ k, S w k → B ≤ k) (hM : B ≤ M) : Below B w w1 :=
  ⟨h.os, h.tape, h.output, h.size, fun k hk => h.block k (by omega) (fun hs => by have := hS k hs; omega) (by omega)⟩
theorem Stq.below (h : Stq S w w1) {B : Nat} (hB : B ≤ w.heap.size) (hS : ∀ k, S w k → B ≤ k) : Below B w w1 :=
  ⟨h.os, h.tape, h.output, h.size, fun k hk => h.block k (by omega) (fun hs => by have := hS k hs; omega)⟩
end

/-- a block that neither the clerk nor the walk over M writes -/
def Out (S : World → Nat → Prop) (M : Nat) (w : World) (b : Nat) : Prop := b < w.heap.size ∧ ¬ S w b ∧ b ≠ M
theorem Stp.out {S : World → Nat → Prop} {M lo hi : Nat} {w w1 : World} (h : Stp S M lo hi w w1) {b : Nat} (hb : Out S M w b) : Out S M w1 b ∧ w1.heap[b]? = w.heap[b]? :=
  ⟨⟨Nat.lt_of_lt_of_le hb.1 h.size, h.keep hb.1 hb.2.1, hb.2.2⟩, h.block b hb.1 hb.2.1 hb.2.2⟩

/-- likewise, from the block B on -/
def OutB (B : Nat) (S : World → Nat → Prop) (M : Nat) (w : World) (b : Nat) : Prop := B ≤ b ∧ Out S M w b
theorem Stp.outB {B : Nat} {S : World → Nat → Prop} {M lo hi : Nat} {w w1 : World} (h : Stp S M lo hi w w1) {b : Nat} (hb : OutB B S M w b) : OutB B S M w1 b ∧ w1.heap[b]? = w.heap[b]? :=
  ⟨⟨hb.1, (h.out hb.2).1⟩, (h.out hb.2).2⟩

/-- a block whose cells may be written -/
def Free (w : World) (b : Nat) : Prop := ∃ cur t, w.heap[b]? = some (.cells cur t (0, 0))
theorem Free.same {w w1 : World} {b : Nat} (h : Free w b) (e : w1.heap[b]? = w.heap[b]?) : Free w1 b := by
  obtain ⟨cur, t, h⟩ := h
  exact ⟨cur, t, e.trans h⟩
theorem Free.frozen {w : World} {b : Nat} (h : Free w b) (o : Nat) : w.frozen? ⟨b, o, none⟩ = false := by
  obtain ⟨cur, t, h⟩ := h
  exact frozen_of_row w b o cur t h
/-- likewise, and it may be written -/
def OutF (B : Nat) (S : World → Nat → Prop) (M : Nat) (w : World) (b : Nat) : Prop := B ≤ b ∧ b < w.heap.size ∧ ¬ S w b ∧ b ≠ M ∧ Free w b
theorem Stp.outF {B : Nat} {S : World → Nat → Prop} {M lo hi : Nat} {w w1 : World} (h : Stp S M lo hi w w1) {b : Nat} (hb : OutF B S M w b) : OutF B S M w1 b ∧ w1.heap[b]? = w.heap[b]? := by
  have k := h.out (b := b) ⟨hb.2.1, hb.2.2.1, hb.2.2.2.1⟩
  exact ⟨⟨hb.1, k.1.1, k.1.2.1, k.1.2.2, hb.2.2.2.2.same k.2⟩, k.2⟩

/-- a string's bytes as numbers -/
def strB (s : ByteArray) : List Int := s.data.toList.map fun c => (c.toNat : Int)

/-- what a cell holds of a plain field -/
def AtomV (w : World) (P : Nat → Prop) (v : Value) (x : Atom) : Prop :=
  (x.k = 0 ∧ v = .int .i64 x.z ∧ -9223372036854775808 ≤ x.z ∧ x.z ≤ 9223372036854775807) ∨
  (x.k = 1 ∧ v = .int .u32 x.z ∧ 0 ≤ x.z ∧ x.z ≤ 4294967295) ∨
  (x.k = 2 ∧ ((v = .bool true ∧ x.z = 1) ∨ (v = .bool false ∧ x.z = 0))) ∨
  (x.k = 3 ∧ ∃ s : ByteArray, v = .string s ∧ x.bs = strB s ∧ x.bs.length ≤ 140737488351232) ∨
  (x.k = 4 ∧ ∃ a n cp, v = .slice a n cp ∧ Sq w a n cp x.bs ∧ n ≤ 140737488351232 ∧ ∀ b off, a = some ⟨b, off, none⟩ → 0 < n → P b)

theorem sq_same {w w' : World} {a : Option Addr} {n cp : Nat} {zs : List Int} (h : Sq w a n cp zs) (hb : ∀ b off, a = some ⟨b, off, none⟩ → 0 < n → w'.heap[b]? = w.heap[b]?) : Sq w' a n cp zs :=
  ⟨h.length, h.lecap, h.nil, fun h0 => by
    obtain ⟨b, off, e, hc⟩ := h.cells h0
    exact ⟨b, off, e, fun j hj => (World.cell?_of_block (w := w) (hb b off e h0)).trans (hc j hj)⟩, h.wf⟩
theorem AtomV.same {w w' : World} {P P' : Nat → Prop} {v : Value} {x : Atom} (h : AtomV w P v x) (hb : ∀ b, P b → P' b ∧ w'.heap[b]? = w.heap[b]?) : AtomV w' P' v x := by
  rcases h with h | h | h | h | ⟨h1, a, n, cp, h2, h3, h4, h5⟩
  · exact .inl h
  · exact .inr (.inl h)
  · exact .inr (.inr (.inl h))
  · exact .inr (.inr (.inr (.inl h)))
  · exact .inr (.inr (.inr (.inr ⟨h1, a, n, cp, h2, sq_same h3 (fun b off e h0 => (hb b (h5 b off e h0)).2), h4, fun b off e h0 => (hb b (h5 b off e h0)).1⟩)))

/-- plain fields from a place on -/
def FlatAt (w : World) (P : Nat → Prop) (M o : Nat) (xs : List Atom) : Prop := ∀ j x, xs[j]? = some x → ∃ v, w.cell? ⟨M, o + j, none⟩ = some v ∧ AtomV w P v x
/-- room for so many fields from a place on -/
def Room (w : World) (M o n : Nat) : Prop := ∀ j, j < n → (∃ v, w.cell? ⟨M, o + j, none⟩ = some v) ∧ w.frozen? ⟨M, o + j, none⟩ = false

section
variable {S : World → Nat → Prop} {w w1 : World} {M lo hi o n : Nat} {xs ys : List Atom} {P P' : Nat → Prop}
theorem FlatAt.left (h : FlatAt w P M o (xs ++ ys)) : FlatAt w P M o xs := fun j x hx => h j x (by rw [List.getElem?_append_left (List.getElem?_eq_some_iff.1 hx).1]; exact hx)
theorem FlatAt.right (h : FlatAt w P M o (xs ++ ys)) : FlatAt w P M (o + xs.length) ys := fun j x hx => by
  have := h (xs.length + j) x (by rw [List.getElem?_append_right (by omega)]; rw [show xs.length + j - xs.length = j by omega]; exact hx)
  rw [Nat.add_assoc]
  exact this
theorem FlatAt.append (h : FlatAt w P M o xs) (g : FlatAt w P M (o + xs.length) ys) : FlatAt w P M o (xs ++ ys) := fun j x hx => by
  by_cases hj : j < xs.length
  · rw [List.getElem?_append_left hj] at hx
    exact h j x hx
  · rw [List.getElem?_append_right (by omega)] at hx
    have := g (j - xs.length) x hx
    rw [show o + xs.length + (j - xs.length) = o + j by omega] at this
    exact this
theorem FlatAt.nil : FlatAt w P M o [] := fun j x hx => by simp at hx
theorem FlatAt.same (h : FlatAt w P M o xs) (hc : ∀ j, j < xs.length → w1.cell? ⟨M, o + j, none⟩ = w.cell? ⟨M, o + j, none⟩) (hb : ∀ b, P b → P' b ∧ w1.heap[b]? = w.heap[b]?) : FlatAt w1 P' M o xs := fun j x hx => by
  obtain ⟨v, h1, h2⟩ := h j x hx
  exact ⟨v, (hc j (List.getElem?_eq_some_iff.1 hx).1).trans h1, h2.same hb⟩
theorem FlatAt.step (h : FlatAt w (Out S M w) M o xs) (g : Stp S M lo hi w w1) (hd : hi ≤ o ∨ o + xs.length ≤ lo) : FlatAt w1 (Out S M w1) M o xs :=
  h.same (fun j hj => g.cell (o + j) (by omega)) (fun b hb => g.out hb)
theorem FlatAt.stepB {B : Nat} (h : FlatAt w (OutB B S M w) M o xs) (g : Stp S M lo hi w w1) (hd : hi ≤ o ∨ o + xs.length ≤ lo) : FlatAt w1 (OutB B S M w1) M o xs :=
  h.same (fun j hj => g.cell (o + j) (by omega)) (fun b hb => g.outB hb)
theorem FlatAt.stepF {B : Nat} (h : FlatAt w (OutF B S M w) M o xs) (g : Stp S M lo hi w w1) (hd : hi ≤ o ∨ o + xs.length ≤ lo) : FlatAt w1 (OutF B S M w1) M o xs :=
  h.same (fun j hj => g.cell (o + j) (by omega)) (fun b hb => g.outF hb)
theorem Room.step (h : Room w M o n) (g : Stp S M lo hi w w1) (hd : hi ≤ o ∨ o + n ≤ lo) : Room w1 M o n := fun j hj => by
  obtain ⟨⟨v, h1⟩, h2⟩ := h j hj
  exact ⟨⟨v, (g.cell (o + j) (by omega)).trans h1⟩, (g.frozen (o + j)).trans h2⟩
theorem Room.left {m : Nat} (h : Room w M o n) (hm : m ≤ n) : Room w M o m := fun j hj => h j (by omega)
theorem Room.part {a m : Nat} (h : Room w M o n) (hm : a + m ≤ n) : Room w M (o + a) m := fun j hj => by
  rw [Nat.add_assoc]
  exact h (a + j) (by omega)
end
end Go.Proofs.YthklpkmdmkgjiaaGreat

namespace Go.Proofs.YthklpkmdmkgjiaaGreat
open Go.ChangeShapes Go.WideShapes Go.ChangeAt Go.RowKit B8 Cm Wm
set_option linter.unusedVariables false

theorem strB_length (s : ByteArray) : (strB s).length = s.size := by unfold strB; simp
theorem strB_wfs (s : ByteArray) : wfs (strB s) := by
  intro j
  by_cases hj : j < (strB s).length
  · rw [List.getElem?_eq_getElem hj]
    have hm : (strB s)[j] ∈ strB s := List.getElem_mem hj
    obtain ⟨c, _, hc⟩ := List.mem_map.1 hm
    rw [Option.getD_some, ← hc]
    refine WalkArith.wf_u8 ?_
    have := c.toNat_lt
    omega
  · rw [List.getElem?_eq_none (Nat.le_of_not_lt hj)]
    decide
theorem string_bytes (w : World) (s : ByteArray) : ∃ c w', (convert 9 29 (.string s)).run Tryz.prog w = .ok (.slice (some ⟨w.heap.size, 0, none⟩) s.size c) w' ∧ Below w.heap.size w w' ∧ Sq w' (some ⟨w.heap.size, 0, none⟩) s.size c (strB s) := by
  refine ⟨_, _, run_bytes_of_string w 9 29 5 s Tryz.underlying9 Tryz.underlying29 Tryz.underlying5, (Below.alloc (Below.refl _ _).drew (Nat.le_refl _) _), strB_length s, grownCap_ge _ _ _ _, fun h => absurd h (by simp), fun h0 => ⟨_, _, rfl, fun j hj => ?_⟩, strB_wfs s⟩
  have hh : (w.drew.alloc (.cells (bytesRow s (grownCap w s.size 0 5)) 5 ((bytesRow s (grownCap w s.size 0 5)).size, (bytesRow s (grownCap w s.size 0 5)).size + 1))).cell? ⟨w.heap.size, 0 + j, none⟩ = (bytesRow s (grownCap w s.size 0 5))[j]? := by
    rw [Nat.zero_add]
    have : (w.drew.alloc (.cells (bytesRow s (grownCap w s.size 0 5)) 5 ((bytesRow s (grownCap w s.size 0 5)).size, (bytesRow s (grownCap w s.size 0 5)).size + 1))).heap[w.heap.size]? = some (.cells (bytesRow s (grownCap w s.size 0 5)) 5 ((bytesRow s (grownCap w s.size 0 5)).size, (bytesRow s (grownCap w s.size 0 5)).size + 1)) := heap_alloc_new w.drew _
    unfold World.cell?
    rw [this]
    rfl
  rw [hh]
  have hj' : j < s.data.size := hj
  unfold bytesRow strB
  rw [Array.getElem?_append_left (by simpa using hj')]
  rw [Array.getElem?_map, List.getElem?_map, Array.getElem?_toList, Array.getElem?_eq_getElem hj']
  rfl
/-- a string of numbers -/
theorem strB_of (xs : List Int) (h : wfs xs) : strB (strOfNums xs) = xs := by
  unfold strB strOfNums
  apply List.ext_getElem
  · simp
  · intro j h1 h2
    have hw := bounds_u8 (h j)
    rw [List.getElem?_eq_getElem h2] at hw
    simp at hw ⊢
    omega
theorem bytes_string {w : World} {a : Option Addr} {n cp : Nat} {xs : List Int} (h : Sq w a n cp xs) : (convert 29 9 (.slice a n cp)).run Tryz.prog w = .ok (.string (strOfNums xs)) w := by
  by_cases h0 : 0 < n
  · obtain ⟨b, off, rfl, hc⟩ := h.cells h0
    exact run_convert_bytes_arg w 29 5 Tryz.underlying29 Tryz.underlying5 b off n cp xs h.length (fun i hi => by rw [hc i hi]; rfl) 9 Tryz.underlying9
  · obtain rfl : n = 0 := by omega
    obtain rfl : xs = [] := List.eq_nil_of_length_eq_zero h.length
    cases a with
    | none => exact run_convert_bytes_nil w 29 5 Tryz.underlying29 Tryz.underlying5 0 cp 9 Tryz.underlying9
    | some ad =>
      obtain ⟨b, off, sp⟩ := ad
      rw [run_convert_bytes_string w 29 9 5 _ 0 cp Tryz.underlying29 Tryz.underlying5 Tryz.underlying9]
      have hl : (loadCells ⟨b, off, sp⟩ 0).run Tryz.prog w = .ok (([] : List Int).map (Value.int .u8)).toArray w := by
        have := run_loadCells_list (P := Tryz.prog) w ⟨b, off, sp⟩ [] (fun j v hj => by simp at hj)
        simpa using this
      rw [run_bytesToString w _ 0 cp [] hl]
      rfl
end Go.Proofs.YthklpkmdmkgjiaaGreat

namespace Go.Proofs.YthklpkmdmkgjiaaGreat
open Go.ChangeShapes Go.WideShapes Go.ChangeAt Go.RowKit B8 Cm Wm
set_option linter.unusedVariables false

/-- a row of cells holds these plain fields -/
def Vals (w : World) (P : Nat → Prop) (cs : Array Value) (xs : List Atom) : Prop := cs.size = xs.length ∧ ∀ (j : Nat) (x : Atom), xs[j]? = some x → ∃ v, cs[j]? = some v ∧ AtomV w P v x
theorem Vals.same {w w1 : World} {P P' : Nat → Prop} {cs : Array Value} {xs : List Atom} (h : Vals w P cs xs) (hb : ∀ b, P b → P' b ∧ w1.heap[b]? = w.heap[b]?) : Vals w1 P' cs xs :=
  ⟨h.1, fun j x hx => by obtain ⟨v, h1, h2⟩ := h.2 j x hx; exact ⟨v, h1, h2.same hb⟩⟩
def zeroA (k : Nat) : Atom := ⟨k, 0, []⟩
def zeroV (k : Nat) : Value := if k = 0 then .int .i64 0 else if k = 1 then .int .u32 0 else if k = 2 then .bool false else if k = 3 then .string ⟨#[]⟩ else .slice none 0 0
theorem atomV_zero (w : World) (P : Nat → Prop) (k : Nat) (hk : k ≤ 4) : AtomV w P (zeroV k) (zeroA k) := by
  match k, hk with
  | 0, _ => exact .inl ⟨rfl, rfl, by show -9223372036854775808 ≤ (0 : Int); omega, by show (0 : Int) ≤ 9223372036854775807; omega⟩
  | 1, _ => exact .inr (.inl ⟨rfl, rfl, by show (0 : Int) ≤ 0; omega, by show (0 : Int) ≤ 4294967295; omega⟩)
  | 2, _ => exact .inr (.inr (.inl ⟨rfl, .inr ⟨rfl, rfl⟩⟩))
  | 3, _ => exact .inr (.inr (.inr (.inl ⟨rfl, ⟨#[]⟩, rfl, rfl, by show 0 ≤ _; omega⟩)))
  | 4, _ => exact .inr (.inr (.inr (.inr ⟨rfl, none, 0, 0, rfl, ⟨rfl, Nat.le_refl _, fun _ => rfl, fun h => absurd h (by omega), wfs_nil⟩, by omega, fun b off e => by cases e⟩)))
theorem vals_zero (w : World) (P : Nat → Prop) (ks : List Nat) (hk : ∀ k ∈ ks, k ≤ 4) : Vals w P (ks.map zeroV).toArray (ks.map zeroA) := by
  refine ⟨by simp, fun j x hx => ?_⟩
  simp only [List.getElem?_map, Option.map_eq_some_iff] at hx
  obtain ⟨k, hk1, rfl⟩ := hx
  refine ⟨zeroV k, by simp [hk1], atomV_zero w P k (hk k (List.mem_of_getElem? hk1))⟩
theorem atomV_one {w : World} {P : Nat → Prop} {v : Value} {x : Atom} (h : AtomV w P v x) : v.oneCell' = true := by
  rcases h with h | h | ⟨_, h | h⟩ | ⟨_, s, h, _⟩ | ⟨_, a, n, cp, h, _⟩
  · rw [h.2.1]; rfl
  · rw [h.2.1]; rfl
  · rw [h.1]; rfl
  · rw [h.1]; rfl
  · rw [h]; rfl
  · rw [h]; rfl
theorem Vals.one {w : World} {P : Nat → Prop} {cs : Array Value} {xs : List Atom} (h : Vals w P cs xs) : cs.all (·.oneCell') = true := by
  rw [Array.all_eq_true_iff_forall_mem]
  intro v hv
  obtain ⟨j, hj, e⟩ := Array.getElem_of_mem hv
  have hjx : j < xs.length := by rw [← h.1]; exact hj
  obtain ⟨u, h1, h2⟩ := h.2 j _ (List.getElem?_eq_getElem hjx)
  rw [Array.getElem?_eq_getElem hj, e] at h1
  obtain rfl := Option.some.inj h1
  exact atomV_one h2

/-- a block's cells, as a row -/
theorem row_of_cells {w : World} {M N : Nat} (hN : 0 < N) (h : ∀ j, j < N → ∃ v, w.cell? ⟨M, j, none⟩ = some v) (h0 : w.cell? ⟨M, N, none⟩ = none) : ∃ cs t fr, w.heap[M]? = some (.cells cs t fr) ∧ cs.size = N := by
  obtain ⟨v, hv⟩ := h 0 hN
  cases hb : w.heap[M]? with
  | none => simp [World.cell?, hb] at hv
  | some ob =>
    cases ob with
    | cells cs t fr =>
      refine ⟨cs, t, fr, rfl, ?_⟩
      have hc : ∀ j, w.cell? ⟨M, j, none⟩ = cs[j]? := fun j => cell_of_row w M j cs t fr hb
      rw [hc N] at h0
      obtain ⟨u, hu⟩ := h (N - 1) (by omega)
      rw [hc] at hu
      have h1 := (Array.getElem?_eq_some_iff.1 hu).1
      have h2 : ¬ N < cs.size := fun h => by rw [Array.getElem?_eq_getElem h] at h0; cases h0
      omega
    | _ => simp [World.cell?, hb] at hv
theorem vals_of_flat {w : World} {P : Nat → Prop} {M : Nat} {cs : Array Value} {t : TypeId} {fr : Nat × Nat} {xs : List Atom} (hb : w.heap[M]? = some (.cells cs t fr)) (hs : cs.size = xs.length) (h : FlatAt w P M 0 xs) : Vals w P cs xs :=
  ⟨hs, fun j x hx => by
    obtain ⟨v, h1, h2⟩ := h j x hx
    rw [Nat.zero_add, cell_of_row w M j cs t fr hb] at h1
    exact ⟨v, h1, h2⟩⟩
theorem flat_of_vals {w : World} {P : Nat → Prop} {M : Nat} {cs : Array Value} {t : TypeId} {fr : Nat × Nat} {xs : List Atom} (hb : w.heap[M]? = some (.cells cs t fr)) (h : Vals w P cs xs) : FlatAt w P M 0 xs := fun j x hx => by
  obtain ⟨v, h1, h2⟩ := h.2 j x hx
  exact ⟨v, by rw [Nat.zero_add, cell_of_row w M j cs t fr hb]; exact h1, h2⟩

/-- a result in memory and one in a slot -/
theorem results_cell_tmp {P : Program} {fn : Func} {p q : Tmp} {ty : TypeId} (h : fn.results = #[.cell p ty, .tmp q]) (tmps : Array Value) (w : World) (g : Nat) (t : TypeId) (cs : Array Value) (fr : Nat × Nat) (d : TypeDesc) (x : Value)
    (hp : tmps.getD p undef = .pointer (some ⟨g, 0, none⟩)) (hq : tmps.getD q undef = x) (hg : w.heap[g]? = some (.cells cs t fr))
    (hu : P.underlying ty = some d) (hd : (match d with | .struct _ | .array _ _ => true | _ => false) = true) (hi : (P.info? ty).map (·.size) = some cs.size) :
    (results fn tmps).run P w = .ok (.tuple #[.agg cs, x]) w := by
  have hp' : tmps[p]?.getD undef = .pointer (some ⟨g, 0, none⟩) := by simpa using hp
  have hq' : tmps[q]?.getD undef = x := by simpa using hq
  simp [results, h, hp', hq', asAddr, run_loadVar_row w g t ty cs fr d hg hu hd hi]

/-- what a thing of these kinds is read as, and the fault -/
def tErr (ks : List Nat) (bs : List Int) : Int := if 65536 < bs.length then 22 else endA bs (flatA bs ks ⟨0, 0⟩).s
def tVal (ks : List Nat) (bs : List Int) : List Atom := if tErr ks bs = 0 then (flatA bs ks ⟨0, 0⟩).v else ks.map zeroA
theorem tErr_long {ks : List Nat} {bs : List Int} (h : 65536 < bs.length) : tErr ks bs = 22 := if_pos h
theorem tErr_short {ks : List Nat} {bs : List Int} (h : ¬ 65536 < bs.length) : tErr ks bs = endA bs (flatA bs ks ⟨0, 0⟩).s := if_neg h
theorem tVal_bad {ks : List Nat} {bs : List Int} (h : ¬ tErr ks bs = 0) : tVal ks bs = ks.map zeroA := if_neg h
theorem tVal_good {ks : List Nat} {bs : List Int} (h : tErr ks bs = 0) : tVal ks bs = (flatA bs ks ⟨0, 0⟩).v := if_pos h
theorem tVal_length (ks : List Nat) (bs : List Int) : (tVal ks bs).length = ks.length := by
  by_cases h : tErr ks bs = 0
  · rw [tVal_good h, flatA_length]
  · rw [tVal_bad h]; simp
theorem atomA_k (bs : List Int) (k : Nat) (s : St) (hk : k ≤ 4) : (atomA bs k s).v.k = k := by
  match k, hk with
  | 0, _ => rfl
  | 1, _ =>
    by_cases h : 4294967295 < (numA bs s).v
    · have e : atomA bs 1 s = ⟨⟨1, 0, []⟩, ⟨s.pl, 21⟩⟩ := if_pos h
      rw [e]
    · have e : atomA bs 1 s = ⟨⟨1, ((numA bs s).v : Int), []⟩, (numA bs s).s⟩ := if_neg h
      rw [e]
  | 2, _ => rfl
  | 3, _ => rfl
  | 4, _ => rfl
theorem flatA_kinds (bs : List Int) : ∀ (ks : List Nat) (s : St), (∀ k ∈ ks, k ≤ 4) → (flatA bs ks s).v.map Atom.k = ks
  | [], s, _ => rfl
  | k :: ks, s, h => by
    show (atomA bs k s).v.k :: (flatA bs ks _).v.map Atom.k = _
    rw [atomA_k bs k s (h k (by simp)), flatA_kinds bs ks _ (fun j hj => h j (by simp [hj]))]
theorem tVal_kinds (ks : List Nat) (bs : List Int) (h : ∀ k ∈ ks, k ≤ 4) : (tVal ks bs).map Atom.k = ks := by
  by_cases h1 : tErr ks bs = 0
  · rw [tVal_good h1]; exact flatA_kinds bs ks _ h
  · rw [tVal_bad h1, List.map_map]
    show ks.map (fun k => k) = ks
    simp
theorem endA_zero {bs : List Int} {s : St} (h : endA bs s = 0) : s.err = 0 := by
  unfold endA at h
  split at h
  · assumption
  · exact h
end Go.Proofs.YthklpkmdmkgjiaaGreat

namespace Go.Proofs.YthklpkmdmkgjiaaGreat
open Go.ChangeShapes Go.WideShapes Go.ChangeAt Go.RowKit B8 Cm Wm
set_option linter.unusedVariables false
set_option maxRecDepth 100000

/-- a row of cells that holds these plain fields, as a list -/
def FlatL (w : World) (cs : List Value) (xs : List Atom) : Prop := cs.length = xs.length ∧ ∀ (j : Nat) (x : Atom), xs[j]? = some x → ∃ v, cs[j]? = some v ∧ AtomV w (fun b => b < w.heap.size) v x
theorem fl_cons {w : World} {cs : List Value} {o n : Nat} {xs ys : List Atom} (h : FlatL w ((cs.drop o).take n) xs) (g : FlatL w (cs.drop (o + n)) ys) (hl : o + n ≤ cs.length) : FlatL w (cs.drop o) (xs ++ ys) := by
  have hn : ((cs.drop o).take n).length = n := by simp; omega
  have e : cs.drop o = (cs.drop o).take n ++ cs.drop (o + n) := by rw [← List.drop_drop]; exact (List.take_append_drop n (cs.drop o)).symm
  have hx : xs.length = n := by rw [← h.1, hn]
  refine ⟨by rw [e, List.length_append, List.length_append, h.1, g.1], fun j x hj => ?_⟩
  by_cases hjn : j < xs.length
  · rw [List.getElem?_append_left hjn] at hj
    obtain ⟨v, h1, h2⟩ := h.2 j x hj
    exact ⟨v, by rw [e, List.getElem?_append_left (by omega)]; exact h1, h2⟩
  · rw [List.getElem?_append_right (by omega)] at hj
    obtain ⟨v, h1, h2⟩ := g.2 _ x hj
    exact ⟨v, by rw [e, List.getElem?_append_right (by omega), hn]; rw [hx] at h1; exact h1, h2⟩
theorem fl_end {w : World} {cs : List Value} {o n : Nat} {xs : List Atom} (h : FlatL w ((cs.drop o).take n) xs) (hl : cs.length = o + n) : FlatL w (cs.drop o) xs := by
  rw [List.take_of_length_le (by simp; omega)] at h
  exact h
theorem fl_one {w : World} {v : Value} {x : Atom} (h : AtomV w (fun b => b < w.heap.size) v x) : FlatL w [v] [x] := ⟨rfl, fun j y hy => by
  match j, hy with
  | 0, hy => exact ⟨v, rfl, by simp at hy; rw [← hy]; exact h⟩⟩

/-- what is read is within the row's own bounds -/
def Light {H : Type} (t : TypeId) (d : DataW H) : Prop := ∀ n ∈ d.weights Tryz.prog t, n ≤ reachBytes
section
variable {H : Type} {enc : TypeId × Value → H} {W : World} {b0 : Nat} {held : Bool} {m : Nat} {cs : List Value} {y : DataW H × List MemPlace}
theorem rd_struct {t : TypeId} {fs : Array Field} (hu : Tryz.prog.underlying t = some (.struct fs)) (h : DataW.trod enc Tryz.prog W b0 (fun _ => true) held m t cs = some y) (hl : Light t y.1) :
    ∃ k, cs.length = Tryz.prog.cellsOf t ∧ ∀ (i : Nat) (f : Field), fs[i]? = some f → ∃ z : DataW H × List MemPlace, DataW.trod enc Tryz.prog W b0 (fun _ => true) held k f.type ((cs.drop f.offset).take (Tryz.prog.cellsOf f.type)) = some z ∧ Light f.type z.1 := by
  obtain ⟨xs, k, rfl, hy, hc, hx, hf⟩ := DataW.trod_struct hu h
  refine ⟨k, hc, fun i f hi => ?_⟩
  have hlt : i < xs.length := by rw [hx]; exact (Array.getElem?_eq_some_iff.1 hi).1
  refine ⟨xs[i], by rw [hf i f hi]; exact List.getElem?_eq_getElem hlt, fun n hn => hl n ?_⟩
  rw [hy]
  show n ∈ DataW.weights Tryz.prog t (.agg (xs.map (·.1)))
  simp only [DataW.weights, hu]
  exact DataW.weights_mem_each (j := i) (t := f.type) (d := xs[i].1) (by rw [List.getElem?_map]; simp [hi]) (by rw [List.getElem?_map, List.getElem?_eq_getElem hlt]; rfl) n hn
theorem rd_int {t : TypeId} (hu : Tryz.prog.underlying t = some (.int .i64)) (h : DataW.trod enc Tryz.prog W b0 (fun _ => true) held m t cs = some y) : ∃ x : Atom, FlatL W cs [x] ∧ x.k = 0 := by
  obtain ⟨n, rfl, _, hw⟩ := DataW.trod_int hu h
  exact ⟨⟨0, n, []⟩, fl_one (.inl ⟨rfl, rfl, bounds_i64 hw⟩), rfl⟩
theorem rd_u32 {t : TypeId} (hu : Tryz.prog.underlying t = some (.int .u32)) (h : DataW.trod enc Tryz.prog W b0 (fun _ => true) held m t cs = some y) : ∃ x : Atom, FlatL W cs [x] ∧ x.k = 1 := by
  obtain ⟨n, rfl, _, hw⟩ := DataW.trod_int hu h
  exact ⟨⟨1, n, []⟩, fl_one (.inr (.inl ⟨rfl, rfl, bounds_u32 hw⟩)), rfl⟩
theorem rd_bool {t : TypeId} (hu : Tryz.prog.underlying t = some .bool) (h : DataW.trod enc Tryz.prog W b0 (fun _ => true) held m t cs = some y) : ∃ x : Atom, FlatL W cs [x] ∧ x.k = 2 := by
  obtain ⟨b, rfl, _⟩ := DataW.trod_bool hu h
  cases b
  · exact ⟨⟨2, 0, []⟩, fl_one (.inr (.inr (.inl ⟨rfl, .inr ⟨rfl, rfl⟩⟩))), rfl⟩
  · exact ⟨⟨2, 1, []⟩, fl_one (.inr (.inr (.inl ⟨rfl, .inl ⟨rfl, rfl⟩⟩))), rfl⟩
theorem rd_str {t : TypeId} (hu : Tryz.prog.underlying t = some .string) (h : DataW.trod enc Tryz.prog W b0 (fun _ => true) held m t cs = some y) (hl : Light t y.1) : ∃ x : Atom, FlatL W cs [x] ∧ x.k = 3 := by
  obtain ⟨s, rfl, rfl, _⟩ := DataW.trod_string hu h
  have := hl s.data.toList.length (by simp [DataW.weights])
  refine ⟨⟨3, 0, strB s⟩, fl_one (.inr (.inr (.inr (.inl ⟨rfl, s, rfl, rfl, ?_⟩)))), rfl⟩
  show (strB s).length ≤ _
  unfold strB
  rw [List.length_map]
  exact this
theorem rd_bytes (h : DataW.trod enc Tryz.prog W b0 (fun _ => true) held m 29 cs = some y) (hl : Light 29 y.1) : ∃ x : Atom, FlatL W cs [x] ∧ x.k = 4 := by
  rcases open_ints Tryz.underlying29 Tryz.underlying5 (by kernel_rfl) h with ⟨rfl, _⟩ | ⟨a, len, cap, zs, rfl, _, hlc, _, hz, hy, hcell, hwz⟩
  · exact ⟨⟨4, 0, []⟩, fl_one (.inr (.inr (.inr (.inr ⟨rfl, none, 0, 0, rfl, ⟨rfl, Nat.le_refl _, fun _ => rfl, fun h => absurd h (by omega), wfs_nil⟩, by omega, fun b off e => by cases e⟩)))), rfl⟩
  · simp only [if_true] at hz
    have hw : (zs.length) * 1 ≤ reachBytes := by
      refine hl _ ?_
      rw [hy]
      show _ ∈ DataW.weights Tryz.prog 29 (.slice _ _)
      simp only [DataW.weights, Tryz.underlying29]
      rw [show Tryz.prog.bytesOf 5 = 1 from by kernel_rfl]
      refine List.mem_cons.2 (.inl ?_)
      simp [lits]
      omega
    have hq : Sq W (some a) len cap (zs.take len) := by
      refine ⟨by simp; omega, hlc, fun h => absurd h (by simp), fun h0 => ?_, ?_⟩
      · obtain ⟨b, off, spot⟩ := a
        have hc0 := hcell 0 (by omega)
        have hspot : spot = none := by simpa [Addr.add] using World.cell?_spot hc0
        subst hspot
        refine ⟨b, off, rfl, fun j hj => ?_⟩
        have := hcell j (by omega)
        rw [Addr.add_lit] at this
        simpa [List.getElem?_take, hj, List.getD] using this
      · intro j
        by_cases hj : j < (zs.take len).length
        · have hm : (zs.take len)[j] ∈ zs := List.mem_of_mem_take (List.getElem_mem hj)
          rw [List.getElem?_eq_getElem hj]; exact hwz _ hm
        · rw [List.getElem?_eq_none (Nat.le_of_not_lt hj)]
          decide
    refine ⟨⟨4, 0, zs.take len⟩, fl_one (.inr (.inr (.inr (.inr ⟨rfl, some a, len, cap, rfl, hq, ?_, fun b off e h0 => ?_⟩)))), rfl⟩
    · have : reachBytes = 140737488351232 := by decide
      omega
    · obtain ⟨b', off', e', hc⟩ := hq.cells h0
      rw [e] at e'
      cases e'
      exact World.block_lt_of_cell? W _ (hc 0 h0)
end

theorem cells_op : Tryz.prog.cellsOf 58 = 6 := by kernel_rfl
theorem rd_op {H : Type} {enc : TypeId × Value → H} {W : World} {b0 : Nat} {held : Bool} {m : Nat} {cs : List Value} {y : DataW H × List MemPlace} (h : DataW.trod enc Tryz.prog W b0 (fun _ => true) held m 58 cs = some y) (hl : Light 58 y.1) : ∃ xs : List Atom, FlatL W cs xs ∧ xs.map Atom.k = [0, 3, 3, 0, 0, 0] := by
  obtain ⟨k, hc, hf⟩ := rd_struct Tryz.underlying58 h hl
  rw [cells_op] at hc
  obtain ⟨z0, t0, g0⟩ := hf 0 _ rfl
  obtain ⟨x0, f0, k0⟩ := rd_int Tryz.underlying3 t0
  have f0 : FlatL W ((cs.drop 0).take 1) [x0] := f0
  obtain ⟨z1, t1, g1⟩ := hf 1 _ rfl
  obtain ⟨x1, f1, k1⟩ := rd_str Tryz.underlying9 t1 g1
  have f1 : FlatL W ((cs.drop 1).take 1) [x1] := f1
  obtain ⟨z2, t2, g2⟩ := hf 2 _ rfl
  obtain ⟨x2, f2, k2⟩ := rd_str Tryz.underlying9 t2 g2
  have f2 : FlatL W ((cs.drop 2).take 1) [x2] := f2
  obtain ⟨z3, t3, g3⟩ := hf 3 _ rfl
  obtain ⟨x3, f3, k3⟩ := rd_int Tryz.underlying3 t3
  have f3 : FlatL W ((cs.drop 3).take 1) [x3] := f3
  obtain ⟨z4, t4, g4⟩ := hf 4 _ rfl
  obtain ⟨x4, f4, k4⟩ := rd_int Tryz.underlying3 t4
  have f4 : FlatL W ((cs.drop 4).take 1) [x4] := f4
  obtain ⟨z5, t5, g5⟩ := hf 5 _ rfl
  obtain ⟨x5, f5, k5⟩ := rd_int Tryz.underlying3 t5
  have f5 : FlatL W ((cs.drop 5).take 1) [x5] := f5
  have e5 := fl_end (o := 5) f5 hc
  have e4 := fl_cons (o := 4) (n := 1) f4 e5 (by omega)
  have e3 := fl_cons (o := 3) (n := 1) f3 e4 (by omega)
  have e2 := fl_cons (o := 2) (n := 1) f2 e3 (by omega)
  have e1 := fl_cons (o := 1) (n := 1) f1 e2 (by omega)
  have e0 := fl_cons (o := 0) (n := 1) f0 e1 (by omega)
  rw [List.drop_zero] at e0
  exact ⟨_, e0, by simp [k0, k1, k2, k3, k4, k5]⟩

theorem cells_plan : Tryz.prog.cellsOf 28 = 7 := by kernel_rfl
theorem rd_plan {H : Type} {enc : TypeId × Value → H} {W : World} {b0 : Nat} {held : Bool} {m : Nat} {cs : List Value} {y : DataW H × List MemPlace} (h : DataW.trod enc Tryz.prog W b0 (fun _ => true) held m 28 cs = some y) (hl : Light 28 y.1) : ∃ xs : List Atom, FlatL W cs xs ∧ xs.map Atom.k = [0, 0, 0, 3, 3, 0, 0] := by
  obtain ⟨k, hc, hf⟩ := rd_struct Tryz.underlying28 h hl
  rw [cells_plan] at hc
  obtain ⟨z0, t0, g0⟩ := hf 0 _ rfl
  obtain ⟨x0, f0, k0⟩ := rd_int Tryz.underlying3 t0
  have f0 : FlatL W ((cs.drop 0).take 1) [x0] := f0
  obtain ⟨z1, t1, g1⟩ := hf 1 _ rfl
  obtain ⟨x1, f1, k1⟩ := rd_int Tryz.underlying3 t1
  have f1 : FlatL W ((cs.drop 1).take 1) [x1] := f1
  obtain ⟨z2, t2, g2⟩ := hf 2 _ rfl
  obtain ⟨x2, f2, k2⟩ := rd_int Tryz.underlying3 t2
  have f2 : FlatL W ((cs.drop 2).take 1) [x2] := f2
  obtain ⟨z3, t3, g3⟩ := hf 3 _ rfl
  obtain ⟨x3, f3, k3⟩ := rd_str Tryz.underlying9 t3 g3
  have f3 : FlatL W ((cs.drop 3).take 1) [x3] := f3
  obtain ⟨z4, t4, g4⟩ := hf 4 _ rfl
  obtain ⟨x4, f4, k4⟩ := rd_str Tryz.underlying9 t4 g4
  have f4 : FlatL W ((cs.drop 4).take 1) [x4] := f4
  obtain ⟨z5, t5, g5⟩ := hf 5 _ rfl
  obtain ⟨x5, f5, k5⟩ := rd_int Tryz.underlying3 t5
  have f5 : FlatL W ((cs.drop 5).take 1) [x5] := f5
  obtain ⟨z6, t6, g6⟩ := hf 6 _ rfl
  obtain ⟨x6, f6, k6⟩ := rd_int Tryz.underlying3 t6
  have f6 : FlatL W ((cs.drop 6).take 1) [x6] := f6
  have e6 := fl_end (o := 6) f6 hc
  have e5 := fl_cons (o := 5) (n := 1) f5 e6 (by omega)
  have e4 := fl_cons (o := 4) (n := 1) f4 e5 (by omega)
  have e3 := fl_cons (o := 3) (n := 1) f3 e4 (by omega)
  have e2 := fl_cons (o := 2) (n := 1) f2 e3 (by omega)
  have e1 := fl_cons (o := 1) (n := 1) f1 e2 (by omega)
  have e0 := fl_cons (o := 0) (n := 1) f0 e1 (by omega)
  rw [List.drop_zero] at e0
  exact ⟨_, e0, by simp [k0, k1, k2, k3, k4, k5, k6]⟩










end Go.Proofs.YthklpkmdmkgjiaaGreat

namespace Go.Proofs.YthklpkmdmkgjiaaGreat
open Go.ChangeShapes Go.WideShapes Go.ChangeAt Go.RowKit
set_option linter.unusedVariables false

/-- a whole row loaded by an operation whose guard says yes -/
theorem load_row_guarded {P : Program} {ops : Array Oper} {rest : List Oper} {o : Oper} {a : Act} {w : World} {Q : Exit → Act → World → Prop} (hw : Region.wanted o (yielded ops a.tmps) = true) (ty : TypeId) (x : Operand) (ho : o.op = .load ty x)
    (g : Nat) (hx : a.eval x = .pointer (some ⟨g, 0, none⟩)) (t : TypeId) (cs : Array Value) (fr : Nat × Nat) (d : TypeDesc) (hg : w.heap[g]? = some (.cells cs t fr))
    (hu : P.underlying ty = some d) (hd : (match d with | .struct _ | .array _ _ => true | _ => false) = true) (hi : (P.info? ty).map (·.size) = some cs.size)
    (h : wpList P ops Q rest (a.put o.dst (.agg cs)) w) : wpList P ops Q (o :: rest) a w := by
  show (if Region.wanted o (yielded ops a.tmps) then o.wp P a w (wpList P ops Q rest) Q ∨ (o.asks P a w ∧ LetsOut Q) else wpList P ops Q rest (a.put o.dst undef) w)
  rw [if_pos hw]
  exact .inl (wp_load_row ty x ho g hx t cs fr d hg hu hd hi h)
/-- a row laid over a block that was just made -/
theorem setRow_alloc (w : World) (old cs : Array Value) (t : TypeId) : (w.alloc (.cells old t)).setRow w.heap.size cs = w.alloc (.cells cs t) := by
  unfold World.setRow World.alloc
  congr 1
  apply Array.ext
  · simp
  · intro i h1 h2
    simp only [Array.getElem_modify, Array.getElem_push]
    by_cases h : w.heap.size = i
    · subst h
      simp
    · have hi : i < w.heap.size := by simp at h1; omega
      simp [h, hi]
end Go.Proofs.YthklpkmdmkgjiaaGreat

namespace Go.Proofs.YthklpkmdmkgjiaaGreat
namespace B8
open Go.ChangeShapes Go.WideShapes Go.ChangeAt Go.RowKit
set_option linter.unusedVariables false

theorem plain_none (a a' : Option Addr) (cap cap' : Nat) (w : World) :
    Calls Tryz.prog 21 #[.slice a 0 cap, .slice a' 0 cap'] w fun e w' => e = .returned (.bool true) ∧ ∃ n, w' = w.drewN n := by
  go_enter Tryz.func21, Tryz.ntmps21
  go_wp2_with fail
  refine wp_loop_rounds 1 ?_
  rw [rounds_succ]
  go_wp2_with fail
  go_ret
  exact ⟨rfl, 0, rfl⟩

theorem plain_some (b off cap b' off' cap' len : Nat) (zs : List Int) (w : World) (hm : len ≤ 140737488355328)
    (hc : ∀ j, j < len → w.cell? ⟨b, off + j, none⟩ = some (.int .u8 (zs[j]?.getD 0))) (hc' : ∀ j, j < len → w.cell? ⟨b', off' + j, none⟩ = some (.int .u8 (zs[j]?.getD 0))) :
    Calls Tryz.prog 21 #[.slice (some ⟨b, off, none⟩) len cap, .slice (some ⟨b', off', none⟩) len cap'] w fun e w' => e = .returned (.bool true) ∧ ∃ n, w' = w.drewN n := by
  have HC := hide hc
  have HC' := hide hc'
  clear hc hc'
  go_enter Tryz.func21, Tryz.ntmps21
  go_wp2_with fail
  go_loopw [5] (fun i wr => ∃ k n : Nat, k ≤ len ∧ i = .int .i64 k ∧ wr = w.drewN n) (fun i _ => len - (intOf i).toNat)
  case atStart => exact ⟨0, 0, Nat.zero_le _, rfl, rfl⟩
  case round =>
    obtain ⟨k, n, hk, rfl, rfl⟩ := hrel
    by_cases hlt : k < len
    · have h1 := HC.out k hlt
      have h2 := HC'.out k hlt
      have hi : (k : Int) < (len : Int) := by omega
      go_wp2_with fail
      go_quiet (fail)
      go_wp2_with fail
      go_roundw
      case rel => exact ⟨k + 1, _, by omega, by go_num, rfl⟩
      case measure => simp [intOf]; omega
    · go_wp2_with fail
      go_ret
      exact ⟨rfl, n, rfl⟩

theorem plain_sq {a a' : Option Addr} {len cap cap' : Nat} {zs : List Int} {w : World} (h : Sq w a len cap zs) (h' : Sq w a' len cap' zs) (hm : len ≤ 140737488355328) :
    Calls Tryz.prog 21 #[.slice a len cap, .slice a' len cap'] w fun e w' => e = .returned (.bool true) ∧ ∃ n, w' = w.drewN n := by
  by_cases h0 : 0 < len
  · obtain ⟨b, off, rfl, hc⟩ := h.cells h0
    obtain ⟨b', off', rfl, hc'⟩ := h'.cells h0
    exact plain_some b off cap b' off' cap' len zs w hm hc hc'
  · obtain rfl : len = 0 := by omega
    exact plain_none a a' cap cap' w

end B8
end Go.Proofs.YthklpkmdmkgjiaaGreat

namespace Go.Proofs.YthklpkmdmkgjiaaGreat
open Go.ChangeShapes Go.WideShapes Go.ChangeAt Go.RowKit B8 Cm
set_option linter.unusedVariables false

theorem numA_at (pre rest : List Int) (v : Nat) (hv : v < 18446744073709551616) : numA (pre ++ numB v ++ rest) ⟨pre.length, 0⟩ = ⟨v, ⟨pre.length + (numB v).length, 0⟩⟩ := by
  have h : numG ((pre ++ numB v ++ rest).drop pre.length) 0 0 = ⟨v, (numB v).length, 0⟩ := by
    rw [List.append_assoc, List.drop_left]
    exact numG_numB v hv rest
  rw [numA_good _ _ rfl (by show (numG (_ : List Int) 0 0).e = 0; rw [h])]
  show (⟨(numG _ 0 0).v, ⟨pre.length + (numG _ 0 0).used, 0⟩⟩ : Ans Nat) = _
  rw [h]
theorem intA_at (pre rest : List Int) (n : Int) (h1 : -9223372036854775808 ≤ n) (h2 : n ≤ 9223372036854775807) : intA (pre ++ numB (zig n) ++ rest) ⟨pre.length, 0⟩ = ⟨n, ⟨pre.length + (numB (zig n)).length, 0⟩⟩ := by
  unfold intA
  rw [numA_at pre rest (zig n) (zig_lt n h1 h2)]
  show (⟨zag (zig n), _⟩ : Ans Int) = _
  rw [zag_zig]
theorem textA_at (pre rest ts : List Int) (most : Int) (hm : (ts.length : Int) ≤ max 0 most) (hl : ts.length < 18446744073709551616) :
    textA (pre ++ (numB ts.length ++ ts) ++ rest) most ⟨pre.length, 0⟩ = ⟨ts, ⟨pre.length + (numB ts.length).length + ts.length, 0⟩⟩ := by
  have hn := numA_at pre (ts ++ rest) ts.length hl
  rw [show pre ++ numB ts.length ++ (ts ++ rest) = pre ++ (numB ts.length ++ ts) ++ rest by simp] at hn
  have hc : countA (pre ++ (numB ts.length ++ ts) ++ rest) most ⟨pre.length, 0⟩ = ⟨ts.length, ⟨pre.length + (numB ts.length).length, 0⟩⟩ := by
    rw [countA_good _ _ _ (by rw [hn]; exact Int.not_lt.2 hm), hn]
  rw [textA_good _ _ _ (by rw [hc]) (by rw [hc]; simp; omega), hc]
  show (⟨List.take _ (List.drop _ _), _⟩ : Ans (List Int)) = _
  congr 1
  rw [show pre ++ (numB ts.length ++ ts) ++ rest = (pre ++ numB ts.length) ++ (ts ++ rest) by simp, show pre.length + (numB ts.length).length = (pre ++ numB ts.length).length by simp, List.drop_left, List.take_left]
theorem flagA_at (pre : List Int) (f : Bool) : flagA (pre ++ [if f then 1 else 0]) ⟨pre.length, 0⟩ = ⟨f, ⟨pre.length + 1, 0⟩⟩ := by
  have hb : byteA (pre ++ [if f then 1 else 0]) ⟨pre.length, 0⟩ = ⟨if f then 1 else 0, ⟨pre.length + 1, 0⟩⟩ := by
    rw [byteA_good _ _ rfl (by simp)]
    simp
  rw [flagA_good _ _ (by rw [hb]; cases f; exact (show ¬ (1 : Int) < 0 by decide); exact (show ¬ (1 : Int) < 1 by decide)), hb]
  cases f <;> rfl

theorem bytes_sq {a a' : Option Addr} {len cap cap' : Nat} {zs : List Int} {w : World} (h : Sq w a len cap zs) (h' : Sq w a' len cap' zs) (hm : len ≤ 140737488355328) :
    Calls Tryz.prog 10 #[.slice a len cap, .slice a' len cap'] w fun e w' => e = .returned (.bool true) ∧ ∃ n, w' = w.drewN n := by
  have c := hide (plain_sq h h' hm)
  clear h h'
  go_enter Tryz.func10, Tryz.ntmps10
  go_wp2_with fail
  refine c.out.mono ?_
  rintro e w' ⟨rfl, n, rfl⟩
  go_wp2_with fail
  go_ret
  exact ⟨rfl, n, rfl⟩
end Go.Proofs.YthklpkmdmkgjiaaGreat

namespace Go.Proofs.YthklpkmdmkgjiaaGreat
open Go.ChangeShapes Go.WideShapes Go.ChangeAt Go.RowKit B8 Cm Wm
set_option linter.unusedVariables false

theorem strB_inj {s t : ByteArray} (h : strB s = strB t) : s = t := by
  unfold strB at h
  have : s.data.toList = t.data.toList := by
    apply List.ext_getElem?
    intro j
    have := congrArg (fun l => l[j]?) h
    simp only [List.getElem?_map] at this
    cases h1 : s.data.toList[j]? with
    | none => rw [h1] at this; cases h2 : t.data.toList[j]? with
      | none => rfl
      | some y => rw [h2] at this; cases this
    | some x => rw [h1] at this; cases h2 : t.data.toList[j]? with
      | none => rw [h2] at this; cases this
      | some y =>
        rw [h2] at this
        simp at this
        have e : x = y := UInt8.toNat_inj.1 (by omega)
        rw [e]
  cases s with
  | mk a => cases t with
    | mk b => simp at this; rw [this]

section
variable {w : World} {P P' : Nat → Prop} {cs cs' : Array Value} {xs : List Atom} {ks : List Nat}
theorem vals_at (h : Vals w P cs xs) (hk : xs.map Atom.k = ks) {j k : Nat} (hj : ks[j]? = some k) : ∃ x v, xs[j]? = some x ∧ x.k = k ∧ cs[j]? = some v ∧ AtomV w P v x := by
  rw [← hk, List.getElem?_map, Option.map_eq_some_iff] at hj
  obtain ⟨x, h1, h2⟩ := hj
  obtain ⟨v, h3, h4⟩ := h.2 j x h1
  exact ⟨x, v, h1, h2, h3, h4⟩
theorem pair_int (h : Vals w P cs xs) (h' : Vals w P' cs' xs) (hk : xs.map Atom.k = ks) (j : Nat) (hj : ks[j]? = some 0) : ∃ z : Int, cs[j]? = some (.int .i64 z) ∧ cs'[j]? = some (.int .i64 z) := by
  obtain ⟨x, v, e1, e2, e3, e4⟩ := vals_at h hk hj
  obtain ⟨v', e5, e6⟩ := h'.2 j x e1
  have o1 : v = .int .i64 x.z := by
    rcases e4 with g | g | g | g | g
    · exact g.2.1
    all_goals exact absurd e2 (by have := g.1; omega)
  have o2 : v' = .int .i64 x.z := by
    rcases e6 with g | g | g | g | g
    · exact g.2.1
    all_goals exact absurd e2 (by have := g.1; omega)
  exact ⟨x.z, by rw [e3, o1], by rw [e5, o2]⟩
theorem pair_u32 (h : Vals w P cs xs) (h' : Vals w P' cs' xs) (hk : xs.map Atom.k = ks) (j : Nat) (hj : ks[j]? = some 1) : ∃ z : Int, cs[j]? = some (.int .u32 z) ∧ cs'[j]? = some (.int .u32 z) := by
  obtain ⟨x, v, e1, e2, e3, e4⟩ := vals_at h hk hj
  obtain ⟨v', e5, e6⟩ := h'.2 j x e1
  have o1 : v = .int .u32 x.z := by
    rcases e4 with g | g | g | g | g
    · exact absurd e2 (by have := g.1; omega)
    · exact g.2.1
    all_goals exact absurd e2 (by have := g.1; omega)
  have o2 : v' = .int .u32 x.z := by
    rcases e6 with g | g | g | g | g
    · exact absurd e2 (by have := g.1; omega)
    · exact g.2.1
    all_goals exact absurd e2 (by have := g.1; omega)
  exact ⟨x.z, by rw [e3, o1], by rw [e5, o2]⟩
theorem pair_bool (h : Vals w P cs xs) (h' : Vals w P' cs' xs) (hk : xs.map Atom.k = ks) (j : Nat) (hj : ks[j]? = some 2) : ∃ b : Bool, cs[j]? = some (.bool b) ∧ cs'[j]? = some (.bool b) := by
  obtain ⟨x, v, e1, e2, e3, e4⟩ := vals_at h hk hj
  obtain ⟨v', e5, e6⟩ := h'.2 j x e1
  have o1 : v = .bool (decide (x.z = 1)) := by
    rcases e4 with g | g | g | g | g
    · exact absurd e2 (by have := g.1; omega)
    · exact absurd e2 (by have := g.1; omega)
    · rcases g.2 with ⟨g1, g2⟩ | ⟨g1, g2⟩ <;> rw [g1, g2] <;> rfl
    · exact absurd e2 (by have := g.1; omega)
    · exact absurd e2 (by have := g.1; omega)
  have o2 : v' = .bool (decide (x.z = 1)) := by
    rcases e6 with g | g | g | g | g
    · exact absurd e2 (by have := g.1; omega)
    · exact absurd e2 (by have := g.1; omega)
    · rcases g.2 with ⟨g1, g2⟩ | ⟨g1, g2⟩ <;> rw [g1, g2] <;> rfl
    · exact absurd e2 (by have := g.1; omega)
    · exact absurd e2 (by have := g.1; omega)
  exact ⟨_, by rw [e3, o1], by rw [e5, o2]⟩
theorem pair_str (h : Vals w P cs xs) (h' : Vals w P' cs' xs) (hk : xs.map Atom.k = ks) (j : Nat) (hj : ks[j]? = some 3) : ∃ s : ByteArray, cs[j]? = some (.string s) ∧ cs'[j]? = some (.string s) := by
  obtain ⟨x, v, e1, e2, e3, e4⟩ := vals_at h hk hj
  obtain ⟨v', e5, e6⟩ := h'.2 j x e1
  obtain ⟨s, o1, p1⟩ : ∃ s, v = .string s ∧ x.bs = strB s := by
    rcases e4 with g | g | g | g | g
    · exact absurd e2 (by have := g.1; omega)
    · exact absurd e2 (by have := g.1; omega)
    · exact absurd e2 (by have := g.1; omega)
    · obtain ⟨_, s, g1, g2, _⟩ := g; exact ⟨s, g1, g2⟩
    · exact absurd e2 (by have := g.1; omega)
  obtain ⟨s', o2, p2⟩ : ∃ s, v' = .string s ∧ x.bs = strB s := by
    rcases e6 with g | g | g | g | g
    · exact absurd e2 (by have := g.1; omega)
    · exact absurd e2 (by have := g.1; omega)
    · exact absurd e2 (by have := g.1; omega)
    · obtain ⟨_, s, g1, g2, _⟩ := g; exact ⟨s, g1, g2⟩
    · exact absurd e2 (by have := g.1; omega)
  obtain rfl := strB_inj (p1.symm.trans p2)
  exact ⟨s, by rw [e3, o1], by rw [e5, o2]⟩
theorem pair_bytes (h : Vals w P cs xs) (h' : Vals w P' cs' xs) (hk : xs.map Atom.k = ks) (j : Nat) (hj : ks[j]? = some 4) : ∃ a n cp a' cp' bs, cs[j]? = some (.slice a n cp) ∧ cs'[j]? = some (.slice a' n cp') ∧ Sq w a n cp bs ∧ Sq w a' n cp' bs ∧ n ≤ 140737488351232 := by
  obtain ⟨x, v, e1, e2, e3, e4⟩ := vals_at h hk hj
  obtain ⟨v', e5, e6⟩ := h'.2 j x e1
  obtain ⟨a, n, cp, o1, q1, l1⟩ : ∃ a n cp, v = .slice a n cp ∧ Sq w a n cp x.bs ∧ n ≤ 140737488351232 := by
    rcases e4 with g | g | g | g | g
    · exact absurd e2 (by have := g.1; omega)
    · exact absurd e2 (by have := g.1; omega)
    · exact absurd e2 (by have := g.1; omega)
    · exact absurd e2 (by have := g.1; omega)
    · obtain ⟨_, a, n, cp, g1, g2, g3, _⟩ := g; exact ⟨a, n, cp, g1, g2, g3⟩
  obtain ⟨a', n', cp', o2, q2, l2⟩ : ∃ a n cp, v' = .slice a n cp ∧ Sq w a n cp x.bs ∧ n ≤ 140737488351232 := by
    rcases e6 with g | g | g | g | g
    · exact absurd e2 (by have := g.1; omega)
    · exact absurd e2 (by have := g.1; omega)
    · exact absurd e2 (by have := g.1; omega)
    · exact absurd e2 (by have := g.1; omega)
    · obtain ⟨_, a, n, cp, g1, g2, g3, _⟩ := g; exact ⟨a, n, cp, g1, g2, g3⟩
  obtain rfl : n = n' := by rw [← q1.length, ← q2.length]
  exact ⟨a, n, cp, a', cp', x.bs, by rw [e3, o1], by rw [e5, o2], q1, q2, l1⟩
end
/-- two things boxed one behind the other -/
theorem box2_fst (w : World) (cs cs' : Array Value) (t : TypeId) (j : Nat) {v : Value} (h : cs[j]? = some v) : ((w.alloc (.cells cs t)).alloc (.cells cs' t)).cell? ⟨w.heap.size, j, none⟩ = some v := by
  rw [cell_of_row _ _ _ _ _ _ (heap_alloc2_old w _ _)]; exact h
theorem box2_snd (w : World) (cs cs' : Array Value) (t : TypeId) (j : Nat) {v : Value} (h : cs'[j]? = some v) : ((w.alloc (.cells cs t)).alloc (.cells cs' t)).cell? ⟨w.heap.size + 1, j, none⟩ = some v := by
  rw [cell_of_row _ _ _ _ _ _ (heap_alloc2_new w _ _)]; exact h
/-- a row laid into a result of the call's own -/
theorem lay_row {w u : World} {Z cs : Array Value} {T : TypeId} {xs : List Atom} (hu : u.heap[w.heap.size]? = some (.cells Z T)) (hb : Below w.heap.size w u) (hv : Vals u (fun b => w.heap.size < b ∧ b < u.heap.size) cs xs) :
    (u.setRow w.heap.size cs).heap[w.heap.size]? = some (.cells cs T) ∧ Vals (u.setRow w.heap.size cs) (fun b => w.heap.size ≤ b ∧ b < (u.setRow w.heap.size cs).heap.size) cs xs ∧ Below w.heap.size w (u.setRow w.heap.size cs) := by
  have hother : ∀ b, b ≠ w.heap.size → (u.setRow w.heap.size cs).heap[b]? = u.heap[b]? := fun b hb => by simp only [World.setRow, Array.getElem?_modify]; rw [if_neg (fun e => hb e.symm)]
  exact ⟨setRow_heap u _ _ cs _ _ hu, hv.same fun b hb => ⟨⟨by omega, by rw [size_setRow]; omega⟩, hother b (by omega)⟩, hb.os, hb.tape, hb.output, by rw [size_setRow]; exact hb.size, fun k hk => (hother k (by omega)).trans (hb.block k hk)⟩
theorem lay_row_free {w u : World} {Z cs : Array Value} {T : TypeId} {xs : List Atom} (hu : u.heap[w.heap.size]? = some (.cells Z T)) (hb : Below w.heap.size w u) (hv : Vals u (fun b => w.heap.size < b ∧ b < u.heap.size ∧ Free u b) cs xs) :
    (u.setRow w.heap.size cs).heap[w.heap.size]? = some (.cells cs T) ∧ Vals (u.setRow w.heap.size cs) (fun b => w.heap.size ≤ b ∧ b < (u.setRow w.heap.size cs).heap.size ∧ Free (u.setRow w.heap.size cs) b) cs xs ∧ Below w.heap.size w (u.setRow w.heap.size cs) := by
  have hother : ∀ b, b ≠ w.heap.size → (u.setRow w.heap.size cs).heap[b]? = u.heap[b]? := fun b hb => by simp only [World.setRow, Array.getElem?_modify]; rw [if_neg (fun e => hb e.symm)]
  exact ⟨setRow_heap u _ _ cs _ _ hu, hv.same fun b hb => ⟨⟨by omega, by rw [size_setRow]; omega, hb.2.2.same (hother b (by omega))⟩, hother b (by omega)⟩, hb.os, hb.tape, hb.output, by rw [size_setRow]; exact hb.size, fun k hk => (hother k (by omega)).trans (hb.block k hk)⟩
theorem Vals.anyF {w : World} {B : Nat} {cs : Array Value} {xs : List Atom} (h : Vals w (fun b => B ≤ b ∧ b < w.heap.size ∧ Free w b) cs xs) : Vals w (fun b => b < w.heap.size) cs xs := h.same fun b hl => ⟨hl.2.1, rfl⟩
theorem Vals.below {w w1 : World} {cs : Array Value} {xs : List Atom} (h : Vals w (fun b => b < w.heap.size) cs xs) (hb : Below w.heap.size w w1) : Vals w1 (fun b => b < w1.heap.size) cs xs := h.same fun b hl => ⟨Nat.lt_of_lt_of_le hl hb.size, hb.block b hl⟩
theorem Vals.later {w w1 : World} {B : Nat} {cs : Array Value} {xs : List Atom} (h : Vals w (fun b => B ≤ b ∧ b < w.heap.size) cs xs) (hb : Below w.heap.size w w1) : Vals w1 (fun b => B ≤ b ∧ b < w1.heap.size) cs xs := h.same fun b hl => ⟨⟨hl.1, Nat.lt_of_lt_of_le hl.2 hb.size⟩, hb.block b hl.2⟩
theorem Vals.from {w : World} {B B' : Nat} {cs : Array Value} {xs : List Atom} (h : Vals w (fun b => B ≤ b ∧ b < w.heap.size) cs xs) (hb : B' ≤ B) : Vals w (fun b => B' ≤ b ∧ b < w.heap.size) cs xs := h.same fun b hl => ⟨⟨Nat.le_trans hb hl.1, hl.2⟩, rfl⟩
theorem Vals.any {w : World} {B : Nat} {cs : Array Value} {xs : List Atom} (h : Vals w (fun b => B ≤ b ∧ b < w.heap.size) cs xs) : Vals w (fun b => b < w.heap.size) cs xs := h.same fun b hl => ⟨hl.2, rfl⟩
theorem Vals.size_of {w : World} {P : Nat → Prop} {cs : Array Value} {xs : List Atom} {ks : List Nat} (h : Vals w P cs xs) (hk : xs.map Atom.k = ks) : cs.size = ks.length := by rw [h.1, ← hk, List.length_map]
end Go.Proofs.YthklpkmdmkgjiaaGreat
