/- The document's wide numbers as the laws of stage 15 use them; what rows leave of each other. No condition. -/
import Derived.Test.YtjcbhgkfbilifaaFAcoX
import Derived.Test.YtjcbhgkfbilifaaJX
namespace Go.Proofs.Ytjcbhgkfbilifaa
open Go.ChangeShapes Go.WideShapes Go.ChangeAt Go.RowKit Ao
set_option linter.unusedVariables false

/-- a wide number lies in the block b -/
structure Wb (w : World) (b : Nat) (z : Int) : Prop where
  row : w.heap[b]? = some (.cells #[.int .i64 (hiOf z), .int .u64 (loOf z)] 112 (0, 0))
theorem Wb.lt {w : World} {b : Nat} {z : Int} (h : Wb w b z) : b < w.heap.size := (Array.getElem?_eq_some_iff.1 h.row).1
theorem Wb.below {w w' : World} {b : Nat} {z : Int} (h : Wb w b z) (hb : Below w.heap.size w w') : Wb w' b z := ⟨(hb.block _ h.lt).trans h.row⟩
theorem Wb.at_ {w : World} {b : Nat} {z : Int} (h : Wb w b z) : w.cell? ⟨b, 0, none⟩ = some (.int .i64 (hiOf z)) ∧ w.cell? ⟨b, 1, none⟩ = some (.int .u64 (loOf z)) := by
  refine ⟨?_, ?_⟩ <;> (rw [cell_of_row _ _ _ _ _ _ h.row]; rfl)
theorem Wb.fz {w : World} {b : Nat} {z : Int} (h : Wb w b z) : ∀ o, w.frozen? ⟨b, o, none⟩ = false := fun o => frozen_of_row _ _ _ _ _ h.row
theorem Wb.put {w : World} {b : Nat} {z : Int} (h : Wb w b z) (z' : Int) : Wb ((w.setCell ⟨b, 0, none⟩ (.int .i64 (hiOf z'))).setCell ⟨b, 1, none⟩ (.int .u64 (loOf z'))) b z' := ⟨put_row' (put_row' h.row)⟩
theorem wb_new (w : World) (z : Int) : ∃ w1, w1 = w.alloc (.cells #[.int .i64 (hiOf z), .int .u64 (loOf z)] 112) ∧ Below w.heap.size w w1 ∧ Wb w1 w.heap.size z := ⟨_, rfl, Below.alloc (Below.refl _ _) (Nat.le_refl _) _, ⟨heap_alloc_new w _⟩⟩
theorem plus_w {z n : Int} (w : World) (h1 : -19807040628566084398385987584 ≤ z) (h2 : z ≤ 19807040628566084398385987584) (hn : I64 n) :
    Calls Try.prog 113 #[.agg #[.int .i64 (hiOf z), .int .u64 (loOf z)], .int .i64 n] w fun e w' => e = .returned (.agg #[.int .i64 (hiOf (z + n)), .int .u64 (loOf (z + n))]) ∧ Below w.heap.size w w' :=
  plus_any z n w (by unfold hiOf; omega) (by unfold hiOf; omega) hn.1 hn.2
theorem of_one {w : World} {b : Nat} {v : Int} (h : w.cell? ⟨b, 0, none⟩ = some (.int .i64 v)) (hv : I64 v) :
    Calls Try.prog 72 #[.slice (some ⟨b, 0, none⟩) 1 1] w fun e w' => e = .returned (.agg #[.int .i64 (hiOf v), .int .u64 (loOf v)]) ∧ Below w.heap.size w w' := by
  have hz : ints [v] := fun j => by
    rcases j with _ | j
    · exact hv
    · simp
  have := of_any b 0 1 1 [v] w (World.block_lt_of_cell? w ⟨b, 0, none⟩ h) (by simp) (by omega) hz (fun j hj => by
    have : j = 0 := by simpa using hj
    subst this
    simpa using h)
  simpa using this
theorem of_two {w : World} {b : Nat} {v v' : Int} (h : w.cell? ⟨b, 0, none⟩ = some (.int .i64 v)) (h' : w.cell? ⟨b, 1, none⟩ = some (.int .i64 v')) (hv : I64 v) (hv' : I64 v') :
    Calls Try.prog 72 #[.slice (some ⟨b, 0, none⟩) 2 2] w fun e w' => e = .returned (.agg #[.int .i64 (hiOf (v + v')), .int .u64 (loOf (v + v'))]) ∧ Below w.heap.size w w' := by
  have hz : ints [v, v'] := fun j => by
    rcases j with _ | _ | j
    · exact hv
    · exact hv'
    · simp
  have := of_any b 0 2 2 [v, v'] w (World.block_lt_of_cell? w ⟨b, 0, none⟩ h) (by simp) (by omega) hz (fun j hj => by
    have : j = 0 ∨ j = 1 := by have : j < 2 := by simpa using hj
                               omega
    rcases this with rfl | rfl
    · simpa using h
    · simpa using h')
  simpa using this
/-- what a row written over leaves -/
theorem rl_row {α : Type} {enc : α → List Value} {d by_ : Nat} {w : World} {a : Option Addr} {n g : Nat} {cs : Array Value} {l : List α} (h : Rl enc d by_ w a n l) (ha : Aw g a n) : Rl enc d by_ (w.setRow g cs) a n l :=
  ⟨h.len, fun h0 => by
    obtain ⟨b, off, e, hl, hc⟩ := h.cells h0
    exact ⟨b, off, e, by simpa [World.setRow] using hl, fun j x hj => range_same (hc j x hj) (setRow_other _ _ _ _ (ha h0 _ e))⟩, h.room⟩
theorem rl_put {α : Type} {enc : α → List Value} {d by_ : Nat} {w : World} {a : Option Addr} {n g o : Nat} {u : Value} {l : List α} (h : Rl enc d by_ w a n l) (ha : Aw g a n) : Rl enc d by_ (w.setCell ⟨g, o, none⟩ u) a n l :=
  ⟨h.len, fun h0 => by
    obtain ⟨b, off, e, hl, hc⟩ := h.cells h0
    exact ⟨b, off, e, by simpa [World.setCell] using hl, fun j x hj => range_same (hc j x hj) (put_far (ha h0 _ e))⟩, h.room⟩
theorem aw_rl {α : Type} {enc : α → List Value} {d by_ : Nat} {w : World} {a : Option Addr} {n g : Nat} {l : List α} (h : Rl enc d by_ w a n l) (hg : w.heap.size ≤ g) : Aw g a n := fun h0 ad e => by
  obtain ⟨b, off, e2, hb, _⟩ := h.cells h0
  rw [e] at e2
  obtain rfl := Option.some.inj e2
  show ¬ b = g
  omega
theorem Ab.row_far {w : World} {b g : Nat} {A : Ac} {a : Option Addr} {n c : Nat} {cs : Array Value} (h : Ab w b A a n c) (hg : b ≠ g) : Ab (w.setRow g cs) b A a n c := ⟨(setRow_other _ _ _ _ hg).trans h.row⟩
theorem Ab.put_far {w : World} {b g o : Nat} {A : Ac} {a : Option Addr} {n c : Nat} {u : Value} (h : Ab w b A a n c) (hg : b ≠ g) : Ab (w.setCell ⟨g, o, none⟩ u) b A a n c := ⟨(Go.Proofs.Ytjcbhgkfbilifaa.put_far hg).trans h.row⟩
theorem Wb.row_far {w : World} {b g : Nat} {z : Int} {cs : Array Value} (h : Wb w b z) (hg : b ≠ g) : Wb (w.setRow g cs) b z := ⟨(setRow_other _ _ _ _ hg).trans h.row⟩
theorem Ab.row_self {w : World} {g : Nat} {A B : Ac} {a a' : Option Addr} {n c n' c' : Nat} (h : Ab w g A a n c) : Ab (w.setRow g #[.string B.key, .int .i64 B.lo, .int .i64 B.hi, .int .i64 B.base, .int .i64 B.rd, .slice a' n' c', .int .i64 B.lk.c, .int .i64 B.lk.s, .int .i64 B.lk.h, .int .i64 B.lk.n]) g B a' n' c' := ⟨setRow_heap _ _ _ _ _ _ h.row⟩
end Go.Proofs.Ytjcbhgkfbilifaa
