/- own, as the calls use it: its result's place is free and new. Condition: the account can be read. -/
import Derived.Test.YtjcbhgkfbilifaaFAcoOwn
namespace Go.Proofs.Ytjcbhgkfbilifaa
open Go.ChangeShapes Go.WideShapes Go.ChangeAt Go.RowKit Ao
set_option linter.unusedVariables false

theorem Rl.setRow {α : Type} {enc : α → List Value} {d by_ : Nat} {w : World} {a : Option Addr} {n g : Nat} {cs : Array Value} {l : List α} (h : Rl enc d by_ w a n l) (hf : ∀ ad, a = some ad → ¬ ad.block = g) : Rl enc d by_ (w.setRow g cs) a n l :=
  ⟨h.len, fun h0 => by
    obtain ⟨b, off, e, hl, hc⟩ := h.cells h0
    exact ⟨b, off, e, by simpa [World.setRow] using hl, fun j x hj => range_same (hc j x hj) (setRow_other _ _ _ _ (hf _ e))⟩, h.room⟩
theorem Rl.setCell {α : Type} {enc : α → List Value} {d by_ : Nat} {w : World} {a : Option Addr} {n g o : Nat} {u : Value} {l : List α} (h : Rl enc d by_ w a n l) (hf : ∀ ad, a = some ad → ¬ ad.block = g) : Rl enc d by_ (w.setCell ⟨g, o, none⟩ u) a n l :=
  ⟨h.len, fun h0 => by
    obtain ⟨b, off, e, hl, hc⟩ := h.cells h0
    exact ⟨b, off, e, by simpa [World.setCell] using hl, fun j x hj => range_same (hc j x hj) (put_far (hf _ e))⟩, h.room⟩
/-- an empty account lies at b, with nothing in it yet -/
def Zr (w : World) (b : Nat) : Prop := w.heap[b]? = some (.cells #[.string ⟨#[]⟩, .int .i64 0, .int .i64 0, .int .i64 0, .int .i64 0, .slice none 0 0, .int .i64 0, .int .i64 0, .int .i64 0, .int .i64 0] 28 (0, 0))
theorem Zr.lt {w : World} {b : Nat} (h : Zr w b) : b < w.heap.size := (Array.getElem?_eq_some_iff.1 h).1
theorem Zr.below {w w' : World} {b : Nat} (h : Zr w b) (hb : Below w.heap.size w w') : Zr w' b := (hb.block _ h.lt).trans h
theorem z_far {w : World} {s o : Nat} {u : Value} (h : Zr w (s + 1)) : Zr (w.setCell ⟨s, o, none⟩ u) (s + 1) := (put_far (by omega)).trans h
theorem b_set {w W : World} {o : Nat} {u : Value} (h : Below w.heap.size w W) : Below w.heap.size w (W.setCell ⟨w.heap.size, o, none⟩ u) := h.setCell (p := ⟨w.heap.size, o, none⟩) (Nat.le_refl _) _
theorem Ab.zr {w : World} {b : Nat} (h : Ab w b ac0 none 0 0) : Zr w b := h.row
/-- what a call hands out: an account, with a list of its own -/
def Mad (w : World) (A : Ac) (E : Int) (e : Ending) (w' : World) : Prop := ∃ a' n' c', e = .returned (.tuple #[acval A a' n' c', .int .i64 E]) ∧ Hs w' a' n' A.hs ∧ Below w.heap.size w w' ∧ Fr w.heap.size a' ∧ Cp a' n' c'
theorem mad_none {w w' : World} (E : Int) (hb : Below w.heap.size w w') : Mad w ac0 E (.returned (.tuple #[.agg #[.string ⟨#[]⟩, .int .i64 0, .int .i64 0, .int .i64 0, .int .i64 0, .slice none 0 0, .int .i64 0, .int .i64 0, .int .i64 0, .int .i64 0], .int .i64 E])) w' := ⟨none, 0, 0, rfl, Rl.nil _, hb, fr_none _, cp_none⟩
theorem own_made {w W : World} {a : Option Addr} {n c : Nat} {A : Ac} (h : Hs w a n A.hs) (hB : Below w.heap.size w W) (hz : Zr W (w.heap.size + 1)) : Calls Try.prog 99 #[acval A a n c] W fun e w' => ∃ a' c', e = .returned (acval A a' n c') ∧ (∀ cs, Hs (w'.setRow (w.heap.size + 1) cs) a' n A.hs) ∧ Below w.heap.size w w' ∧ Fr w.heap.size a' ∧ Cp a' n c' ∧ Zr w' (w.heap.size + 1) := by
  refine (own_acc (c := c) (h.below hB)).mono ?_
  rintro e w' ⟨a', c', rfl, h1, h2, h3, h4⟩
  exact ⟨a', c', rfl, fun cs => h1.setRow fun ad e => by have := h3 ad e; have := hz.lt; omega, hB.trans (h2.mono hB.size), h3.mono hB.size, h4, hz.below h2⟩
theorem z_far2 {w : World} {s o : Nat} {u : Value} (h : Zr w (s + 2)) : Zr (w.setCell ⟨s, o, none⟩ u) (s + 2) := (put_far (by omega)).trans h
theorem own_made2 {w W : World} {a : Option Addr} {n c : Nat} {A : Ac} (h : Hs w a n A.hs) (hB : Below w.heap.size w W) (hz : Zr W (w.heap.size + 2)) : Calls Try.prog 99 #[acval A a n c] W fun e w' => ∃ a' c', e = .returned (acval A a' n c') ∧ (∀ cs, Hs (w'.setRow (w.heap.size + 2) cs) a' n A.hs) ∧ Below w.heap.size w w' ∧ Fr w.heap.size a' ∧ Cp a' n c' ∧ Zr w' (w.heap.size + 2) := by
  refine (own_acc (c := c) (h.below hB)).mono ?_
  rintro e w' ⟨a', c', rfl, h1, h2, h3, h4⟩
  exact ⟨a', c', rfl, fun cs => h1.setRow fun ad e => by have := h3 ad e; have := hz.lt; omega, hB.trans (h2.mono hB.size), h3.mono hB.size, h4, hz.below h2⟩
theorem lk_info : (Try.prog.info? 26).map (·.size) = some 4 := by kernel_rfl
/-- a lock lies in the block b -/
structure Lb (w : World) (b : Nat) (l : Lk) : Prop where
  row : w.heap[b]? = some (.cells #[.int .i64 l.c, .int .i64 l.s, .int .i64 l.h, .int .i64 l.n] 26 (0, 0))
theorem Lb.lt {w : World} {b : Nat} {l : Lk} (h : Lb w b l) : b < w.heap.size := (Array.getElem?_eq_some_iff.1 h.row).1
theorem Lb.at_ {w : World} {b : Nat} {l : Lk} (h : Lb w b l) : w.cell? ⟨b, 0, none⟩ = some (.int .i64 l.c) ∧ w.cell? ⟨b, 1, none⟩ = some (.int .i64 l.s) ∧ w.cell? ⟨b, 2, none⟩ = some (.int .i64 l.h) ∧ w.cell? ⟨b, 3, none⟩ = some (.int .i64 l.n) := by
  refine ⟨?_, ?_, ?_, ?_⟩ <;> (rw [cell_of_row _ _ _ _ _ _ h.row]; rfl)
theorem Lb.below {w w' : World} {b : Nat} {l : Lk} (h : Lb w b l) (hb : Below w.heap.size w w') : Lb w' b l := ⟨(hb.block _ h.lt).trans h.row⟩
theorem Sb.at_ {w : World} {b : Nat} {lo hi : Int} (h : Sb w b lo hi) : w.cell? ⟨b, 0, none⟩ = some (.int .i64 lo) ∧ w.cell? ⟨b, 1, none⟩ = some (.int .i64 hi) := ⟨h.c0, h.c1⟩
theorem has_b (lo hi v : Int) (w : World) : Calls Try.prog 103 #[.agg #[.int .i64 lo, .int .i64 hi], .int .i64 v] w fun e w' => e = .returned (.bool (hasB lo hi v)) ∧ Below w.heap.size w w' :=
  (has_any lo hi v w).mono fun e w' h => ⟨h.1, by rw [h.2]; exact Below.alloc (Below.refl _ _) (Nat.le_refl _) _⟩
theorem span_new (w : World) (A : Ac) (a : Option Addr) (n c : Nat) (lo hi : Int) : ∃ w1, w1 = ((w.alloc (.cells #[.string A.key, .int .i64 (A.lo), .int .i64 (A.hi), .int .i64 (A.base), .int .i64 (A.rd), .slice a n c, .int .i64 (A.lk.c), .int .i64 (A.lk.s), .int .i64 (A.lk.h), .int .i64 (A.lk.n)] 28)).alloc (.cells #[.int .i64 lo, .int .i64 hi] 23)).alloc (.cells #[.string ⟨#[]⟩, .int .i64 0, .int .i64 0, .int .i64 0, .int .i64 0, .slice none 0 0, .int .i64 0, .int .i64 0, .int .i64 0, .int .i64 0] 28) ∧ Below w.heap.size w w1 ∧ Ab w1 w.heap.size A a n c ∧ Sb w1 (w.heap.size + 1) lo hi ∧ Zr w1 (w.heap.size + 2) := by
  have b0 : Below w.heap.size w (w.alloc (.cells #[.string A.key, .int .i64 (A.lo), .int .i64 (A.hi), .int .i64 (A.base), .int .i64 (A.rd), .slice a n c, .int .i64 (A.lk.c), .int .i64 (A.lk.s), .int .i64 (A.lk.h), .int .i64 (A.lk.n)] 28)) := Below.alloc (Below.refl _ _) (Nat.le_refl _) _
  have s0 : (w.alloc (.cells #[.string A.key, .int .i64 (A.lo), .int .i64 (A.hi), .int .i64 (A.base), .int .i64 (A.rd), .slice a n c, .int .i64 (A.lk.c), .int .i64 (A.lk.s), .int .i64 (A.lk.h), .int .i64 (A.lk.n)] 28)).heap.size = w.heap.size + 1 := by simp
  have h0 := ab_new w A a n c
  obtain ⟨u, eu⟩ : ∃ u, u = w.alloc (.cells #[.string A.key, .int .i64 (A.lo), .int .i64 (A.hi), .int .i64 (A.base), .int .i64 (A.rd), .slice a n c, .int .i64 (A.lk.c), .int .i64 (A.lk.s), .int .i64 (A.lk.h), .int .i64 (A.lk.n)] 28) := ⟨_, rfl⟩
  rw [← eu] at b0 s0
  have h0 : Ab u w.heap.size A a n c := by rw [eu]; exact h0
  rw [← eu]
  have b1 : Below u.heap.size u (u.alloc (.cells #[.int .i64 lo, .int .i64 hi] 23)) := Below.alloc (Below.refl _ _) (Nat.le_refl _) _
  have q1 : Sb (u.alloc (.cells #[.int .i64 lo, .int .i64 hi] 23)) (w.heap.size + 1) lo hi := ⟨by rw [← s0]; exact heap_alloc_new u _⟩
  obtain ⟨x, ex⟩ : ∃ x, x = u.alloc (.cells #[.int .i64 lo, .int .i64 hi] 23) := ⟨_, rfl⟩
  have s1 : x.heap.size = w.heap.size + 2 := by rw [ex]; simp; omega
  rw [← ex] at b1 q1 ⊢
  have b2 : Below x.heap.size x (x.alloc (.cells #[.string ⟨#[]⟩, .int .i64 0, .int .i64 0, .int .i64 0, .int .i64 0, .slice none 0 0, .int .i64 0, .int .i64 0, .int .i64 0, .int .i64 0] 28)) := Below.alloc (Below.refl _ _) (Nat.le_refl _) _
  refine ⟨_, rfl, b0.trans ((b1.trans (b2.mono (by omega))).mono (by omega)), (h0.below b1).below (b2), q1.below b2, ?_⟩
  unfold Zr
  rw [← s1]
  exact heap_alloc_new x _
theorem lock_new (w : World) (A : Ac) (a : Option Addr) (n c : Nat) (l : Lk) : ∃ w1, w1 = ((w.alloc (.cells #[.string A.key, .int .i64 (A.lo), .int .i64 (A.hi), .int .i64 (A.base), .int .i64 (A.rd), .slice a n c, .int .i64 (A.lk.c), .int .i64 (A.lk.s), .int .i64 (A.lk.h), .int .i64 (A.lk.n)] 28)).alloc (.cells #[.int .i64 l.c, .int .i64 l.s, .int .i64 l.h, .int .i64 l.n] 26)).alloc (.cells #[.string ⟨#[]⟩, .int .i64 0, .int .i64 0, .int .i64 0, .int .i64 0, .slice none 0 0, .int .i64 0, .int .i64 0, .int .i64 0, .int .i64 0] 28) ∧ Below w.heap.size w w1 ∧ Ab w1 w.heap.size A a n c ∧ Lb w1 (w.heap.size + 1) l ∧ Zr w1 (w.heap.size + 2) := by
  have b0 : Below w.heap.size w (w.alloc (.cells #[.string A.key, .int .i64 (A.lo), .int .i64 (A.hi), .int .i64 (A.base), .int .i64 (A.rd), .slice a n c, .int .i64 (A.lk.c), .int .i64 (A.lk.s), .int .i64 (A.lk.h), .int .i64 (A.lk.n)] 28)) := Below.alloc (Below.refl _ _) (Nat.le_refl _) _
  have s0 : (w.alloc (.cells #[.string A.key, .int .i64 (A.lo), .int .i64 (A.hi), .int .i64 (A.base), .int .i64 (A.rd), .slice a n c, .int .i64 (A.lk.c), .int .i64 (A.lk.s), .int .i64 (A.lk.h), .int .i64 (A.lk.n)] 28)).heap.size = w.heap.size + 1 := by simp
  have h0 := ab_new w A a n c
  obtain ⟨u, eu⟩ : ∃ u, u = w.alloc (.cells #[.string A.key, .int .i64 (A.lo), .int .i64 (A.hi), .int .i64 (A.base), .int .i64 (A.rd), .slice a n c, .int .i64 (A.lk.c), .int .i64 (A.lk.s), .int .i64 (A.lk.h), .int .i64 (A.lk.n)] 28) := ⟨_, rfl⟩
  rw [← eu] at b0 s0
  have h0 : Ab u w.heap.size A a n c := by rw [eu]; exact h0
  rw [← eu]
  have b1 : Below u.heap.size u (u.alloc (.cells #[.int .i64 l.c, .int .i64 l.s, .int .i64 l.h, .int .i64 l.n] 26)) := Below.alloc (Below.refl _ _) (Nat.le_refl _) _
  have q1 : Lb (u.alloc (.cells #[.int .i64 l.c, .int .i64 l.s, .int .i64 l.h, .int .i64 l.n] 26)) (w.heap.size + 1) l := ⟨by rw [← s0]; exact heap_alloc_new u _⟩
  obtain ⟨x, ex⟩ : ∃ x, x = u.alloc (.cells #[.int .i64 l.c, .int .i64 l.s, .int .i64 l.h, .int .i64 l.n] 26) := ⟨_, rfl⟩
  have s1 : x.heap.size = w.heap.size + 2 := by rw [ex]; simp; omega
  rw [← ex] at b1 q1 ⊢
  have b2 : Below x.heap.size x (x.alloc (.cells #[.string ⟨#[]⟩, .int .i64 0, .int .i64 0, .int .i64 0, .int .i64 0, .slice none 0 0, .int .i64 0, .int .i64 0, .int .i64 0, .int .i64 0] 28)) := Below.alloc (Below.refl _ _) (Nat.le_refl _) _
  refine ⟨_, rfl, b0.trans ((b1.trans (b2.mono (by omega))).mono (by omega)), (h0.below b1).below (b2), q1.below b2, ?_⟩
  unfold Zr
  rw [← s1]
  exact heap_alloc_new x _
end Go.Proofs.Ytjcbhgkfbilifaa
