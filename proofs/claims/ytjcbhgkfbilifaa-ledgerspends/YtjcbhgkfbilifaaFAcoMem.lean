/- An account's cells; accounts, calls and lists that came in. No condition. -/
import Derived.Test.YtjcbhgkfbilifaaJU
import Derived.Test.YtjcbhgkfbilifaaFFlatRow
import Derived.Test.YtjcbhgkfbilifaaRows
import Derived.WalkKit
import Derived.ProofKit
import Derived.OpenShut
import Derived.ShutString
import Derived.ChangeOld
import Derived.ChangeMaps
import Derived.Lib.SmallJoins
namespace Go.Proofs.Ytjcbhgkfbilifaa
open Go.ChangeShapes Go.WideShapes Go.ChangeAt Go.RowKit Go.Joins Ao
set_option linter.unusedVariables false

theorem own : ownKnob Try.prog.godebug = none := by kernel_rfl
theorem laidOut : laidOutB Try.prog = true := by kernel_rfl
def henc (h : Hd) : List Value := [.int .i64 h.nd, .int .i64 h.ls, .int .i64 h.up, .int .i64 h.dn]
def hval (h : Hd) : Value := .agg #[.int .i64 h.nd, .int .i64 h.ls, .int .i64 h.up, .int .i64 h.dn]
def lenc (l : Lk) : List Value := [.int .i64 l.c, .int .i64 l.s, .int .i64 l.h, .int .i64 l.n]
def lval (l : Lk) : Value := .agg #[.int .i64 l.c, .int .i64 l.s, .int .i64 l.h, .int .i64 l.n]
def sval (lo hi : Int) : Value := .agg #[.int .i64 lo, .int .i64 hi]
def acval (A : Ac) (a : Option Addr) (n c : Nat) : Value := .agg #[.string A.key, .int .i64 A.lo, .int .i64 A.hi, .int .i64 A.base, .int .i64 A.rd, .slice a n c, .int .i64 A.lk.c, .int .i64 A.lk.s, .int .i64 A.lk.h, .int .i64 A.lk.n]
theorem hflat : Flat henc 4 := ⟨fun _ => rfl, fun x v hv => by simp [henc] at hv; rcases hv with rfl | rfl | rfl | rfl <;> rfl, by omega⟩
abbrev Hs (w : World) (a : Option Addr) (n : Nat) (l : List Hd) : Prop := Rl henc 4 32 w a n l
structure HdAt (w : World) (b o : Nat) (h : Hd) : Prop where
  c0 : w.cell? ⟨b, o, none⟩ = some (.int .i64 h.nd)
  c1 : w.cell? ⟨b, o + 1, none⟩ = some (.int .i64 h.ls)
  c2 : w.cell? ⟨b, o + 2, none⟩ = some (.int .i64 h.up)
  c3 : w.cell? ⟨b, o + 3, none⟩ = some (.int .i64 h.dn)
theorem hd_at {w : World} {b o : Nat} {h : Hd} (g : w.rangeAt b o (henc h)) : HdAt w b o h := ⟨g 0 _ rfl, g 1 _ rfl, g 2 _ rfl, g 3 _ rfl⟩
theorem hd_row {w : World} {b : Nat} {t : TypeId} {fr : Nat × Nat} (h : Hd) (g : w.heap[b]? = some (.cells #[.int .i64 h.nd, .int .i64 h.ls, .int .i64 h.up, .int .i64 h.dn] t fr)) : HdAt w b 0 h := by
  refine ⟨?_, ?_, ?_, ?_⟩ <;> (rw [cell_of_row _ _ _ _ _ _ g]; rfl)
theorem hs_at {w : World} {a : Option Addr} {n : Nat} {l : List Hd} (h : Hs w a n l) {k : Nat} (hk : k < n) : ∃ b off x, a = some ⟨b, off, none⟩ ∧ l[k]? = some x ∧ b < w.heap.size ∧ HdAt w b (off + k * 4) x := by
  obtain ⟨b, off, x, e, hx, hb, hr⟩ := Rl.at_ h hk
  exact ⟨b, off, x, e, hx, hb, hd_at hr⟩
/-- an account's own ten cells -/
structure AcAt (w : World) (b : Nat) (A : Ac) (a : Option Addr) (n c : Nat) : Prop where
  c0 : w.cell? ⟨b, 0, none⟩ = some (.string A.key)
  c1 : w.cell? ⟨b, 1, none⟩ = some (.int .i64 A.lo)
  c2 : w.cell? ⟨b, 2, none⟩ = some (.int .i64 A.hi)
  c3 : w.cell? ⟨b, 3, none⟩ = some (.int .i64 A.base)
  c4 : w.cell? ⟨b, 4, none⟩ = some (.int .i64 A.rd)
  c5 : w.cell? ⟨b, 5, none⟩ = some (.slice a n c)
  c6 : w.cell? ⟨b, 6, none⟩ = some (.int .i64 A.lk.c)
  c7 : w.cell? ⟨b, 7, none⟩ = some (.int .i64 A.lk.s)
  c8 : w.cell? ⟨b, 8, none⟩ = some (.int .i64 A.lk.h)
  c9 : w.cell? ⟨b, 9, none⟩ = some (.int .i64 A.lk.n)
/-- an account lies in the block b -/
structure Ab (w : World) (b : Nat) (A : Ac) (a : Option Addr) (n c : Nat) : Prop where
  row : w.heap[b]? = some (.cells #[.string A.key, .int .i64 A.lo, .int .i64 A.hi, .int .i64 A.base, .int .i64 A.rd, .slice a n c, .int .i64 A.lk.c, .int .i64 A.lk.s, .int .i64 A.lk.h, .int .i64 A.lk.n] 28 (0, 0))
theorem Ab.at_ {w : World} {b : Nat} {A : Ac} {a : Option Addr} {n c : Nat} (h : Ab w b A a n c) : AcAt w b A a n c := by
  refine ⟨?_, ?_, ?_, ?_, ?_, ?_, ?_, ?_, ?_, ?_⟩ <;> (rw [cell_of_row _ _ _ _ _ _ h.row]; rfl)
theorem Ab.lt {w : World} {b : Nat} {A : Ac} {a : Option Addr} {n c : Nat} (h : Ab w b A a n c) : b < w.heap.size := (Array.getElem?_eq_some_iff.1 h.row).1
theorem Ab.below {w w' : World} {b : Nat} {A : Ac} {a : Option Addr} {n c : Nat} (h : Ab w b A a n c) (hb : Below w.heap.size w w') : Ab w' b A a n c := ⟨(hb.block _ h.lt).trans h.row⟩
theorem Ab.fz {w : World} {b : Nat} {A : Ac} {a : Option Addr} {n c : Nat} (h : Ab w b A a n c) : ∀ o, w.frozen? ⟨b, o, none⟩ = false := fun o => frozen_of_row _ _ _ _ _ h.row
theorem ab_new (w : World) (A : Ac) (a : Option Addr) (n c : Nat) : Ab (w.alloc (.cells #[.string A.key, .int .i64 A.lo, .int .i64 A.hi, .int .i64 A.base, .int .i64 A.rd, .slice a n c, .int .i64 A.lk.c, .int .i64 A.lk.s, .int .i64 A.lk.h, .int .i64 A.lk.n] 28)) w.heap.size A a n c := ⟨heap_alloc_new w _⟩
/-- a slice that may be: no capacity without an address, and no more than the capacity -/
structure Cp (a : Option Addr) (n c : Nat) : Prop where
  no : a = none → c = 0
  le : n ≤ c
theorem cp_none : Cp none 0 0 := ⟨fun _ => rfl, Nat.le_refl _⟩
/-- what an int has -/
def I64 (x : Int) : Prop := -9223372036854775808 ≤ x ∧ x ≤ 9223372036854775807
structure HdW (h : Hd) : Prop where
  nd : I64 h.nd
  ls : I64 h.ls
  up : I64 h.up
  dn : I64 h.dn
structure LkW (l : Lk) : Prop where
  c : I64 l.c
  s : I64 l.s
  h : I64 l.h
  n : I64 l.n
structure AcW (A : Ac) : Prop where
  key : A.key.size ≤ maxLen
  lo : I64 A.lo
  hi : I64 A.hi
  base : I64 A.base
  rd : I64 A.rd
  lk : LkW A.lk
  hs : ∀ h ∈ A.hs, HdW h
theorem AcW.small {A : Ac} (h : AcW A) : Small A := fun x hx => ⟨(h.hs x hx).up.2, (h.hs x hx).dn.2⟩
/-- a list lies in a block from B on, or in none -/
def Fr (B : Nat) (a : Option Addr) : Prop := ∀ ad, a = some ad → B ≤ ad.block
theorem fr_none (B : Nat) : Fr B none := fun ad h => by cases h
theorem Fr.mono {B B' : Nat} {a : Option Addr} (h : Fr B a) (hb : B' ≤ B) : Fr B' a := fun ad e => Nat.le_trans hb (h ad e)
theorem fr_row {w : World} {B B' B'' T sz n c : Nat} {a : Option Addr} {xs : List Value} (h : w.ownsRow B T sz (.slice a n c) n xs) (h1 : B' ≤ B) (h2 : B'' ≤ B') : Fr B'' a := fun ad e => by
  subst e
  exact Nat.le_trans h2 (Nat.le_trans h1 (h.lt ad.block rfl).1)
section
variable {H : Type} {enc : TypeId × Value → H} {W : World} {b0 : Nat} {held : Bool} {m : Nat} {cs : List Value} {y : DataW H × List MemPlace}
theorem holder_fields : ∃ f0 f1 f2 f3 : Field, Try.prog.underlying 33 = some (.struct #[f0, f1, f2, f3]) ∧ (f0.offset = 0 ∧ f0.type = 3) ∧ (f1.offset = 1 ∧ f1.type = 3) ∧ (f2.offset = 2 ∧ f2.type = 3) ∧ (f3.offset = 3 ∧ f3.type = 3) :=
  ⟨_, _, _, _, Try.underlying33, ⟨rfl, rfl⟩, ⟨rfl, rfl⟩, ⟨rfl, rfl⟩, ⟨rfl, rfl⟩⟩
theorem lock_fields : ∃ f0 f1 f2 f3 : Field, Try.prog.underlying 26 = some (.struct #[f0, f1, f2, f3]) ∧ (f0.offset = 0 ∧ f0.type = 3) ∧ (f1.offset = 1 ∧ f1.type = 3) ∧ (f2.offset = 2 ∧ f2.type = 3) ∧ (f3.offset = 3 ∧ f3.type = 3) :=
  ⟨_, _, _, _, Try.underlying26, ⟨rfl, rfl⟩, ⟨rfl, rfl⟩, ⟨rfl, rfl⟩, ⟨rfl, rfl⟩⟩
theorem span_fields : ∃ f0 f1 : Field, Try.prog.underlying 23 = some (.struct #[f0, f1]) ∧ (f0.offset = 0 ∧ f0.type = 3) ∧ (f1.offset = 1 ∧ f1.type = 3) :=
  ⟨_, _, Try.underlying23, ⟨rfl, rfl⟩, ⟨rfl, rfl⟩⟩
theorem account_fields : ∃ f0 f1 f2 f3 f4 f5 : Field, Try.prog.underlying 28 = some (.struct #[f0, f1, f2, f3, f4, f5]) ∧ (f0.offset = 0 ∧ f0.type = 9) ∧ (f1.offset = 1 ∧ f1.type = 23) ∧ (f2.offset = 3 ∧ f2.type = 3) ∧ (f3.offset = 4 ∧ f3.type = 3) ∧ (f4.offset = 5 ∧ f4.type = 24) ∧ (f5.offset = 6 ∧ f5.type = 26) :=
  ⟨_, _, _, _, _, _, Try.underlying28, ⟨rfl, rfl⟩, ⟨rfl, rfl⟩, ⟨rfl, rfl⟩, ⟨rfl, rfl⟩, ⟨rfl, rfl⟩, ⟨rfl, rfl⟩⟩
theorem s_int : Try.prog.cellsOf 3 = 1 := by kernel_rfl
theorem s_str : Try.prog.cellsOf 9 = 1 := by kernel_rfl
theorem s_span : Try.prog.cellsOf 23 = 2 := by kernel_rfl
theorem s_lock : Try.prog.cellsOf 26 = 4 := by kernel_rfl
theorem s_holder : Try.prog.cellsOf 33 = 4 := by kernel_rfl
theorem s_holders : Try.prog.cellsOf 24 = 1 := by kernel_rfl
theorem s_account : Try.prog.cellsOf 28 = 10 := by kernel_rfl
theorem fd_i64 {t : TypeId} (hu : Try.prog.underlying t = some (.int .i64)) (h : DataW.trod enc Try.prog W b0 (fun _ => true) held m t cs = some y) : ∃ n : Int, cs = [.int .i64 n] ∧ I64 n := by
  obtain ⟨n, e, _, hw⟩ := DataW.trod_int hu h
  exact ⟨n, e, bounds_i64 hw⟩
set_option maxRecDepth 100000 in
theorem rd_holder (h : DataW.trod enc Try.prog W b0 (fun _ => true) held m 33 cs = some y) (hl : Lite 33 y.1) : ∃ x : Hd, cs = henc x ∧ HdW x := by
  obtain ⟨f0, f1, f2, f3, hu, ⟨o0, t0⟩, ⟨o1, t1⟩, ⟨o2, t2⟩, ⟨o3, t3⟩⟩ := holder_fields
  obtain ⟨k, hc, hf⟩ := rd_fields hu h hl
  rw [s_holder] at hc
  match cs, hc with
  | [v0, v1, v2, v3], _ =>
    obtain ⟨z0, g0, _⟩ := hf 0 f0 rfl
    obtain ⟨z1, g1, _⟩ := hf 1 f1 rfl
    obtain ⟨z2, g2, _⟩ := hf 2 f2 rfl
    obtain ⟨z3, g3, _⟩ := hf 3 f3 rfl
    simp [o0, o1, o2, o3, t0, t1, t2, t3, s_int] at g0 g1 g2 g3
    obtain ⟨n0, e0, w0⟩ := fd_i64 Try.underlying3 g0
    obtain ⟨n1, e1, w1⟩ := fd_i64 Try.underlying3 g1
    obtain ⟨n2, e2, w2⟩ := fd_i64 Try.underlying3 g2
    obtain ⟨n3, e3, w3⟩ := fd_i64 Try.underlying3 g3
    simp at e0 e1 e2 e3
    exact ⟨⟨n0, n1, n2, n3⟩, by rw [e0, e1, e2, e3]; rfl, w0, w1, w2, w3⟩
set_option maxRecDepth 100000 in
theorem rd_lock (h : DataW.trod enc Try.prog W b0 (fun _ => true) held m 26 cs = some y) (hl : Lite 26 y.1) : ∃ x : Lk, cs = lenc x ∧ LkW x := by
  obtain ⟨f0, f1, f2, f3, hu, ⟨o0, t0⟩, ⟨o1, t1⟩, ⟨o2, t2⟩, ⟨o3, t3⟩⟩ := lock_fields
  obtain ⟨k, hc, hf⟩ := rd_fields hu h hl
  rw [s_lock] at hc
  match cs, hc with
  | [v0, v1, v2, v3], _ =>
    obtain ⟨z0, g0, _⟩ := hf 0 f0 rfl
    obtain ⟨z1, g1, _⟩ := hf 1 f1 rfl
    obtain ⟨z2, g2, _⟩ := hf 2 f2 rfl
    obtain ⟨z3, g3, _⟩ := hf 3 f3 rfl
    simp [o0, o1, o2, o3, t0, t1, t2, t3, s_int] at g0 g1 g2 g3
    obtain ⟨n0, e0, w0⟩ := fd_i64 Try.underlying3 g0
    obtain ⟨n1, e1, w1⟩ := fd_i64 Try.underlying3 g1
    obtain ⟨n2, e2, w2⟩ := fd_i64 Try.underlying3 g2
    obtain ⟨n3, e3, w3⟩ := fd_i64 Try.underlying3 g3
    simp at e0 e1 e2 e3
    exact ⟨⟨n0, n1, n2, n3⟩, by rw [e0, e1, e2, e3]; rfl, w0, w1, w2, w3⟩
set_option maxRecDepth 100000 in
theorem rd_span (h : DataW.trod enc Try.prog W b0 (fun _ => true) held m 23 cs = some y) (hl : Lite 23 y.1) : ∃ lo hi : Int, cs = [.int .i64 lo, .int .i64 hi] ∧ I64 lo ∧ I64 hi := by
  obtain ⟨f0, f1, hu, ⟨o0, t0⟩, ⟨o1, t1⟩⟩ := span_fields
  obtain ⟨k, hc, hf⟩ := rd_fields hu h hl
  rw [s_span] at hc
  match cs, hc with
  | [v0, v1], _ =>
    obtain ⟨z0, g0, _⟩ := hf 0 f0 rfl
    obtain ⟨z1, g1, _⟩ := hf 1 f1 rfl
    simp [o0, o1, t0, t1, s_int] at g0 g1
    obtain ⟨n0, e0, w0⟩ := fd_i64 Try.underlying3 g0
    obtain ⟨n1, e1, w1⟩ := fd_i64 Try.underlying3 g1
    simp at e0 e1
    exact ⟨n0, n1, by rw [e0, e1], w0, w1⟩
instance : Inhabited Hd := ⟨hd0⟩
set_option maxRecDepth 100000 in
theorem rd_account (h : DataW.trod enc Try.prog W b0 (fun _ => true) held m 28 cs = some y) (hl : Lite 28 y.1) :
    ∃ (A : Ac) (a : Option Addr) (n c : Nat), cs = [.string A.key, .int .i64 A.lo, .int .i64 A.hi, .int .i64 A.base, .int .i64 A.rd, .slice a n c, .int .i64 A.lk.c, .int .i64 A.lk.s, .int .i64 A.lk.h, .int .i64 A.lk.n] ∧ Hs W a n A.hs ∧ AcW A ∧ Cp a n c := by
  obtain ⟨f0, f1, f2, f3, f4, f5, hu, ⟨o0, t0⟩, ⟨o1, t1⟩, ⟨o2, t2⟩, ⟨o3, t3⟩, ⟨o4, t4⟩, ⟨o5, t5⟩⟩ := account_fields
  obtain ⟨k, hc, hf⟩ := rd_fields hu h hl
  rw [s_account] at hc
  match cs, hc with
  | [v0, v1, v2, v3, v4, v5, v6, v7, v8, v9], _ =>
    obtain ⟨z0, g0, _⟩ := hf 0 f0 rfl
    obtain ⟨z1, g1, l1⟩ := hf 1 f1 rfl
    obtain ⟨z2, g2, _⟩ := hf 2 f2 rfl
    obtain ⟨z3, g3, _⟩ := hf 3 f3 rfl
    obtain ⟨z4, g4, l4⟩ := hf 4 f4 rfl
    obtain ⟨z5, g5, l5⟩ := hf 5 f5 rfl
    rw [t1] at l1
    rw [t4] at l4
    rw [t5] at l5
    simp [o0, o1, o2, o3, o4, o5, t0, t1, t2, t3, t4, t5, s_int, s_str, s_span, s_holders, s_lock] at g0 g1 g2 g3 g4 g5
    obtain ⟨n0, e0, _, w0⟩ := DataW.trod_string Try.underlying9 g0
    obtain ⟨lo, hi, e1, w1, w1'⟩ := rd_span g1 l1
    obtain ⟨n2, e2, w2⟩ := fd_i64 Try.underlying3 g2
    obtain ⟨n3, e3, w3⟩ := fd_i64 Try.underlying3 g3
    obtain ⟨a, n, c, l, e4, p4, q4, r4, r5⟩ := rd_flat5 (bytes := 32) Try.underlying24 s_holder (by kernel_rfl) hflat HdW (fun m cs y h hl => rd_holder h hl) g4 l4
    obtain ⟨lk, e5, w5⟩ := rd_lock g5 l5
    simp [lenc] at e0 e1 e2 e3 e4 e5
    exact ⟨⟨n0, lo, hi, n2, n3, l, lk⟩, a, n, c, by rw [e0, e1.1, e1.2, e2, e3, e4, e5.1, e5.2.1, e5.2.2.1, e5.2.2.2], p4, ⟨w0, w1, w1', w2, w3, w5, q4⟩, ⟨r4, r5⟩⟩
end
set_option maxRecDepth 100000 in
theorem open_account_held {H : Type} {enc : TypeId × Value → H} {W : World} {r : Reach} {base b0 : Nat} {held : Bool} {v : Value} {d : DataW H} {p : List MemPlace}
    (hv : Value.okWide Try.prog W r base 28 v) (h : DataW.Trod enc Try.prog W b0 (fun _ => true) held 28 v d p)
    (hw : ∀ n ∈ d.weights Try.prog 28, n ≤ reachBytes) :
    ∃ (a : Option Addr) (n c : Nat) (A : Ac), v = acval A a n c ∧ Hs W a n A.hs ∧ AcW A ∧ Cp a n c := by
  obtain ⟨cs, rfl, hc⟩ := okWide_struct Try.underlying28 hv
  obtain ⟨fuel, hf⟩ := h
  obtain ⟨A, a, n, c, h1, h2, h3, h4⟩ := rd_account hf hw
  simp only [Value.cells] at h1
  refine ⟨a, n, c, A, ?_, h2, h3, h4⟩
  unfold acval
  rw [show cs = #[.string A.key, .int .i64 A.lo, .int .i64 A.hi, .int .i64 A.base, .int .i64 A.rd, .slice a n c, .int .i64 A.lk.c, .int .i64 A.lk.s, .int .i64 A.lk.h, .int .i64 A.lk.n] from Array.toList_inj.1 h1]
set_option maxRecDepth 100000 in
theorem open_lock_held {H : Type} {enc : TypeId × Value → H} {W : World} {r : Reach} {base b0 : Nat} {held : Bool} {v : Value} {d : DataW H} {p : List MemPlace}
    (hv : Value.okWide Try.prog W r base 26 v) (h : DataW.Trod enc Try.prog W b0 (fun _ => true) held 26 v d p)
    (hw : ∀ n ∈ d.weights Try.prog 26, n ≤ reachBytes) :
    ∃ (l : Lk), v = lval l ∧ LkW l := by
  obtain ⟨cs, rfl, hc⟩ := okWide_struct Try.underlying26 hv
  obtain ⟨fuel, hf⟩ := h
  obtain ⟨l, h1, h2⟩ := rd_lock hf hw
  simp only [Value.cells] at h1
  refine ⟨l, ?_, h2⟩
  unfold lval
  rw [show cs = #[.int .i64 l.c, .int .i64 l.s, .int .i64 l.h, .int .i64 l.n] from Array.toList_inj.1 h1]
set_option maxRecDepth 100000 in
theorem open_span_held {H : Type} {enc : TypeId × Value → H} {W : World} {r : Reach} {base b0 : Nat} {held : Bool} {v : Value} {d : DataW H} {p : List MemPlace}
    (hv : Value.okWide Try.prog W r base 23 v) (h : DataW.Trod enc Try.prog W b0 (fun _ => true) held 23 v d p)
    (hw : ∀ n ∈ d.weights Try.prog 23, n ≤ reachBytes) :
    ∃ (lo hi : Int), v = sval lo hi ∧ I64 lo ∧ I64 hi := by
  obtain ⟨cs, rfl, hc⟩ := okWide_struct Try.underlying23 hv
  obtain ⟨fuel, hf⟩ := h
  obtain ⟨lo, hi, h1, h2, h3⟩ := rd_span hf hw
  simp only [Value.cells] at h1
  refine ⟨lo, hi, ?_, h2, h3⟩
  unfold sval
  rw [show cs = #[.int .i64 lo, .int .i64 hi] from Array.toList_inj.1 h1]
set_option maxRecDepth 100000 in
theorem open_i64 {H : Type} {enc : TypeId × Value → H} {W : World} {r : Reach} {base b0 : Nat} {sp : Nat → Bool} {held : Bool} {v : Value} {d : DataW H} {p : List MemPlace}
    (hv : Value.okWide Try.prog W r base 3 v) (h : DataW.Trod enc Try.prog W b0 sp held 3 v d p) :
    ∃ a : Int, v = .int .i64 a ∧ I64 a := by
  obtain ⟨a, rfl, rfl, rfl, w⟩ := open_int Try.underlying3 hv h
  exact ⟨a, rfl, bounds_i64 w⟩
end Go.Proofs.Ytjcbhgkfbilifaa
