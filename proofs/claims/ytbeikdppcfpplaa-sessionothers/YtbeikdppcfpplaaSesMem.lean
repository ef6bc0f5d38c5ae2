/- A mark's cells; lists of marks that came in. No condition. -/
import Derived.Test.YtbeikdppcfpplaaSesMath
import Derived.Test.YtbeikdppcfpplaaFlatRow
import Derived.Test.YtbeikdppcfpplaaRows
import Derived.WalkKit
import Derived.ProofKit
import Derived.OpenShut
import Derived.ShutString
import Derived.ChangeOld
import Derived.Lib.SmallJoins
namespace Go.Proofs.Ytbeikdppcfpplaa
open Go.ChangeShapes Go.WideShapes Go.ChangeAt Go.RowKit Go.Joins Sn
set_option linter.unusedVariables false

theorem own : ownKnob Try.prog.godebug = none := by kernel_rfl
theorem laidOut : laidOutB Try.prog = true := by kernel_rfl
def aenc (a : An) : List Value := [.int .i64 a.e, .int .i64 a.v, .int .i64 a.lo, .int .i64 a.hi]
def menc (m : Mk) : List Value := [.int .i64 m.c, .int .i64 m.s, .bool m.o, .int .i64 m.a.e, .int .i64 m.a.v, .int .i64 m.a.lo, .int .i64 m.a.hi]
def mval (m : Mk) : Value := .agg #[.int .i64 m.c, .int .i64 m.s, .bool m.o, .int .i64 m.a.e, .int .i64 m.a.v, .int .i64 m.a.lo, .int .i64 m.a.hi]
def aval (a : An) : Value := .agg #[.int .i64 a.e, .int .i64 a.v, .int .i64 a.lo, .int .i64 a.hi]
theorem mflat : Flat menc 7 := ⟨fun _ => rfl, fun x v hv => by simp [menc] at hv; rcases hv with rfl | rfl | rfl | rfl | rfl | rfl | rfl <;> rfl, by omega⟩
abbrev Ms (w : World) (a : Option Addr) (n : Nat) (l : List Mk) : Prop := Rl menc 7 56 w a n l
structure MkAt (w : World) (b o : Nat) (m : Mk) : Prop where
  c0 : w.cell? ⟨b, o, none⟩ = some (.int .i64 m.c)
  c1 : w.cell? ⟨b, o + 1, none⟩ = some (.int .i64 m.s)
  c2 : w.cell? ⟨b, o + 2, none⟩ = some (.bool m.o)
  c3 : w.cell? ⟨b, o + 3, none⟩ = some (.int .i64 m.a.e)
  c4 : w.cell? ⟨b, o + 4, none⟩ = some (.int .i64 m.a.v)
  c5 : w.cell? ⟨b, o + 5, none⟩ = some (.int .i64 m.a.lo)
  c6 : w.cell? ⟨b, o + 6, none⟩ = some (.int .i64 m.a.hi)
theorem mk_at {w : World} {b o : Nat} {m : Mk} (h : w.rangeAt b o (menc m)) : MkAt w b o m := ⟨h 0 _ rfl, h 1 _ rfl, h 2 _ rfl, h 3 _ rfl, h 4 _ rfl, h 5 _ rfl, h 6 _ rfl⟩
theorem mk_row {w : World} {b : Nat} {t : TypeId} {fr : Nat × Nat} (m : Mk) (h : w.heap[b]? = some (.cells #[.int .i64 m.c, .int .i64 m.s, .bool m.o, .int .i64 m.a.e, .int .i64 m.a.v, .int .i64 m.a.lo, .int .i64 m.a.hi] t fr)) : MkAt w b 0 m := by
  refine ⟨?_, ?_, ?_, ?_, ?_, ?_, ?_⟩ <;> (rw [cell_of_row _ _ _ _ _ _ h]; rfl)
theorem ms_at {w : World} {a : Option Addr} {n : Nat} {l : List Mk} (h : Ms w a n l) {k : Nat} (hk : k < n) : ∃ b off x, a = some ⟨b, off, none⟩ ∧ l[k]? = some x ∧ b < w.heap.size ∧ MkAt w b (off + k * 7) x := by
  obtain ⟨b, off, x, e, hx, hb, hr⟩ := Rl.at_ h hk
  exact ⟨b, off, x, e, hx, hb, mk_at hr⟩
section
variable {H : Type} {enc : TypeId × Value → H} {W : World} {b0 : Nat} {held : Bool} {m : Nat} {cs : List Value} {y : DataW H × List MemPlace}
theorem ans_fields : ∃ f0 f1 f2 f3 : Field, Try.prog.underlying 25 = some (.struct #[f0, f1, f2, f3]) ∧ (f0.offset = 0 ∧ f0.type = 23) ∧ (f1.offset = 1 ∧ f1.type = 3) ∧ (f2.offset = 2 ∧ f2.type = 3) ∧ (f3.offset = 3 ∧ f3.type = 3) :=
  ⟨_, _, _, _, Try.underlying25, ⟨rfl, rfl⟩, ⟨rfl, rfl⟩, ⟨rfl, rfl⟩, ⟨rfl, rfl⟩⟩
theorem mark_fields : ∃ f0 f1 f2 f3 : Field, Try.prog.underlying 29 = some (.struct #[f0, f1, f2, f3]) ∧ (f0.offset = 0 ∧ f0.type = 3) ∧ (f1.offset = 1 ∧ f1.type = 3) ∧ (f2.offset = 2 ∧ f2.type = 4) ∧ (f3.offset = 3 ∧ f3.type = 25) :=
  ⟨_, _, _, _, Try.underlying29, ⟨rfl, rfl⟩, ⟨rfl, rfl⟩, ⟨rfl, rfl⟩, ⟨rfl, rfl⟩⟩
theorem s_int : Try.prog.cellsOf 3 = 1 := by kernel_rfl
theorem s_bool : Try.prog.cellsOf 4 = 1 := by kernel_rfl
theorem s_errno : Try.prog.cellsOf 23 = 1 := by kernel_rfl
theorem s_ans : Try.prog.cellsOf 25 = 4 := by kernel_rfl
theorem s_mark : Try.prog.cellsOf 29 = 7 := by kernel_rfl
theorem rd_ans (h : DataW.trod enc Try.prog W b0 (fun _ => true) held m 25 cs = some y) (hl : Lite 25 y.1) : ∃ a : An, cs = aenc a := by
  obtain ⟨f0, f1, f2, f3, hu, ⟨o0, t0⟩, ⟨o1, t1⟩, ⟨o2, t2⟩, ⟨o3, t3⟩⟩ := ans_fields
  obtain ⟨k, hc, hf⟩ := rd_fields hu h hl
  rw [s_ans] at hc
  match cs, hc with
  | [v0, v1, v2, v3], _ =>
    obtain ⟨z0, g0, _⟩ := hf 0 f0 rfl
    obtain ⟨z1, g1, _⟩ := hf 1 f1 rfl
    obtain ⟨z2, g2, _⟩ := hf 2 f2 rfl
    obtain ⟨z3, g3, _⟩ := hf 3 f3 rfl
    simp [o0, o1, o2, o3, t0, t1, t2, t3, s_int, s_errno] at g0 g1 g2 g3
    obtain ⟨n0, e0, _⟩ := fd_int Try.underlying23 g0
    obtain ⟨n1, e1, _⟩ := fd_int Try.underlying3 g1
    obtain ⟨n2, e2, _⟩ := fd_int Try.underlying3 g2
    obtain ⟨n3, e3, _⟩ := fd_int Try.underlying3 g3
    simp at e0 e1 e2 e3
    exact ⟨⟨n0, n1, n2, n3⟩, by rw [e0, e1, e2, e3]; rfl⟩
theorem rd_mark (h : DataW.trod enc Try.prog W b0 (fun _ => true) held m 29 cs = some y) (hl : Lite 29 y.1) : ∃ x : Mk, cs = menc x ∧ True := by
  obtain ⟨f0, f1, f2, f3, hu, ⟨o0, t0⟩, ⟨o1, t1⟩, ⟨o2, t2⟩, ⟨o3, t3⟩⟩ := mark_fields
  obtain ⟨k, hc, hf⟩ := rd_fields hu h hl
  rw [s_mark] at hc
  match cs, hc with
  | [v0, v1, v2, v3, v4, v5, v6], _ =>
    obtain ⟨z0, g0, _⟩ := hf 0 f0 rfl
    obtain ⟨z1, g1, _⟩ := hf 1 f1 rfl
    obtain ⟨z2, g2, _⟩ := hf 2 f2 rfl
    obtain ⟨z3, g3, l3⟩ := hf 3 f3 rfl
    rw [t3] at l3
    simp [o0, o1, o2, o3, t0, t1, t2, t3, s_int, s_bool, s_ans] at g0 g1 g2 g3
    obtain ⟨n0, e0, _⟩ := fd_int Try.underlying3 g0
    obtain ⟨n1, e1, _⟩ := fd_int Try.underlying3 g1
    obtain ⟨n2, e2⟩ := fd_bool Try.underlying4 g2
    obtain ⟨a, e3⟩ := rd_ans g3 l3
    simp [aenc] at e0 e1 e2 e3
    exact ⟨⟨n0, n1, n2, a⟩, by rw [e0, e1, e2, e3.1, e3.2.1, e3.2.2.1, e3.2.2.2]; rfl, trivial⟩
end
instance : Inhabited Mk := ⟨mk0⟩
set_option maxRecDepth 100000 in
theorem open_marks_held {H : Type} {enc : TypeId × Value → H} {W : World} {r : Reach} {base b0 : Nat} {held : Bool} {v : Value} {d : DataW H} {p : List MemPlace}
    (hv : Value.okWide Try.prog W r base 22 v) (h : DataW.Trod enc Try.prog W b0 (fun _ => true) held 22 v d p)
    (hw : ∀ n ∈ d.weights Try.prog 22, n ≤ reachBytes) :
    ∃ (a : Option Addr) (len cap : Nat) (l : List Mk), v = .slice a len cap ∧ Ms W a len l ∧ (a = none → cap = 0) := by
  obtain ⟨a, len, cap, rfl⟩ := okWide_slice Try.underlying22 hv
  obtain ⟨fuel, hf⟩ := h
  obtain ⟨a', len', cap', l, h1, h2, _, h3⟩ := rd_flat (bytes := 56) Try.underlying22 s_mark (by kernel_rfl) mflat (fun _ => True) (fun m cs y h hl => rd_mark h hl) hf hw
  simp [Value.cells] at h1
  obtain ⟨rfl, rfl, rfl⟩ := h1
  exact ⟨_, _, _, l, rfl, h2, h3⟩
set_option maxRecDepth 100000 in
theorem open_answer_held {H : Type} {enc : TypeId × Value → H} {W : World} {r : Reach} {base b0 : Nat} {held : Bool} {v : Value} {d : DataW H} {p : List MemPlace}
    (hv : Value.okWide Try.prog W r base 25 v) (h : DataW.Trod enc Try.prog W b0 (fun _ => true) held 25 v d p)
    (hw : ∀ n ∈ d.weights Try.prog 25, n ≤ reachBytes) :
    ∃ (a : An), v = aval a ∧ True := by
  obtain ⟨cs, rfl, hc⟩ := okWide_struct Try.underlying25 hv
  obtain ⟨fuel, hf⟩ := h
  obtain ⟨a, h1⟩ := rd_ans hf hw
  simp only [Value.cells] at h1
  refine ⟨a, ?_, trivial⟩
  unfold aval
  rw [show cs = #[.int .i64 a.e, .int .i64 a.v, .int .i64 a.lo, .int .i64 a.hi] from Array.toList_inj.1 h1]
set_option maxRecDepth 100000 in
theorem open_i64 {H : Type} {enc : TypeId × Value → H} {W : World} {r : Reach} {base b0 : Nat} {sp : Nat → Bool} {held : Bool} {v : Value} {d : DataW H} {p : List MemPlace}
    (hv : Value.okWide Try.prog W r base 3 v) (h : DataW.Trod enc Try.prog W b0 sp held 3 v d p) :
    ∃ a : Int, v = .int .i64 a ∧ -9223372036854775808 ≤ a ∧ a ≤ 9223372036854775807 := by
  obtain ⟨a, rfl, rfl, rfl, w⟩ := open_int Try.underlying3 hv h
  exact ⟨a, rfl, bounds_i64 w⟩
end Go.Proofs.Ytbeikdppcfpplaa
