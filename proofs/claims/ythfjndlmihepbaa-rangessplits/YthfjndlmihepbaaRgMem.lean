/- A place's cells; places that came in. No condition. -/
import Derived.Test.YthfjndlmihepbaaRgMath
import Derived.Test.YthfjndlmihepbaaFlatRow
import Derived.Test.YthfjndlmihepbaaRows
import Derived.WalkKit
import Derived.ProofKit
import Derived.OpenShut
import Derived.ShutString
import Derived.ChangeOld
import Derived.ChangeMaps
import Derived.Lib.SmallJoins
namespace Go.Proofs.Ythfjndlmihepbaa
open Go.ChangeShapes Go.WideShapes Go.ChangeAt Go.RowKit Go.Joins Rg
set_option linter.unusedVariables false

theorem own : ownKnob Try.prog.godebug = none := by kernel_rfl
theorem laidOut : laidOutB Try.prog = true := by kernel_rfl
def penc (r : Pc) : List Value := [.int .i64 r.g, .string r.k, .int .i64 r.ep]
def pval (r : Pc) : Value := .agg #[.int .i64 r.g, .string r.k, .int .i64 r.ep]
theorem pflat : Flat penc 3 := ⟨fun _ => rfl, fun x v hv => by simp [penc] at hv; rcases hv with rfl | rfl | rfl <;> rfl, by omega⟩
abbrev Ps (w : World) (a : Option Addr) (n : Nat) (l : List Pc) : Prop := Rl penc 3 32 w a n l
structure PcAt (w : World) (b o : Nat) (h : Pc) : Prop where
  c0 : w.cell? ⟨b, o, none⟩ = some (.int .i64 h.g)
  c1 : w.cell? ⟨b, o + 1, none⟩ = some (.string h.k)
  c2 : w.cell? ⟨b, o + 2, none⟩ = some (.int .i64 h.ep)
theorem pc_at {w : World} {b o : Nat} {h : Pc} (g : w.rangeAt b o (penc h)) : PcAt w b o h := ⟨g 0 _ rfl, g 1 _ rfl, g 2 _ rfl⟩
theorem pc_row {w : World} {b : Nat} {t : TypeId} {fr : Nat × Nat} (h : Pc) (g : w.heap[b]? = some (.cells #[.int .i64 h.g, .string h.k, .int .i64 h.ep] t fr)) : PcAt w b 0 h := by
  refine ⟨?_, ?_, ?_⟩ <;> (rw [cell_of_row _ _ _ _ _ _ g]; rfl)
theorem ps_at {w : World} {a : Option Addr} {n : Nat} {l : List Pc} (h : Ps w a n l) {k : Nat} (hk : k < n) : ∃ b off x, a = some ⟨b, off, none⟩ ∧ l[k]? = some x ∧ b < w.heap.size ∧ PcAt w b (off + k * 3) x := by
  obtain ⟨b, off, x, e, hx, hb, hr⟩ := Rl.at_ h hk
  exact ⟨b, off, x, e, hx, hb, pc_at hr⟩
/-- a place lies in the block b -/
structure Pb (w : World) (b : Nat) (x : Pc) : Prop where
  row : w.heap[b]? = some (.cells #[.int .i64 x.g, .string x.k, .int .i64 x.ep] 39 (0, 0))
theorem Pb.lt {w : World} {b : Nat} {x : Pc} (h : Pb w b x) : b < w.heap.size := (Array.getElem?_eq_some_iff.1 h.row).1
theorem Pb.below {w w' : World} {b : Nat} {x : Pc} (h : Pb w b x) (hb : Below w.heap.size w w') : Pb w' b x := ⟨(hb.block _ h.lt).trans h.row⟩
theorem Pb.at_ {w : World} {b : Nat} {x : Pc} (h : Pb w b x) : PcAt w b 0 x := pc_row x h.row
theorem Pb.fz {w : World} {b : Nat} {x : Pc} (h : Pb w b x) : ∀ o, w.frozen? ⟨b, o, none⟩ = false := fun o => frozen_of_row _ _ _ _ _ h.row
theorem pb_new (w : World) (x : Pc) : Pb (w.alloc (.cells #[.int .i64 x.g, .string x.k, .int .i64 x.ep] 39)) w.heap.size x := ⟨heap_alloc_new w _⟩
/-- a slice that may be: no capacity without an address, and no more than the capacity -/
structure Cp (a : Option Addr) (n c : Nat) : Prop where
  no : a = none → c = 0
  le : n ≤ c
theorem cp_none : Cp none 0 0 := ⟨fun _ => rfl, Nat.le_refl _⟩
/-- what an int has -/
def I64 (x : Int) : Prop := -9223372036854775808 ≤ x ∧ x ≤ 9223372036854775807
structure PcW (r : Pc) : Prop where
  g : I64 r.g
  k : r.k.size ≤ maxLen
  ep : I64 r.ep
theorem pc0W : PcW pc0 := ⟨by unfold I64; exact ⟨by decide, by decide⟩, by decide, by unfold I64; exact ⟨by decide, by decide⟩⟩
section
variable {H : Type} {enc : TypeId × Value → H} {W : World} {b0 : Nat} {held : Bool} {m : Nat} {cs : List Value} {y : DataW H × List MemPlace}
theorem place_fields : ∃ f0 f1 f2 : Field, Try.prog.underlying 39 = some (.struct #[f0, f1, f2]) ∧ (f0.offset = 0 ∧ f0.type = 3) ∧ (f1.offset = 1 ∧ f1.type = 9) ∧ (f2.offset = 2 ∧ f2.type = 3) :=
  ⟨_, _, _, Try.underlying39, ⟨rfl, rfl⟩, ⟨rfl, rfl⟩, ⟨rfl, rfl⟩⟩
theorem s_int : Try.prog.cellsOf 3 = 1 := by kernel_rfl
theorem s_str : Try.prog.cellsOf 9 = 1 := by kernel_rfl
theorem s_place : Try.prog.cellsOf 39 = 3 := by kernel_rfl
theorem fd_i64 {t : TypeId} (hu : Try.prog.underlying t = some (.int .i64)) (h : DataW.trod enc Try.prog W b0 (fun _ => true) held m t cs = some y) : ∃ n : Int, cs = [.int .i64 n] ∧ I64 n := by
  obtain ⟨n, e, _, hw⟩ := DataW.trod_int hu h
  exact ⟨n, e, bounds_i64 hw⟩
set_option maxRecDepth 100000 in
theorem rd_place (h : DataW.trod enc Try.prog W b0 (fun _ => true) held m 39 cs = some y) (hl : Lite 39 y.1) : ∃ x : Pc, cs = penc x ∧ PcW x := by
  obtain ⟨f0, f1, f2, hu, ⟨o0, t0⟩, ⟨o1, t1⟩, ⟨o2, t2⟩⟩ := place_fields
  obtain ⟨k, hc, hf⟩ := rd_fields hu h hl
  rw [s_place] at hc
  match cs, hc with
  | [v0, v1, v2], _ =>
    obtain ⟨z0, g0, _⟩ := hf 0 f0 rfl
    obtain ⟨z1, g1, _⟩ := hf 1 f1 rfl
    obtain ⟨z2, g2, _⟩ := hf 2 f2 rfl
    simp [o0, o1, o2, t0, t1, t2, s_int, s_str] at g0 g1 g2
    obtain ⟨n0, e0, w0⟩ := fd_i64 Try.underlying3 g0
    obtain ⟨n1, e1, _, w1⟩ := DataW.trod_string Try.underlying9 g1
    obtain ⟨n2, e2, w2⟩ := fd_i64 Try.underlying3 g2
    simp at e0 e1 e2
    exact ⟨⟨n0, n1, n2⟩, by rw [e0, e1, e2]; rfl, w0, w1, w2⟩
end
set_option maxRecDepth 100000 in
theorem open_places_held {H : Type} {enc : TypeId × Value → H} {W : World} {r : Reach} {base b0 : Nat} {held : Bool} {v : Value} {d : DataW H} {p : List MemPlace}
    (hv : Value.okWide Try.prog W r base 22 v) (h : DataW.Trod enc Try.prog W b0 (fun _ => true) held 22 v d p)
    (hw : ∀ n ∈ d.weights Try.prog 22, n ≤ reachBytes) :
    ∃ (a : Option Addr) (n c : Nat) (l : List Pc), v = .slice a n c ∧ Ps W a n l ∧ (∀ x ∈ l, PcW x) ∧ Cp a n c ∧ n * 32 ≤ 140737488351232 := by
  obtain ⟨a, len, cap, rfl⟩ := okWide_slice Try.underlying22 hv
  obtain ⟨fuel, hf⟩ := h
  obtain ⟨a', len', cap', l, h1, h2, h3, h4, h5, h6⟩ := rd_flat6 (bytes := 32) Try.underlying22 s_place (by kernel_rfl) pflat PcW (fun m cs y h hl => rd_place h hl) hf hw
  simp [Value.cells] at h1
  obtain ⟨rfl, rfl, rfl⟩ := h1
  exact ⟨_, _, _, l, rfl, h2, h3, ⟨h4, h5⟩, h6⟩
set_option maxRecDepth 100000 in
theorem open_str {H : Type} {enc : TypeId × Value → H} {W : World} {r : Reach} {base b0 : Nat} {sp : Nat → Bool} {held : Bool} {v : Value} {d : DataW H} {p : List MemPlace}
    (hv : Value.okWide Try.prog W r base 9 v) (h : DataW.Trod enc Try.prog W b0 sp held 9 v d p) :
    ∃ s : ByteArray, v = .string s ∧ s.size ≤ maxLen := by
  obtain ⟨a, rfl, rfl, rfl, w⟩ := ChangeMaps.open_string Try.underlying9 hv h
  exact ⟨a, rfl, w⟩
set_option maxRecDepth 100000 in
theorem open_i64 {H : Type} {enc : TypeId × Value → H} {W : World} {r : Reach} {base b0 : Nat} {sp : Nat → Bool} {held : Bool} {v : Value} {d : DataW H} {p : List MemPlace}
    (hv : Value.okWide Try.prog W r base 3 v) (h : DataW.Trod enc Try.prog W b0 sp held 3 v d p) :
    ∃ a : Int, v = .int .i64 a ∧ -9223372036854775808 ≤ a ∧ a ≤ 9223372036854775807 := by
  obtain ⟨a, rfl, rfl, rfl, w⟩ := open_int Try.underlying3 hv h
  exact ⟨a, rfl, bounds_i64 w⟩
end Go.Proofs.Ythfjndlmihepbaa
