/- A right's cells; rights that came in. No condition. -/
import Derived.Test.YtjcbhgkfbilifaaJU
import Derived.Test.YtjcbhgkfbilifaaFAcoMem
namespace Go.Proofs.Ytjcbhgkfbilifaa
open Go.ChangeShapes Go.WideShapes Go.ChangeAt Go.RowKit Go.Joins Ao Lg
set_option linter.unusedVariables false

def renc (r : Rt) : List Value := [.int .i64 r.g, .string r.k, .int .i64 r.ls, .int .i64 r.nt]
def rval (r : Rt) : Value := .agg #[.int .i64 r.g, .string r.k, .int .i64 r.ls, .int .i64 r.nt]
theorem rflat : Flat renc 4 := ⟨fun _ => rfl, fun x v hv => by simp [renc] at hv; rcases hv with rfl | rfl | rfl | rfl <;> rfl, by omega⟩
abbrev Rs (w : World) (a : Option Addr) (n : Nat) (l : List Rt) : Prop := Rl renc 4 40 w a n l
structure RtAt (w : World) (b o : Nat) (h : Rt) : Prop where
  c0 : w.cell? ⟨b, o, none⟩ = some (.int .i64 h.g)
  c1 : w.cell? ⟨b, o + 1, none⟩ = some (.string h.k)
  c2 : w.cell? ⟨b, o + 2, none⟩ = some (.int .i64 h.ls)
  c3 : w.cell? ⟨b, o + 3, none⟩ = some (.int .i64 h.nt)
theorem rt_at {w : World} {b o : Nat} {h : Rt} (g : w.rangeAt b o (renc h)) : RtAt w b o h := ⟨g 0 _ rfl, g 1 _ rfl, g 2 _ rfl, g 3 _ rfl⟩
theorem rt_row {w : World} {b : Nat} {t : TypeId} {fr : Nat × Nat} (h : Rt) (g : w.heap[b]? = some (.cells #[.int .i64 h.g, .string h.k, .int .i64 h.ls, .int .i64 h.nt] t fr)) : RtAt w b 0 h := by
  refine ⟨?_, ?_, ?_, ?_⟩ <;> (rw [cell_of_row _ _ _ _ _ _ g]; rfl)
theorem rs_at {w : World} {a : Option Addr} {n : Nat} {l : List Rt} (h : Rs w a n l) {k : Nat} (hk : k < n) : ∃ b off x, a = some ⟨b, off, none⟩ ∧ l[k]? = some x ∧ b < w.heap.size ∧ RtAt w b (off + k * 4) x := by
  obtain ⟨b, off, x, e, hx, hb, hr⟩ := Rl.at_ h hk
  exact ⟨b, off, x, e, hx, hb, rt_at hr⟩
/-- a right lies in the block b -/
structure Rb (w : World) (b : Nat) (x : Rt) : Prop where
  row : w.heap[b]? = some (.cells #[.int .i64 x.g, .string x.k, .int .i64 x.ls, .int .i64 x.nt] 43 (0, 0))
theorem Rb.lt {w : World} {b : Nat} {x : Rt} (h : Rb w b x) : b < w.heap.size := (Array.getElem?_eq_some_iff.1 h.row).1
theorem Rb.below {w w' : World} {b : Nat} {x : Rt} (h : Rb w b x) (hb : Below w.heap.size w w') : Rb w' b x := ⟨(hb.block _ h.lt).trans h.row⟩
theorem Rb.at_ {w : World} {b : Nat} {x : Rt} (h : Rb w b x) : RtAt w b 0 x := rt_row x h.row
theorem Rb.fz {w : World} {b : Nat} {x : Rt} (h : Rb w b x) : ∀ o, w.frozen? ⟨b, o, none⟩ = false := fun o => frozen_of_row _ _ _ _ _ h.row
theorem rb_new (w : World) (x : Rt) : Rb (w.alloc (.cells #[.int .i64 x.g, .string x.k, .int .i64 x.ls, .int .i64 x.nt] 43)) w.heap.size x := ⟨heap_alloc_new w _⟩
structure RtW (r : Rt) : Prop where
  g : I64 r.g
  k : r.k.size ≤ maxLen
  ls : I64 r.ls
  nt : I64 r.nt
theorem rt0W : RtW rt0 := ⟨by unfold I64; exact ⟨by decide, by decide⟩, by decide, by unfold I64; exact ⟨by decide, by decide⟩, by unfold I64; exact ⟨by decide, by decide⟩⟩
section
variable {H : Type} {enc : TypeId × Value → H} {W : World} {b0 : Nat} {held : Bool} {m : Nat} {cs : List Value} {y : DataW H × List MemPlace}
theorem right_fields : ∃ f0 f1 f2 f3 : Field, Try.prog.underlying 43 = some (.struct #[f0, f1, f2, f3]) ∧ (f0.offset = 0 ∧ f0.type = 3) ∧ (f1.offset = 1 ∧ f1.type = 9) ∧ (f2.offset = 2 ∧ f2.type = 3) ∧ (f3.offset = 3 ∧ f3.type = 3) :=
  ⟨_, _, _, _, Try.underlying43, ⟨rfl, rfl⟩, ⟨rfl, rfl⟩, ⟨rfl, rfl⟩, ⟨rfl, rfl⟩⟩
theorem s_right : Try.prog.cellsOf 43 = 4 := by kernel_rfl
set_option maxRecDepth 100000 in
theorem rd_right (h : DataW.trod enc Try.prog W b0 (fun _ => true) held m 43 cs = some y) (hl : Lite 43 y.1) : ∃ x : Rt, cs = renc x ∧ RtW x := by
  obtain ⟨f0, f1, f2, f3, hu, ⟨o0, t0⟩, ⟨o1, t1⟩, ⟨o2, t2⟩, ⟨o3, t3⟩⟩ := right_fields
  obtain ⟨k, hc, hf⟩ := rd_fields hu h hl
  rw [s_right] at hc
  match cs, hc with
  | [v0, v1, v2, v3], _ =>
    obtain ⟨z0, g0, _⟩ := hf 0 f0 rfl
    obtain ⟨z1, g1, _⟩ := hf 1 f1 rfl
    obtain ⟨z2, g2, _⟩ := hf 2 f2 rfl
    obtain ⟨z3, g3, _⟩ := hf 3 f3 rfl
    simp [o0, o1, o2, o3, t0, t1, t2, t3, s_int, s_str] at g0 g1 g2 g3
    obtain ⟨n0, e0, w0⟩ := fd_i64 Try.underlying3 g0
    obtain ⟨n1, e1, _, w1⟩ := DataW.trod_string Try.underlying9 g1
    obtain ⟨n2, e2, w2⟩ := fd_i64 Try.underlying3 g2
    obtain ⟨n3, e3, w3⟩ := fd_i64 Try.underlying3 g3
    simp at e0 e1 e2 e3
    exact ⟨⟨n0, n1, n2, n3⟩, by rw [e0, e1, e2, e3]; rfl, w0, w1, w2, w3⟩
end
set_option maxRecDepth 100000 in
theorem open_right_held {H : Type} {enc : TypeId × Value → H} {W : World} {r : Reach} {base b0 : Nat} {held : Bool} {v : Value} {d : DataW H} {p : List MemPlace}
    (hv : Value.okWide Try.prog W r base 43 v) (h : DataW.Trod enc Try.prog W b0 (fun _ => true) held 43 v d p)
    (hw : ∀ n ∈ d.weights Try.prog 43, n ≤ reachBytes) :
    ∃ (x : Rt), v = rval x ∧ RtW x := by
  obtain ⟨cs, rfl, hc⟩ := okWide_struct Try.underlying43 hv
  obtain ⟨fuel, hf⟩ := h
  obtain ⟨l, h1, h2⟩ := rd_right hf hw
  simp only [Value.cells] at h1
  refine ⟨l, ?_, h2⟩
  unfold rval
  rw [show cs = #[.int .i64 l.g, .string l.k, .int .i64 l.ls, .int .i64 l.nt] from Array.toList_inj.1 h1]
set_option maxRecDepth 100000 in
theorem open_rights_held {H : Type} {enc : TypeId × Value → H} {W : World} {r : Reach} {base b0 : Nat} {held : Bool} {v : Value} {d : DataW H} {p : List MemPlace}
    (hv : Value.okWide Try.prog W r base 41 v) (h : DataW.Trod enc Try.prog W b0 (fun _ => true) held 41 v d p)
    (hw : ∀ n ∈ d.weights Try.prog 41, n ≤ reachBytes) :
    ∃ (a : Option Addr) (n c : Nat) (l : List Rt), v = .slice a n c ∧ Rs W a n l ∧ (∀ x ∈ l, RtW x) ∧ Cp a n c ∧ n * 40 ≤ 140737488351232 := by
  obtain ⟨a, len, cap, rfl⟩ := okWide_slice Try.underlying41 hv
  obtain ⟨fuel, hf⟩ := h
  obtain ⟨a', len', cap', l, h1, h2, h3, h4, h5, h6⟩ := rd_flat6 (bytes := 40) Try.underlying41 s_right (by kernel_rfl) rflat RtW (fun m cs y h hl => rd_right h hl) hf hw
  simp [Value.cells] at h1
  obtain ⟨rfl, rfl, rfl⟩ := h1
  exact ⟨_, _, _, l, rfl, h2, h3, ⟨h4, h5⟩, h6⟩
end Go.Proofs.Ytjcbhgkfbilifaa
