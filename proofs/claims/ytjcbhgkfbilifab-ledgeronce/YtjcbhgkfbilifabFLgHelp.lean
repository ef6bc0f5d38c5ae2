/- Ledgers with marks behind them, and that the program does something. No condition but that the lists can be read. -/
import Derived.Test.YtjcbhgkfbilifabFLgFind
import Derived.Test.YtjcbhgkfbilifabFFlatKeptR
namespace Go.Proofs.Ytjcbhgkfbilifab
open Go.ChangeShapes Go.WideShapes Go.ChangeAt Go.RowKit Ao Lg
set_option linter.unusedVariables false

theorem lput_x {w : World} {a : Option Addr} {n c : Nat} {l L : List Rt} {r : Rt} {E : Int} (h : Rs w a n l) (hq1 : (n + 1) * 40 ≤ 140737488355328) (eE : putE l r = E) (eL : putL l r = L) :
    Calls Try.prog 8 #[.slice a n c, .agg #[.int .i64 r.g, .string r.k, .int .i64 r.ls, .int .i64 r.nt]] w fun e w' => ∃ a' n' c', e = .returned (.tuple #[.slice a' n' c', .int .i64 E]) ∧ Rs w' a' n' L ∧ Below w.heap.size w w' ∧ Fr w.heap.size a' ∧ Cp a' n' c' := by
  subst eE
  subst eL
  exact lput_any h hq1
theorem lnet_x {w : World} {a : Option Addr} {n c : Nat} {l : List Rt} {g ls v : Int} {k : ByteArray} (h : Rs w a n l) (e : netV l g k ls = v) :
    Calls Try.prog 13 #[.slice a n c, .int .i64 g, .string k, .int .i64 ls] w fun e w' => e = .returned (.int .i64 v) ∧ Below w.heap.size w w' := by
  subst e
  exact lnet_any h
theorem lcheck_x {w : World} {a : Option Addr} {n c : Nat} {l : List Rt} {v : Int} (h : Rs w a n l) (e : lcheckE l = v) :
    Calls Try.prog 27 #[.slice a n c] w fun e w' => e = .returned (.int .i64 v) ∧ Below w.heap.size w w' := by
  subst e
  exact lcheck_any h
def mk71r : Rt := ⟨71, ⟨#[]⟩, 0, 0⟩
/-- what own makes: the list, in a row with two marks behind it -/
structure OwnedR (w : World) (B g len : Nat) (l : List Rt) : Prop where
  row : w.ownsRow B 38 4 (.slice (some ⟨g, 0, none⟩) (len + 2) (len + 2)) (len + 2) (fcells renc (l ++ [mk71r, mk71r]))
  rs : Rs w (some ⟨g, 0, none⟩) len l
theorem OwnedR.below {w w' : World} {B g len : Nat} {l : List Rt} (h : OwnedR w B g len l) (hb : Below w.heap.size w w') : OwnedR w' B g len l := ⟨row_keeps h.row hb, h.rs.below hb⟩
theorem OwnedR.lt {w : World} {B g len : Nat} {l : List Rt} (h : OwnedR w B g len l) : B ≤ g ∧ g < w.heap.size := h.row.lt g rfl
def rtA : Rt := ⟨1, ⟨#[107]⟩, 2, 3⟩
theorem awake_put : putE [] rtA = 0 := by decide
theorem awake_list : putL [] rtA = [rtA] := by decide
theorem awake_net : netV [rtA] 1 ⟨#[107]⟩ 2 = 3 := by decide
set_option maxRecDepth 100000 in
theorem lawake_any (w : World) : Calls Try.prog 4 #[] w fun e w' => e = .returned (.bool true) ∧ Below w.heap.size w w' := by
  have C1 := hide (lput_any (c := 0) (r := rtA) (Rl.nil (enc := renc) (d := 4) (by_ := 40) w) (by omega))
  rw [awake_put, awake_list] at C1
  unfold rval rtA at C1
  simp only at C1
  go_enter Try.func4, Try.ntmps4
  go_wp2_with fail
  refine C1.out.mono ?_
  rintro e w1 ⟨a, n, c, rfl, h, hb, _, _⟩
  have HB := hide hb
  obtain rfl : n = 1 := h.len.symm
  have C2 := hide (lnet_any (c := c) (g := 1) (k := ⟨#[107]⟩) (ls := 2) h)
  rw [show netV [(⟨1, ⟨#[107]⟩, 2, 3⟩ : Rt)] 1 ⟨#[107]⟩ 2 = 3 from awake_net] at C2
  clear hb h C1
  go_wp2_with fail
  refine C2.out.mono ?_
  rintro e w2 ⟨rfl, hb⟩
  have HB2 : Hid (Below w.heap.size w w2) := HB.out.trans (hb.mono HB.out.size)
  clear hb
  go_wp2_with fail
  go_returns
  exact ⟨rfl, HB2.out⟩
end Go.Proofs.Ytjcbhgkfbilifab
