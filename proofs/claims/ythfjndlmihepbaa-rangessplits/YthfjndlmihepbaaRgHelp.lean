/- Maps with marks behind them, and whether two lists are alike. No condition but that the lists can be read. -/
import Derived.Test.YthfjndlmihepbaaRgMem
import Derived.Test.YthfjndlmihepbaaFlatKeptP
namespace Go.Proofs.Ythfjndlmihepbaa
open Go.ChangeShapes Go.WideShapes Go.ChangeAt Go.RowKit Rg
set_option linter.unusedVariables false

theorem pplain_yes {w : World} {a a' : Option Addr} {n n' c c' : Nat} {l l' : List Pc} (h : Ps w a n l) (h' : Ps w a' n' l') (e : l = l') :
    Calls Try.prog 25 #[.slice a n c, .slice a' n' c'] w fun e w' => e = .returned (.bool true) ∧ Below w.heap.size w w' := by
  refine (FnP.plain_any (cap := c) (cap' := c') h h').mono ?_
  rintro e2 w' ⟨rfl, k, rfl⟩
  exact ⟨by rw [decide_eq_true e], ⟨rfl, rfl, rfl, Nat.le_refl _, fun _ _ => rfl⟩⟩
def mk71 : Pc := ⟨71, ⟨#[]⟩, 0⟩
/-- what own makes: the list, in a row with two marks behind it -/
structure OwnedP (w : World) (B g len : Nat) (l : List Pc) : Prop where
  row : w.ownsRow B 39 3 (.slice (some ⟨g, 0, none⟩) (len + 2) (len + 2)) (len + 2) (fcells penc (l ++ [mk71, mk71]))
  ps : Ps w (some ⟨g, 0, none⟩) len l
theorem OwnedP.below {w w' : World} {B g len : Nat} {l : List Pc} (h : OwnedP w B g len l) (hb : Below w.heap.size w w') : OwnedP w' B g len l := ⟨row_keeps h.row hb, h.ps.below hb⟩
theorem OwnedP.lt {w : World} {B g len : Nat} {l : List Pc} (h : OwnedP w B g len l) : B ≤ g ∧ g < w.heap.size := h.row.lt g rfl
theorem cp_own {g len : Nat} : Cp (some ⟨g, 0, none⟩) len (len + 2) := ⟨fun e => (by cases e), by omega⟩
set_option maxRecDepth 100000 in
theorem pown_any {w : World} {a : Option Addr} {len cap : Nat} {l : List Pc} (h : Ps w a len l) (hno : Cp a len cap) :
    Calls Try.prog 9 #[.slice a len cap] w fun e w' => ∃ g, e = .returned (.slice (some ⟨g, 0, none⟩) len (len + 2)) ∧ Below w.heap.size w w' ∧ OwnedP w' w.heap.size g len l := by
  have C := hide (FnP.own_any (cap := cap) (mk := mk71) h hno.no)
  unfold pval mk71 at C
  simp only at C
  have HL := hide h.len
  have HR := hide h.room
  clear h hno
  go_enter Try.func9, Try.ntmps9
  go_wp2_with fail
  refine C.out.mono ?_
  rintro e w1 ⟨g, rfl, hb, ho⟩
  have HB := hide hb
  have HO := hide ho
  clear hb ho
  go_wp2_with fail
  go_returns
  exact ⟨g, rfl, HB.out, HO.out, (FnP.own_row (mk := mk71) HL.out HR.out HO.out).1⟩
set_option maxRecDepth 100000 in
theorem pkept_any {w : World} {B g len cap : Nat} {a : Option Addr} {l : List Pc} (h : Ps w a len l) (ho : OwnedP w B g len l) :
    Calls Try.prog 15 #[.slice (some ⟨g, 0, none⟩) len (len + 2), .slice a len cap] w fun e w' => e = .returned (.bool true) ∧ Below w.heap.size w w' := by
  have C := hide (FnP.kept_any (cap := cap) (mk := mk71) h ho.row)
  unfold pval mk71 at C
  simp only at C
  clear h ho
  go_enter Try.func15, Try.ntmps15
  go_wp2_with fail
  refine C.out.mono ?_
  rintro e w1 ⟨rfl, hb⟩
  have HB := hide hb
  clear hb
  go_wp2_with fail
  go_returns
  exact ⟨rfl, HB.out⟩
end Go.Proofs.Ythfjndlmihepbaa
