/- Ledgers with marks behind them, and that the program does something. No condition but that the lists can be read. -/
import Derived.Test.YtjcbhgkfbilifaaFLgFind
import Derived.Test.YtjcbhgkfbilifaaFFlatKeptR
namespace Go.Proofs.Ytjcbhgkfbilifaa
open Go.ChangeShapes Go.WideShapes Go.ChangeAt Go.RowKit Ao Lg
set_option linter.unusedVariables false

theorem lput_x {w : World} {a : Option Addr} {n c : Nat} {l L : List Rt} {r : Rt} {E : Int} (h : Rs w a n l) (hq1 : (n + 1) * 40 ≤ 140737488355328) (eE : putE l r = E) (eL : putL l r = L) :
    Calls Try.prog 17 #[.slice a n c, .agg #[.int .i64 r.g, .string r.k, .int .i64 r.ls, .int .i64 r.nt]] w fun e w' => ∃ a' n' c', e = .returned (.tuple #[.slice a' n' c', .int .i64 E]) ∧ Rs w' a' n' L ∧ Below w.heap.size w w' ∧ Fr w.heap.size a' ∧ Cp a' n' c' := by
  subst eE
  subst eL
  exact lput_any h hq1
theorem lnet_x {w : World} {a : Option Addr} {n c : Nat} {l : List Rt} {g ls v : Int} {k : ByteArray} (h : Rs w a n l) (e : netV l g k ls = v) :
    Calls Try.prog 22 #[.slice a n c, .int .i64 g, .string k, .int .i64 ls] w fun e w' => e = .returned (.int .i64 v) ∧ Below w.heap.size w w' := by
  subst e
  exact lnet_any h
theorem lcheck_x {w : World} {a : Option Addr} {n c : Nat} {l : List Rt} {v : Int} (h : Rs w a n l) (e : lcheckE l = v) :
    Calls Try.prog 20 #[.slice a n c] w fun e w' => e = .returned (.int .i64 v) ∧ Below w.heap.size w w' := by
  subst e
  exact lcheck_any h
theorem rplain_yes {w : World} {a a' : Option Addr} {n n' c c' : Nat} {l l' : List Rt} (h : Rs w a n l) (h' : Rs w a' n' l') (e : l = l') :
    Calls Try.prog 21 #[.slice a n c, .slice a' n' c'] w fun e w' => e = .returned (.bool true) ∧ Below w.heap.size w w' := by
  refine (FnR.plain_any (cap := c) (cap' := c') h h').mono ?_
  rintro e2 w' ⟨rfl, k, rfl⟩
  exact ⟨by rw [decide_eq_true e], ⟨rfl, rfl, rfl, Nat.le_refl _, fun _ _ => rfl⟩⟩
def mk71r : Rt := ⟨71, ⟨#[]⟩, 0, 0⟩
/-- what own makes: the list, in a row with two marks behind it -/
structure OwnedR (w : World) (B g len : Nat) (l : List Rt) : Prop where
  row : w.ownsRow B 43 4 (.slice (some ⟨g, 0, none⟩) (len + 2) (len + 2)) (len + 2) (fcells renc (l ++ [mk71r, mk71r]))
  rs : Rs w (some ⟨g, 0, none⟩) len l
theorem OwnedR.below {w w' : World} {B g len : Nat} {l : List Rt} (h : OwnedR w B g len l) (hb : Below w.heap.size w w') : OwnedR w' B g len l := ⟨row_keeps h.row hb, h.rs.below hb⟩
theorem OwnedR.lt {w : World} {B g len : Nat} {l : List Rt} (h : OwnedR w B g len l) : B ≤ g ∧ g < w.heap.size := h.row.lt g rfl
set_option maxRecDepth 100000 in
theorem lown_any {w : World} {a : Option Addr} {len cap : Nat} {l : List Rt} (h : Rs w a len l) (hno : Cp a len cap) :
    Calls Try.prog 15 #[.slice a len cap] w fun e w' => ∃ g, e = .returned (.slice (some ⟨g, 0, none⟩) len (len + 2)) ∧ Below w.heap.size w w' ∧ OwnedR w' w.heap.size g len l := by
  have C := hide (FnR.own_any (cap := cap) (mk := mk71r) h hno.no)
  unfold rval mk71r at C
  simp only at C
  have HL := hide h.len
  have HR := hide h.room
  clear h hno
  go_enter Try.func15, Try.ntmps15
  go_wp2_with fail
  refine C.out.mono ?_
  rintro e w1 ⟨g, rfl, hb, ho⟩
  have HB := hide hb
  have HO := hide ho
  clear hb ho
  go_wp2_with fail
  go_returns
  exact ⟨g, rfl, HB.out, HO.out, (FnR.own_row (mk := mk71r) HL.out HR.out HO.out).1⟩
set_option maxRecDepth 100000 in
theorem lkept_any {w : World} {B g len cap : Nat} {a : Option Addr} {l : List Rt} (h : Rs w a len l) (ho : OwnedR w B g len l) :
    Calls Try.prog 24 #[.slice (some ⟨g, 0, none⟩) len (len + 2), .slice a len cap] w fun e w' => e = .returned (.bool true) ∧ Below w.heap.size w w' := by
  have C := hide (FnR.kept_any (cap := cap) (mk := mk71r) h ho.row)
  unfold rval mk71r at C
  simp only at C
  clear h ho
  go_enter Try.func24, Try.ntmps24
  go_wp2_with fail
  refine C.out.mono ?_
  rintro e w1 ⟨rfl, hb⟩
  have HB := hide hb
  clear hb
  go_wp2_with fail
  go_returns
  exact ⟨rfl, HB.out⟩
def rtA : Rt := ⟨1, ⟨#[107]⟩, 2, 3⟩
theorem awake_put : putE [] rtA = 0 := by decide
theorem awake_list : putL [] rtA = [rtA] := by decide
theorem awake_net : netV [rtA] 1 ⟨#[107]⟩ 2 = 3 := by decide
set_option maxRecDepth 100000 in
theorem lawake_any (w : World) : Calls Try.prog 19 #[] w fun e w' => e = .returned (.bool true) ∧ Below w.heap.size w w' := by
  have C1 := hide (lput_any (c := 0) (r := rtA) (Rl.nil (enc := renc) (d := 4) (by_ := 40) w) (by omega))
  rw [awake_put, awake_list] at C1
  unfold rval rtA at C1
  simp only at C1
  go_enter Try.func19, Try.ntmps19
  go_wp2_with fail
  refine C1.out.mono ?_
  rintro e w1 ⟨a, n, c, rfl, h, hb, _, _⟩
  have HB := hide hb
  obtain rfl : n = 1 := h.len.symm
  have C2 := hide (lnet_any (c := c) (g := 1) (k := ⟨#[107]⟩) (ls := 2) h)
  rw [show netV [(⟨1, ⟨#[107]⟩, 2, 3⟩ : Rt)] 1 ⟨#[107]⟩ 2 = 3 from awake_net] at C2
  clear hb h C1
  go_wp2_with fail
  refine C2.out.mono ?_
  rintro e w2 ⟨rfl, hb⟩
  have HB2 : Hid (Below w.heap.size w w2) := HB.out.trans (hb.mono HB.out.size)
  clear hb
  go_wp2_with fail
  go_returns
  exact ⟨rfl, HB2.out⟩
end Go.Proofs.Ytjcbhgkfbilifaa
