/- What the landed writer and reader make of the lists of a account. No condition but the size. -/
import Derived.Test.YthklpkmdmkgjiaaGreatFWireWl
import Derived.Test.YthklpkmdmkgjiaaGreatFWireRl
import Derived.Test.YthklpkmdmkgjiaaGreatFWireClos
import Derived.Test.YthklpkmdmkgjiaaGreatFWireListHolder
namespace Go.Proofs.YthklpkmdmkgjiaaGreat
open Go.ChangeShapes Go.WideShapes Go.ChangeAt Go.RowKit B8 Cm Wm
set_option linter.unusedVariables false

theorem call_account1 (args : Array Value) (w : World) : (callFunc 63 args).run Tryz.prog w = .ok (.enter 63 args) w := by kernel_rfl
theorem wlist_account1 {w : World} {B W : Nat} {fs : List Fld} {M p : Nat} {a : Option Addr} {n cp : Nat} {xss : List (List Atom)} {C : Nat} (h : Wlp w B W fs M p a n cp 4 xss) (hk : ∀ xs ∈ xss, xs.map Atom.k = [0, 0, 0, 0]) (hC : w.cell? ⟨C, 0, none⟩ = some (.iface 76 (.pointer (some ⟨W, 0, none⟩)))) (hS : ¬ Wown W w C) :
    Calls Tryz.prog 62 #[.iface 76 (.pointer (some ⟨W, 0, none⟩)), .pointer (some ⟨M, p, none⟩), .func (.func 63) #[] #[.pointer (some ⟨C, 0, none⟩)]] w fun e w' => e = .returned (.tuple #[]) ∧ Wl3 w B W fs M p xss w' :=
  go_list_holder (D := 76) (W := W) (M := M) (p := p) (a := a) (n := n) (cp := cp) (Fi := 63) (cap := #[.pointer (some ⟨C, 0, none⟩)]) nilw_count methw_count callw_count call_account1
    (R0 := fun u => u = w) (R1 := Wl1 w B W fs n) (R2 := Wl2 w B W fs n 4 xss) (R3 := Wl3 w B W fs M p xss)
    (fun u hu => by subst hu; exact h.hc) (fun u hu => by subst hu; exact wl_count h)
    (fun k u h1 => by obtain ⟨c, cs, e1, e2, e3, e4⟩ := wl_copy h 146 k u h1; exact ⟨c, cs, e1, e2, e3, fun w' hr hb => e4 _ w' hr hb⟩)
    (fun k g i u hi h2 => clos_account1 nilw_ints methw_ints callw_ints (R0 := fun x => x = u) (R1 := Wl2 w B W fs n 4 xss k g (i + 1)) (fun x e => by subst e; exact h2.2.2.2.1.cell hC hS) (fun x h3 => h3.2.2.2.1.cell hC hS) (fun x e => by subst e; exact wl_item h hi h2 (fun fs' xs hx hws hB hf hg hS => wints_call (n := 4) hws hB hf (kinds_all (hk xs (List.mem_of_getElem? hx)) (by simp)) (by have := congrArg List.length (hk xs (List.mem_of_getElem? hx)); simpa using this) hg hS #[.pointer (some ⟨g, i * 4, none⟩), .pointer (some ⟨g, i * 4 + 1, none⟩), .pointer (some ⟨g, i * 4 + 2, none⟩), .pointer (some ⟨g, i * 4 + 3, none⟩)] 82 (fun j hj => match j, hj with | 0, _ => rfl | 1, _ => rfl | 2, _ => rfl | 3, _ => rfl))) u rfl)
    (fun k g u h2 => by obtain ⟨a1, a2, a3⟩ := wl_store h h2; exact ⟨a1, a2, a3 _⟩) w rfl
theorem rlist_account1 {B RR R : Nat} {a : Option Addr} {n cp : Nat} {bs : List Int} {s : St} {w : World} {M p C : Nat} (h : Rlp B RR R a n cp bs s [0, 0, 0, 0] w M p) (hC : w.cell? ⟨C, 0, none⟩ = some (.iface 131 (.pointer (some ⟨RR, 0, none⟩)))) (hS : ¬ Rown RR R w C) :
    Calls Tryz.prog 62 #[.iface 131 (.pointer (some ⟨RR, 0, none⟩)), .pointer (some ⟨M, p, none⟩), .func (.func 63) #[] #[.pointer (some ⟨C, 0, none⟩)]] w fun e w' => e = .returned (.tuple #[]) ∧ Rl3 B RR R a n cp bs s [0, 0, 0, 0] w M p w' :=
  go_list_holder (D := 131) (W := RR) (M := M) (p := p) (a := none) (n := 0) (cp := 0) (Fi := 63) (cap := #[.pointer (some ⟨C, 0, none⟩)]) nilr_count methr_count callr_count call_account1
    (R0 := fun u => u = w) (R1 := Rl1 B RR R a n cp bs s w) (R2 := Rl2 B RR R a n cp bs s [0, 0, 0, 0] w) (R3 := Rl3 B RR R a n cp bs s [0, 0, 0, 0] w M p)
    (fun u hu => by subst hu; exact h.hc) (fun u hu => by subst hu; exact rl_count h)
    (fun k u h1 => by obtain ⟨c, e4⟩ := rl_copy h 146 k u h1; exact ⟨c, [], by simp, fun v hv => by simp at hv, fun h0 => absurd h0 (by simp), fun w' hr hb => e4 (madeCells #[.int .i64 0, .int .i64 0, .int .i64 0, .int .i64 0] (k * 4)).toList w' (by rw [Array.length_toList, size_madeCells]; rfl) (by simpa using hr) hb⟩)
    (fun k g i u hi h2 => clos_account1 nilr_ints methr_ints callr_ints (R0 := fun x => x = u) (R1 := Rl2 B RR R a n cp bs s [0, 0, 0, 0] w k g (i + 1)) (fun x e => by subst e; exact (World.cell?_of_block (w := w) (a := ⟨C, 0, none⟩) (h2.2.2.2.2.1.block C (World.block_lt_of_cell? w _ hC) hS)).trans hC) (fun x h3 => (World.cell?_of_block (w := w) (a := ⟨C, 0, none⟩) (h3.2.2.2.2.1.block C (World.block_lt_of_cell? w _ hC) hS)).trans hC) (fun x e => by subst e; exact rl_item h hi h2 (fun s' hr hF hg hroom => rints_call (k := 4) hr hF hg hroom #[.pointer (some ⟨g, i * 4, none⟩), .pointer (some ⟨g, i * 4 + 1, none⟩), .pointer (some ⟨g, i * 4 + 2, none⟩), .pointer (some ⟨g, i * 4 + 3, none⟩)] 82 (fun j hj => match j, hj with | 0, _ => rfl | 1, _ => rfl | 2, _ => rfl | 3, _ => rfl))) u rfl)
    (fun k g u h2 => rl_store h h2) w rfl

end Go.Proofs.YthklpkmdmkgjiaaGreat
