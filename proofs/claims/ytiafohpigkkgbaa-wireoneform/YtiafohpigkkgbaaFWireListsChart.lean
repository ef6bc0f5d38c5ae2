/- What the landed writer and reader make of the lists of a chart. No condition but the size. -/
import Derived.Test.YtiafohpigkkgbaaFWireWl
import Derived.Test.YtiafohpigkkgbaaFWireRl
import Derived.Test.YtiafohpigkkgbaaFWireClos
import Derived.Test.YtiafohpigkkgbaaFWireListPlace
import Derived.Test.YtiafohpigkkgbaaFWireListMark
namespace Go.Proofs.Ytiafohpigkkgbaa
open Go.ChangeShapes Go.WideShapes Go.ChangeAt Go.RowKit B8 Cm Wm
set_option linter.unusedVariables false

theorem call_chart1 (args : Array Value) (w : World) : (callFunc 51 args).run Try.prog w = .ok (.enter 51 args) w := by kernel_rfl
theorem wlist_chart1 {w : World} {B W : Nat} {fs : List Fld} {M p : Nat} {a : Option Addr} {n cp : Nat} {xss : List (List Atom)} {C : Nat} (h : Wlp w B W fs M p a n cp 3 xss) (hk : ∀ xs ∈ xss, xs.map Atom.k = [0, 3, 0]) (hC : w.cell? ⟨C, 0, none⟩ = some (.iface 99 (.pointer (some ⟨W, 0, none⟩)))) (hS : ¬ Wown W w C) :
    Calls Try.prog 50 #[.iface 99 (.pointer (some ⟨W, 0, none⟩)), .pointer (some ⟨M, p, none⟩), .func (.func 51) #[] #[.pointer (some ⟨C, 0, none⟩)]] w fun e w' => e = .returned (.tuple #[]) ∧ Wl3 w B W fs M p xss w' :=
  go_list_place (D := 99) (W := W) (M := M) (p := p) (a := a) (n := n) (cp := cp) (Fi := 51) (cap := #[.pointer (some ⟨C, 0, none⟩)]) nilw_count methw_count callw_count call_chart1
    (R0 := fun u => u = w) (R1 := Wl1 w B W fs n) (R2 := Wl2 w B W fs n 3 xss) (R3 := Wl3 w B W fs M p xss)
    (fun u hu => by subst hu; exact h.hc) (fun u hu => by subst hu; exact wl_count h)
    (fun k u h1 => by obtain ⟨c, cs, e1, e2, e3, e4⟩ := wl_copy h 157 k u h1; exact ⟨c, cs, e1, e2, e3, fun w' hr hb => e4 _ w' hr hb⟩)
    (fun k g i u hi h2 => clos_chart1 (R0 := fun x => x = u) (fun x e => by subst e; exact h2.2.2.2.1.cell hC hS) (fun x e => by subst e; exact wl_item h hi h2 (fun fs' xs hx hws hB hf hg hS => wplace_any hws hB hf (hk xs (List.mem_of_getElem? hx)) hg hS)) u rfl)
    (fun k g u h2 => by obtain ⟨a1, a2, a3⟩ := wl_store h h2; exact ⟨a1, a2, a3 _⟩) w rfl
theorem rlist_chart1 {B RR R : Nat} {a : Option Addr} {n cp : Nat} {bs : List Int} {s : St} {w : World} {M p C : Nat} (h : Rlp B RR R a n cp bs s [0, 3, 0] w M p) (hC : w.cell? ⟨C, 0, none⟩ = some (.iface 78 (.pointer (some ⟨RR, 0, none⟩)))) (hS : ¬ Rown RR R w C) :
    Calls Try.prog 50 #[.iface 78 (.pointer (some ⟨RR, 0, none⟩)), .pointer (some ⟨M, p, none⟩), .func (.func 51) #[] #[.pointer (some ⟨C, 0, none⟩)]] w fun e w' => e = .returned (.tuple #[]) ∧ Rl3 B RR R a n cp bs s [0, 3, 0] w M p w' :=
  go_list_place (D := 78) (W := RR) (M := M) (p := p) (a := none) (n := 0) (cp := 0) (Fi := 51) (cap := #[.pointer (some ⟨C, 0, none⟩)]) nilr_count methr_count callr_count call_chart1
    (R0 := fun u => u = w) (R1 := Rl1 B RR R a n cp bs s w) (R2 := Rl2 B RR R a n cp bs s [0, 3, 0] w) (R3 := Rl3 B RR R a n cp bs s [0, 3, 0] w M p)
    (fun u hu => by subst hu; exact h.hc) (fun u hu => by subst hu; exact rl_count h)
    (fun k u h1 => by obtain ⟨c, e4⟩ := rl_copy h 157 k u h1; exact ⟨c, [], by simp, fun v hv => by simp at hv, fun h0 => absurd h0 (by simp), fun w' hr hb => e4 (madeCells #[.int .i64 0, .string ⟨#[]⟩, .int .i64 0] (k * 3)).toList w' (by rw [Array.length_toList, size_madeCells]; rfl) (by simpa using hr) hb⟩)
    (fun k g i u hi h2 => clos_chart1 (R0 := fun x => x = u) (fun x e => by subst e; exact (World.cell?_of_block (w := w) (a := ⟨C, 0, none⟩) (h2.2.2.2.2.1.block C (World.block_lt_of_cell? w _ hC) hS)).trans hC) (fun x e => by subst e; exact rl_item h hi h2 (fun s' hr hF hg hroom => rplace_any hr hF hg hroom)) u rfl)
    (fun k g u h2 => rl_store h h2) w rfl

theorem call_chart2 (args : Array Value) (w : World) : (callFunc 53 args).run Try.prog w = .ok (.enter 53 args) w := by kernel_rfl
theorem wlist_chart2 {w : World} {B W : Nat} {fs : List Fld} {M p : Nat} {a : Option Addr} {n cp : Nat} {xss : List (List Atom)} {C : Nat} (h : Wlp w B W fs M p a n cp 7 xss) (hk : ∀ xs ∈ xss, xs.map Atom.k = [0, 0, 2, 0, 0, 0, 0]) (hC : w.cell? ⟨C, 0, none⟩ = some (.iface 99 (.pointer (some ⟨W, 0, none⟩)))) (hS : ¬ Wown W w C) :
    Calls Try.prog 35 #[.iface 99 (.pointer (some ⟨W, 0, none⟩)), .pointer (some ⟨M, p, none⟩), .func (.func 53) #[] #[.pointer (some ⟨C, 0, none⟩)]] w fun e w' => e = .returned (.tuple #[]) ∧ Wl3 w B W fs M p xss w' :=
  go_list_mark (D := 99) (W := W) (M := M) (p := p) (a := a) (n := n) (cp := cp) (Fi := 53) (cap := #[.pointer (some ⟨C, 0, none⟩)]) nilw_count methw_count callw_count call_chart2
    (R0 := fun u => u = w) (R1 := Wl1 w B W fs n) (R2 := Wl2 w B W fs n 7 xss) (R3 := Wl3 w B W fs M p xss)
    (fun u hu => by subst hu; exact h.hc) (fun u hu => by subst hu; exact wl_count h)
    (fun k u h1 => by obtain ⟨c, cs, e1, e2, e3, e4⟩ := wl_copy h 120 k u h1; exact ⟨c, cs, e1, e2, e3, fun w' hr hb => e4 _ w' hr hb⟩)
    (fun k g i u hi h2 => clos_chart2 (R0 := fun x => x = u) (fun x e => by subst e; exact h2.2.2.2.1.cell hC hS) (fun x e => by subst e; exact wl_item h hi h2 (fun fs' xs hx hws hB hf hg hS => wmark_any hws hB hf (hk xs (List.mem_of_getElem? hx)) hg hS)) u rfl)
    (fun k g u h2 => by obtain ⟨a1, a2, a3⟩ := wl_store h h2; exact ⟨a1, a2, a3 _⟩) w rfl
theorem rlist_chart2 {B RR R : Nat} {a : Option Addr} {n cp : Nat} {bs : List Int} {s : St} {w : World} {M p C : Nat} (h : Rlp B RR R a n cp bs s [0, 0, 2, 0, 0, 0, 0] w M p) (hC : w.cell? ⟨C, 0, none⟩ = some (.iface 78 (.pointer (some ⟨RR, 0, none⟩)))) (hS : ¬ Rown RR R w C) :
    Calls Try.prog 35 #[.iface 78 (.pointer (some ⟨RR, 0, none⟩)), .pointer (some ⟨M, p, none⟩), .func (.func 53) #[] #[.pointer (some ⟨C, 0, none⟩)]] w fun e w' => e = .returned (.tuple #[]) ∧ Rl3 B RR R a n cp bs s [0, 0, 2, 0, 0, 0, 0] w M p w' :=
  go_list_mark (D := 78) (W := RR) (M := M) (p := p) (a := none) (n := 0) (cp := 0) (Fi := 53) (cap := #[.pointer (some ⟨C, 0, none⟩)]) nilr_count methr_count callr_count call_chart2
    (R0 := fun u => u = w) (R1 := Rl1 B RR R a n cp bs s w) (R2 := Rl2 B RR R a n cp bs s [0, 0, 2, 0, 0, 0, 0] w) (R3 := Rl3 B RR R a n cp bs s [0, 0, 2, 0, 0, 0, 0] w M p)
    (fun u hu => by subst hu; exact h.hc) (fun u hu => by subst hu; exact rl_count h)
    (fun k u h1 => by obtain ⟨c, e4⟩ := rl_copy h 120 k u h1; exact ⟨c, [], by simp, fun v hv => by simp at hv, fun h0 => absurd h0 (by simp), fun w' hr hb => e4 (madeCells #[.int .i64 0, .int .i64 0, .bool false, .int .i64 0, .int .i64 0, .int .i64 0, .int .i64 0] (k * 7)).toList w' (by rw [Array.length_toList, size_madeCells]; rfl) (by simpa using hr) hb⟩)
    (fun k g i u hi h2 => clos_chart2 (R0 := fun x => x = u) (fun x e => by subst e; exact (World.cell?_of_block (w := w) (a := ⟨C, 0, none⟩) (h2.2.2.2.2.1.block C (World.block_lt_of_cell? w _ hC) hS)).trans hC) (fun x e => by subst e; exact rl_item h hi h2 (fun s' hr hF hg hroom => rmark_any hr hF hg hroom)) u rfl)
    (fun k g u h2 => rl_store h h2) w rfl

end Go.Proofs.Ytiafohpigkkgbaa
