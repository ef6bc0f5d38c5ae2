/- What the landed writer and reader make of the lists of a state. No condition but the size. -/
import Derived.Test.YthklpkmdmkgjiaaGreatFWireWl
import Derived.Test.YthklpkmdmkgjiaaGreatFWireRl
import Derived.Test.YthklpkmdmkgjiaaGreatFWireClos
import Derived.Test.YthklpkmdmkgjiaaGreatJN
namespace Go.Proofs.YthklpkmdmkgjiaaGreat
open Go.ChangeShapes Go.WideShapes Go.ChangeAt Go.RowKit B8 Cm Wm
set_option linter.unusedVariables false

theorem call_state2 (args : Array Value) (w : World) : (callFunc 32 args).run Tryz.prog w = .ok (.enter 32 args) w := by kernel_rfl
theorem wlist_state2 {w : World} {B W : Nat} {fs : List Fld} {M p : Nat} {a : Option Addr} {n cp : Nat} {xss : List (List Atom)} {C : Nat} (h : Wlp w B W fs M p a n cp 7 xss) (hk : ∀ xs ∈ xss, xs.map Atom.k = [0, 0, 2, 0, 0, 0, 0]) (hC : w.cell? ⟨C, 0, none⟩ = some (.iface 76 (.pointer (some ⟨W, 0, none⟩)))) (hS : ¬ Wown W w C) :
    Calls Tryz.prog 31 #[.iface 76 (.pointer (some ⟨W, 0, none⟩)), .pointer (some ⟨M, p, none⟩), .func (.func 32) #[] #[.pointer (some ⟨C, 0, none⟩)]] w fun e w' => e = .returned (.tuple #[]) ∧ Wl3 w B W fs M p xss w' :=
  go_list_mark (D := 76) (W := W) (M := M) (p := p) (a := a) (n := n) (cp := cp) (Fi := 32) (cap := #[.pointer (some ⟨C, 0, none⟩)]) nilw_count methw_count callw_count call_state2
    (R0 := fun u => u = w) (R1 := Wl1 w B W fs n) (R2 := Wl2 w B W fs n 7 xss) (R3 := Wl3 w B W fs M p xss)
    (fun u hu => by subst hu; exact h.hc) (fun u hu => by subst hu; exact wl_count h)
    (fun k u h1 => by obtain ⟨c, cs, e1, e2, e3, e4⟩ := wl_copy h 66 k u h1; exact ⟨c, cs, e1, e2, e3, fun w' hr hb => e4 _ w' hr hb⟩)
    (fun k g i u hi h2 => clos_state2 (R0 := fun x => x = u) (fun x e => by subst e; exact h2.2.2.2.1.cell hC hS) (fun x e => by subst e; exact wl_item h hi h2 (fun fs' xs hx hws hB hf hg hS => wmark_any hws hB hf (hk xs (List.mem_of_getElem? hx)) hg hS)) u rfl)
    (fun k g u h2 => by obtain ⟨a1, a2, a3⟩ := wl_store h h2; exact ⟨a1, a2, a3 _⟩) w rfl
theorem rlist_state2 {B RR R : Nat} {a : Option Addr} {n cp : Nat} {bs : List Int} {s : St} {w : World} {M p C : Nat} (h : Rlp B RR R a n cp bs s [0, 0, 2, 0, 0, 0, 0] w M p) (hC : w.cell? ⟨C, 0, none⟩ = some (.iface 131 (.pointer (some ⟨RR, 0, none⟩)))) (hS : ¬ Rown RR R w C) :
    Calls Tryz.prog 31 #[.iface 131 (.pointer (some ⟨RR, 0, none⟩)), .pointer (some ⟨M, p, none⟩), .func (.func 32) #[] #[.pointer (some ⟨C, 0, none⟩)]] w fun e w' => e = .returned (.tuple #[]) ∧ Rl3 B RR R a n cp bs s [0, 0, 2, 0, 0, 0, 0] w M p w' :=
  go_list_mark (D := 131) (W := RR) (M := M) (p := p) (a := none) (n := 0) (cp := 0) (Fi := 32) (cap := #[.pointer (some ⟨C, 0, none⟩)]) nilr_count methr_count callr_count call_state2
    (R0 := fun u => u = w) (R1 := Rl1 B RR R a n cp bs s w) (R2 := Rl2 B RR R a n cp bs s [0, 0, 2, 0, 0, 0, 0] w) (R3 := Rl3 B RR R a n cp bs s [0, 0, 2, 0, 0, 0, 0] w M p)
    (fun u hu => by subst hu; exact h.hc) (fun u hu => by subst hu; exact rl_count h)
    (fun k u h1 => by obtain ⟨c, e4⟩ := rl_copy h 66 k u h1; exact ⟨c, [], by simp, fun v hv => by simp at hv, fun h0 => absurd h0 (by simp), fun w' hr hb => e4 (madeCells #[.int .i64 0, .int .i64 0, .bool false, .int .i64 0, .int .i64 0, .int .i64 0, .int .i64 0] (k * 7)).toList w' (by rw [Array.length_toList, size_madeCells]; rfl) (by simpa using hr) hb⟩)
    (fun k g i u hi h2 => clos_state2 (R0 := fun x => x = u) (fun x e => by subst e; exact (World.cell?_of_block (w := w) (a := ⟨C, 0, none⟩) (h2.2.2.2.2.1.block C (World.block_lt_of_cell? w _ hC) hS)).trans hC) (fun x e => by subst e; exact rl_item h hi h2 (fun s' hr hF hg hroom => rmark_any hr hF hg hroom)) u rfl)
    (fun k g u h2 => rl_store h h2) w rfl

theorem call_state3 (args : Array Value) (w : World) : (callFunc 35 args).run Tryz.prog w = .ok (.enter 35 args) w := by kernel_rfl
theorem wlist_state3 {w : World} {B W : Nat} {fs : List Fld} {M p : Nat} {a : Option Addr} {n cp : Nat} {xss : List (List Atom)} {C : Nat} (h : Wlp w B W fs M p a n cp 11 xss) (hk : ∀ xs ∈ xss, xs.map Atom.k = [0, 0, 0, 0, 0, 0, 3, 3, 0, 0, 0]) (hC : w.cell? ⟨C, 0, none⟩ = some (.iface 76 (.pointer (some ⟨W, 0, none⟩)))) (hS : ¬ Wown W w C) :
    Calls Tryz.prog 34 #[.iface 76 (.pointer (some ⟨W, 0, none⟩)), .pointer (some ⟨M, p, none⟩), .func (.func 35) #[] #[.pointer (some ⟨C, 0, none⟩)]] w fun e w' => e = .returned (.tuple #[]) ∧ Wl3 w B W fs M p xss w' :=
  go_list_wait (D := 76) (W := W) (M := M) (p := p) (a := a) (n := n) (cp := cp) (Fi := 35) (cap := #[.pointer (some ⟨C, 0, none⟩)]) nilw_count methw_count callw_count call_state3
    (R0 := fun u => u = w) (R1 := Wl1 w B W fs n) (R2 := Wl2 w B W fs n 11 xss) (R3 := Wl3 w B W fs M p xss)
    (fun u hu => by subst hu; exact h.hc) (fun u hu => by subst hu; exact wl_count h)
    (fun k u h1 => by obtain ⟨c, cs, e1, e2, e3, e4⟩ := wl_copy h 69 k u h1; exact ⟨c, cs, e1, e2, e3, fun w' hr hb => e4 _ w' hr hb⟩)
    (fun k g i u hi h2 => clos_state3 (R0 := fun x => x = u) (fun x e => by subst e; exact h2.2.2.2.1.cell hC hS) (fun x e => by subst e; exact wl_item h hi h2 (fun fs' xs hx hws hB hf hg hS => wwait_any hws hB hf (hk xs (List.mem_of_getElem? hx)) hg hS)) u rfl)
    (fun k g u h2 => by obtain ⟨a1, a2, a3⟩ := wl_store h h2; exact ⟨a1, a2, a3 _⟩) w rfl
theorem rlist_state3 {B RR R : Nat} {a : Option Addr} {n cp : Nat} {bs : List Int} {s : St} {w : World} {M p C : Nat} (h : Rlp B RR R a n cp bs s [0, 0, 0, 0, 0, 0, 3, 3, 0, 0, 0] w M p) (hC : w.cell? ⟨C, 0, none⟩ = some (.iface 131 (.pointer (some ⟨RR, 0, none⟩)))) (hS : ¬ Rown RR R w C) :
    Calls Tryz.prog 34 #[.iface 131 (.pointer (some ⟨RR, 0, none⟩)), .pointer (some ⟨M, p, none⟩), .func (.func 35) #[] #[.pointer (some ⟨C, 0, none⟩)]] w fun e w' => e = .returned (.tuple #[]) ∧ Rl3 B RR R a n cp bs s [0, 0, 0, 0, 0, 0, 3, 3, 0, 0, 0] w M p w' :=
  go_list_wait (D := 131) (W := RR) (M := M) (p := p) (a := none) (n := 0) (cp := 0) (Fi := 35) (cap := #[.pointer (some ⟨C, 0, none⟩)]) nilr_count methr_count callr_count call_state3
    (R0 := fun u => u = w) (R1 := Rl1 B RR R a n cp bs s w) (R2 := Rl2 B RR R a n cp bs s [0, 0, 0, 0, 0, 0, 3, 3, 0, 0, 0] w) (R3 := Rl3 B RR R a n cp bs s [0, 0, 0, 0, 0, 0, 3, 3, 0, 0, 0] w M p)
    (fun u hu => by subst hu; exact h.hc) (fun u hu => by subst hu; exact rl_count h)
    (fun k u h1 => by obtain ⟨c, e4⟩ := rl_copy h 69 k u h1; exact ⟨c, [], by simp, fun v hv => by simp at hv, fun h0 => absurd h0 (by simp), fun w' hr hb => e4 (madeCells #[.int .i64 0, .int .i64 0, .int .i64 0, .int .i64 0, .int .i64 0, .int .i64 0, .string ⟨#[]⟩, .string ⟨#[]⟩, .int .i64 0, .int .i64 0, .int .i64 0] (k * 11)).toList w' (by rw [Array.length_toList, size_madeCells]; rfl) (by simpa using hr) hb⟩)
    (fun k g i u hi h2 => clos_state3 (R0 := fun x => x = u) (fun x e => by subst e; exact (World.cell?_of_block (w := w) (a := ⟨C, 0, none⟩) (h2.2.2.2.2.1.block C (World.block_lt_of_cell? w _ hC) hS)).trans hC) (fun x e => by subst e; exact rl_item h hi h2 (fun s' hr hF hg hroom => rwait_any hr hF hg hroom)) u rfl)
    (fun k g u h2 => rl_store h h2) w rfl

theorem call_state4 (args : Array Value) (w : World) : (callFunc 38 args).run Tryz.prog w = .ok (.enter 38 args) w := by kernel_rfl
theorem wlist_state4 {w : World} {B W : Nat} {fs : List Fld} {M p : Nat} {a : Option Addr} {n cp : Nat} {xss : List (List Atom)} {C : Nat} (h : Wlp w B W fs M p a n cp 8 xss) (hk : ∀ xs ∈ xss, xs.map Atom.k = [0, 0, 3, 3, 0, 0, 0, 0]) (hC : w.cell? ⟨C, 0, none⟩ = some (.iface 76 (.pointer (some ⟨W, 0, none⟩)))) (hS : ¬ Wown W w C) :
    Calls Tryz.prog 37 #[.iface 76 (.pointer (some ⟨W, 0, none⟩)), .pointer (some ⟨M, p, none⟩), .func (.func 38) #[] #[.pointer (some ⟨C, 0, none⟩)]] w fun e w' => e = .returned (.tuple #[]) ∧ Wl3 w B W fs M p xss w' :=
  go_list_deal (D := 76) (W := W) (M := M) (p := p) (a := a) (n := n) (cp := cp) (Fi := 38) (cap := #[.pointer (some ⟨C, 0, none⟩)]) nilw_count methw_count callw_count call_state4
    (R0 := fun u => u = w) (R1 := Wl1 w B W fs n) (R2 := Wl2 w B W fs n 8 xss) (R3 := Wl3 w B W fs M p xss)
    (fun u hu => by subst hu; exact h.hc) (fun u hu => by subst hu; exact wl_count h)
    (fun k u h1 => by obtain ⟨c, cs, e1, e2, e3, e4⟩ := wl_copy h 72 k u h1; exact ⟨c, cs, e1, e2, e3, fun w' hr hb => e4 _ w' hr hb⟩)
    (fun k g i u hi h2 => clos_state4 (R0 := fun x => x = u) (fun x e => by subst e; exact h2.2.2.2.1.cell hC hS) (fun x e => by subst e; exact wl_item h hi h2 (fun fs' xs hx hws hB hf hg hS => wdeal_any hws hB hf (hk xs (List.mem_of_getElem? hx)) hg hS)) u rfl)
    (fun k g u h2 => by obtain ⟨a1, a2, a3⟩ := wl_store h h2; exact ⟨a1, a2, a3 _⟩) w rfl
theorem rlist_state4 {B RR R : Nat} {a : Option Addr} {n cp : Nat} {bs : List Int} {s : St} {w : World} {M p C : Nat} (h : Rlp B RR R a n cp bs s [0, 0, 3, 3, 0, 0, 0, 0] w M p) (hC : w.cell? ⟨C, 0, none⟩ = some (.iface 131 (.pointer (some ⟨RR, 0, none⟩)))) (hS : ¬ Rown RR R w C) :
    Calls Tryz.prog 37 #[.iface 131 (.pointer (some ⟨RR, 0, none⟩)), .pointer (some ⟨M, p, none⟩), .func (.func 38) #[] #[.pointer (some ⟨C, 0, none⟩)]] w fun e w' => e = .returned (.tuple #[]) ∧ Rl3 B RR R a n cp bs s [0, 0, 3, 3, 0, 0, 0, 0] w M p w' :=
  go_list_deal (D := 131) (W := RR) (M := M) (p := p) (a := none) (n := 0) (cp := 0) (Fi := 38) (cap := #[.pointer (some ⟨C, 0, none⟩)]) nilr_count methr_count callr_count call_state4
    (R0 := fun u => u = w) (R1 := Rl1 B RR R a n cp bs s w) (R2 := Rl2 B RR R a n cp bs s [0, 0, 3, 3, 0, 0, 0, 0] w) (R3 := Rl3 B RR R a n cp bs s [0, 0, 3, 3, 0, 0, 0, 0] w M p)
    (fun u hu => by subst hu; exact h.hc) (fun u hu => by subst hu; exact rl_count h)
    (fun k u h1 => by obtain ⟨c, e4⟩ := rl_copy h 72 k u h1; exact ⟨c, [], by simp, fun v hv => by simp at hv, fun h0 => absurd h0 (by simp), fun w' hr hb => e4 (madeCells #[.int .i64 0, .int .i64 0, .string ⟨#[]⟩, .string ⟨#[]⟩, .int .i64 0, .int .i64 0, .int .i64 0, .int .i64 0] (k * 8)).toList w' (by rw [Array.length_toList, size_madeCells]; rfl) (by simpa using hr) hb⟩)
    (fun k g i u hi h2 => clos_state4 (R0 := fun x => x = u) (fun x e => by subst e; exact (World.cell?_of_block (w := w) (a := ⟨C, 0, none⟩) (h2.2.2.2.2.1.block C (World.block_lt_of_cell? w _ hC) hS)).trans hC) (fun x e => by subst e; exact rl_item h hi h2 (fun s' hr hF hg hroom => rdeal_any hr hF hg hroom)) u rfl)
    (fun k g u h2 => rl_store h h2) w rfl

theorem call_state5 (args : Array Value) (w : World) : (callFunc 41 args).run Tryz.prog w = .ok (.enter 41 args) w := by kernel_rfl
theorem wlist_state5 {w : World} {B W : Nat} {fs : List Fld} {M p : Nat} {a : Option Addr} {n cp : Nat} {xss : List (List Atom)} {C : Nat} (h : Wlp w B W fs M p a n cp 2 xss) (hk : ∀ xs ∈ xss, xs.map Atom.k = [0, 0]) (hC : w.cell? ⟨C, 0, none⟩ = some (.iface 76 (.pointer (some ⟨W, 0, none⟩)))) (hS : ¬ Wown W w C) :
    Calls Tryz.prog 40 #[.iface 76 (.pointer (some ⟨W, 0, none⟩)), .pointer (some ⟨M, p, none⟩), .func (.func 41) #[] #[.pointer (some ⟨C, 0, none⟩)]] w fun e w' => e = .returned (.tuple #[]) ∧ Wl3 w B W fs M p xss w' :=
  go_list_end (D := 76) (W := W) (M := M) (p := p) (a := a) (n := n) (cp := cp) (Fi := 41) (cap := #[.pointer (some ⟨C, 0, none⟩)]) nilw_count methw_count callw_count call_state5
    (R0 := fun u => u = w) (R1 := Wl1 w B W fs n) (R2 := Wl2 w B W fs n 2 xss) (R3 := Wl3 w B W fs M p xss)
    (fun u hu => by subst hu; exact h.hc) (fun u hu => by subst hu; exact wl_count h)
    (fun k u h1 => by obtain ⟨c, cs, e1, e2, e3, e4⟩ := wl_copy h 75 k u h1; exact ⟨c, cs, e1, e2, e3, fun w' hr hb => e4 _ w' hr hb⟩)
    (fun k g i u hi h2 => clos_state5 nilw_ints methw_ints callw_ints (R0 := fun x => x = u) (R1 := Wl2 w B W fs n 2 xss k g (i + 1)) (fun x e => by subst e; exact h2.2.2.2.1.cell hC hS) (fun x h3 => h3.2.2.2.1.cell hC hS) (fun x e => by subst e; exact wl_item h hi h2 (fun fs' xs hx hws hB hf hg hS => wints_call (n := 2) hws hB hf (kinds_all (hk xs (List.mem_of_getElem? hx)) (by simp)) (by have := congrArg List.length (hk xs (List.mem_of_getElem? hx)); simpa using this) hg hS #[.pointer (some ⟨g, i * 2, none⟩), .pointer (some ⟨g, i * 2 + 1, none⟩)] 82 (fun j hj => match j, hj with | 0, _ => rfl | 1, _ => rfl))) u rfl)
    (fun k g u h2 => by obtain ⟨a1, a2, a3⟩ := wl_store h h2; exact ⟨a1, a2, a3 _⟩) w rfl
theorem rlist_state5 {B RR R : Nat} {a : Option Addr} {n cp : Nat} {bs : List Int} {s : St} {w : World} {M p C : Nat} (h : Rlp B RR R a n cp bs s [0, 0] w M p) (hC : w.cell? ⟨C, 0, none⟩ = some (.iface 131 (.pointer (some ⟨RR, 0, none⟩)))) (hS : ¬ Rown RR R w C) :
    Calls Tryz.prog 40 #[.iface 131 (.pointer (some ⟨RR, 0, none⟩)), .pointer (some ⟨M, p, none⟩), .func (.func 41) #[] #[.pointer (some ⟨C, 0, none⟩)]] w fun e w' => e = .returned (.tuple #[]) ∧ Rl3 B RR R a n cp bs s [0, 0] w M p w' :=
  go_list_end (D := 131) (W := RR) (M := M) (p := p) (a := none) (n := 0) (cp := 0) (Fi := 41) (cap := #[.pointer (some ⟨C, 0, none⟩)]) nilr_count methr_count callr_count call_state5
    (R0 := fun u => u = w) (R1 := Rl1 B RR R a n cp bs s w) (R2 := Rl2 B RR R a n cp bs s [0, 0] w) (R3 := Rl3 B RR R a n cp bs s [0, 0] w M p)
    (fun u hu => by subst hu; exact h.hc) (fun u hu => by subst hu; exact rl_count h)
    (fun k u h1 => by obtain ⟨c, e4⟩ := rl_copy h 75 k u h1; exact ⟨c, [], by simp, fun v hv => by simp at hv, fun h0 => absurd h0 (by simp), fun w' hr hb => e4 (madeCells #[.int .i64 0, .int .i64 0] (k * 2)).toList w' (by rw [Array.length_toList, size_madeCells]; rfl) (by simpa using hr) hb⟩)
    (fun k g i u hi h2 => clos_state5 nilr_ints methr_ints callr_ints (R0 := fun x => x = u) (R1 := Rl2 B RR R a n cp bs s [0, 0] w k g (i + 1)) (fun x e => by subst e; exact (World.cell?_of_block (w := w) (a := ⟨C, 0, none⟩) (h2.2.2.2.2.1.block C (World.block_lt_of_cell? w _ hC) hS)).trans hC) (fun x h3 => (World.cell?_of_block (w := w) (a := ⟨C, 0, none⟩) (h3.2.2.2.2.1.block C (World.block_lt_of_cell? w _ hC) hS)).trans hC) (fun x e => by subst e; exact rl_item h hi h2 (fun s' hr hF hg hroom => rints_call (k := 2) hr hF hg hroom #[.pointer (some ⟨g, i * 2, none⟩), .pointer (some ⟨g, i * 2 + 1, none⟩)] 82 (fun j hj => match j, hj with | 0, _ => rfl | 1, _ => rfl))) u rfl)
    (fun k g u h2 => rl_store h h2) w rfl

end Go.Proofs.YthklpkmdmkgjiaaGreat
