/- What goes with lists of structs in memory: they stay behind a step of a clerk. No condition. -/
import Derived.Test.YthklpkmdmkgjiaaGreatFWireLs
namespace Go.Proofs.YthklpkmdmkgjiaaGreat
open Go.ChangeShapes Go.WideShapes Go.ChangeAt Go.RowKit B8 Cm Wm
set_option linter.unusedVariables false

theorem Ls.stq {S : World → Nat → Prop} {w w1 : World} {M : Nat} {a : Option Addr} {n cp d : Nat} {xss : List (List Atom)} (h : Ls w (Out S M w) a n cp d xss) (g : Stq S w w1) : Ls w1 (Out S M w1) a n cp d xss :=
  h.same (fun b hb => ⟨⟨Nat.lt_of_lt_of_le hb.1 g.size, g.keep hb.1 hb.2.1, hb.2.2⟩, g.block b hb.1 hb.2.1⟩)
theorem Ls.stp {S : World → Nat → Prop} {w w1 : World} {M lo hi : Nat} {a : Option Addr} {n cp d : Nat} {xss : List (List Atom)} (h : Ls w (Out S M w) a n cp d xss) (g : Stp S M lo hi w w1) : Ls w1 (Out S M w1) a n cp d xss :=
  h.same (fun b hb => g.out hb)
theorem Ls.stpB {B : Nat} {S : World → Nat → Prop} {w w1 : World} {M lo hi : Nat} {a : Option Addr} {n cp d : Nat} {xss : List (List Atom)} (h : Ls w (OutB B S M w) a n cp d xss) (g : Stp S M lo hi w w1) : Ls w1 (OutB B S M w1) a n cp d xss :=
  h.same (fun b hb => g.outB hb)
theorem FlatAt.toB {B : Nat} {S : World → Nat → Prop} {w : World} {M o : Nat} {xs : List Atom} (h : FlatAt w (OutF B S M w) M o xs) : FlatAt w (OutB B S M w) M o xs :=
  h.same (fun _ _ => rfl) (fun b hb => ⟨⟨hb.1, hb.2.1, hb.2.2.1, hb.2.2.2.1⟩, rfl⟩)
theorem stp_drew {S : World → Nat → Prop} {M lo hi : Nat} {w u : World} (h : Stp S M lo hi w u) (hS : ∀ k, S u.drew k → S u k) : Stp S M lo hi w u.drew :=
  ⟨h.os, h.tape, h.output, h.size, h.block, h.cell, h.frozen, fun k hk => h.own k (hS k hk)⟩
theorem Ls.nil_ (w : World) (P : Nat → Prop) (d : Nat) : Ls w P none 0 0 d [] := ⟨rfl, Nat.le_refl _, fun _ => rfl, fun h => absurd h (by omega)⟩
theorem timesA_all {α : Type} {Q : α → Prop} (item : St → Ans α) (h : ∀ s, Q (item s).v) : ∀ (n : Nat) (s : St), ∀ x ∈ (timesA item n s).v, Q x
  | 0, s, x, hx => by simp [timesA] at hx
  | n + 1, s, x, hx => by
    simp only [timesA, List.mem_cons] at hx
    rcases hx with rfl | hx
    · exact h s
    · exact timesA_all item h n _ x hx
theorem Ls.row {w : World} {P : Nat → Prop} {a : Option Addr} {n cp d : Nat} {xss : List (List Atom)} (h : Ls w P a n cp d xss) {i : Nat} {xs : List Atom} (hx : xss[i]? = some xs) (h0 : 0 < n) :
    ∃ (b off : Nat) (cs : List Value), a = some ⟨b, off, none⟩ ∧ P b ∧ cs.length = d ∧ (∀ j v, cs[j]? = some v → w.cell? ⟨b, off + i * d + j, none⟩ = some v) ∧ Vals w P cs.toArray xs := by
  obtain ⟨b, off, e, hp, hr⟩ := h.rows h0
  obtain ⟨hl, hf⟩ := hr i xs hx
  have hc : ∀ j, j < d → ((List.range d).map fun j => (w.cell? ⟨b, off + i * d + j, none⟩).getD undef)[j]? = w.cell? ⟨b, off + i * d + j, none⟩ := fun j hj => by
    obtain ⟨v, h1, _⟩ := hf j _ (List.getElem?_eq_getElem (by omega))
    rw [List.getElem?_map, List.getElem?_range hj]
    simp [h1]
  refine ⟨b, off, (List.range d).map fun j => (w.cell? ⟨b, off + i * d + j, none⟩).getD undef, e, hp, by simp, fun j v hv => ?_, by simp [hl], fun j x hx => ?_⟩
  · have hj : j < d := by have := (List.getElem?_eq_some_iff.1 hv).1; simpa using this
    rw [hc j hj] at hv
    exact hv
  · obtain ⟨v, h1, h2⟩ := hf j x hx
    refine ⟨v, ?_, h2⟩
    have hj : j < d := by have := (List.getElem?_eq_some_iff.1 hx).1; omega
    have := hc j hj
    simp only [List.getElem?_toArray]
    rw [this]
    exact h1
end Go.Proofs.YthklpkmdmkgjiaaGreat
