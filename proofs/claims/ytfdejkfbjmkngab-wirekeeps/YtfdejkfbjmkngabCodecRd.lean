/- A reader in memory, as one predicate, and what keeps it. No condition. -/
import Derived.Test.YtfdejkfbjmkngabSq8
import Derived.Test.YtfdejkfbjmkngabCodecRdMath
import Derived.Laws.World
import Derived.Test.YtfdejkfbjmkngabSm8
namespace Go.Proofs.Ytfdejkfbjmkngab
open Go.ChangeShapes Go.WideShapes Go.ChangeAt Go.RowKit B8 Cm
set_option linter.unusedVariables false

/-- a reader in memory: its bytes, its place, its fault -/
structure Rd (w : World) (R : Nat) (a : Option Addr) (n cp : Nat) (bs : List Int) (at_ : Nat) (err : Int) : Prop where
  c0 : w.cell? ⟨R, 0, none⟩ = some (.slice a n cp)
  c1 : w.cell? ⟨R, 1, none⟩ = some (.int .i64 at_)
  c2 : w.cell? ⟨R, 2, none⟩ = some (.int .i64 err)
  f1 : w.frozen? ⟨R, 1, none⟩ = false
  f2 : w.frozen? ⟨R, 2, none⟩ = false
  sq : Sq w a n cp bs
  apart : ∀ b off, a = some ⟨b, off, none⟩ → b ≠ R
  place : at_ ≤ n
  room : n ≤ 140737488355328

theorem acc_form (vv k : Nat) (c : Int) (c0 : 0 ≤ c) (c1 : c ≤ 255) (h1 : (c % 128).toNat * 2 ^ (7 * k) < 18446744073709551616) (h2 : vv + (c % 128).toNat * 2 ^ (7 * k) < 18446744073709551616) :
    IntKind.u64.wrap ((vv : Int) + IntKind.u64.wrap (c % 128 * 2 ^ (7 * k))) = ((vv + (c % 128).toNat * 2 ^ (7 * k) : Nat) : Int) := by
  obtain ⟨d, hd⟩ : ∃ d : Nat, c % 128 = d := ⟨(c % 128).toNat, by omega⟩
  rw [hd] at h1 h2 ⊢
  rw [Int.toNat_natCast] at h1 h2 ⊢
  have e : ((d : Int) * 2 ^ (7 * k)) = ((d * 2 ^ (7 * k) : Nat) : Int) := by simp
  rw [e, wrapU, wrapU]
  omega

theorem grown_setCell (w : World) (R o : Nat) (v : Value) : w.grownBy (w.setCell ⟨R, o, none⟩ v) (some R) :=
  ⟨rfl, rfl, rfl, by simp [World.setCell], fun k hk hne => Below.heap_setCell _ _ _ _ (fun e => hne (by rw [e]))⟩
theorem grown_drewN (w : World) (n : Nat) (row : Option Nat) : w.grownBy (w.drewN n) row := ⟨rfl, rfl, rfl, Nat.le_refl _, fun _ _ _ => rfl⟩
theorem Sq.grown {w w' : World} {a : Option Addr} {len cap : Nat} {zs : List Int} {row : Option Nat} (h : Sq w a len cap zs) (hg : w.grownBy w' row) (hne : ∀ b off, a = some ⟨b, off, none⟩ → some b ≠ row) : Sq w' a len cap zs :=
  ⟨h.length, h.lecap, h.nil, fun h0 => by
    obtain ⟨b, off, e, hc⟩ := h.cells h0
    exact ⟨b, off, e, fun j hj => hg.cell (hc j hj) (hne b off e)⟩, h.wf⟩

section
variable {w w' : World} {R : Nat} {a : Option Addr} {n cp : Nat} {bs : List Int} {s : Nat} {err : Int}
theorem Rd.drewN (h : Rd w R a n cp bs s err) (k : Nat) : Rd (w.drewN k) R a n cp bs s err := ⟨h.c0, h.c1, h.c2, h.f1, h.f2, h.sq.drew k, h.apart, h.place, h.room⟩
theorem Rd.grown {row : Option Nat} (h : Rd w R a n cp bs s err) (hg : w.grownBy w' row) (hR : some R ≠ row) (hb : ∀ b off, a = some ⟨b, off, none⟩ → some b ≠ row) : Rd w' R a n cp bs s err := by
  have hlt := World.block_lt_of_cell? w _ h.c0
  refine ⟨hg.cell h.c0 hR, hg.cell h.c1 hR, hg.cell h.c2 hR, ?_, ?_, Sq.grown h.sq hg hb, h.apart, h.place, h.room⟩
  · exact (World.frozen?_of_block (w := w) (hg.block R hlt hR)).trans h.f1
  · exact (World.frozen?_of_block (w := w) (hg.block R hlt hR)).trans h.f2
theorem Rd.moved (h : Rd w R a n cp bs s err) (s' : Nat) (hs : s' ≤ n) : Rd (w.setCell ⟨R, 1, none⟩ (.int .i64 s')) R a n cp bs s' err := by
  refine ⟨?_, World.cell?_setCell_same _ _ _ h.c1, ?_, by simpa using h.f1, by simpa using h.f2, Sq.grown h.sq (grown_setCell w R 1 _) (fun b off e => ?_), h.apart, hs, h.room⟩
  · rw [World.cell?_setCell_other _ _ _ _ (by simp)]; exact h.c0
  · rw [World.cell?_setCell_other _ _ _ _ (by simp)]; exact h.c2
  · simpa using h.apart b off e
theorem Rd.failed (h : Rd w R a n cp bs s err) (x : Int) : Rd (w.setCell ⟨R, 2, none⟩ (.int .i64 x)) R a n cp bs s x := by
  refine ⟨?_, ?_, World.cell?_setCell_same _ _ _ h.c2, by simpa using h.f1, by simpa using h.f2, Sq.grown h.sq (grown_setCell w R 2 _) (fun b off e => ?_), h.apart, h.place, h.room⟩
  · rw [World.cell?_setCell_other _ _ _ _ (by simp)]; exact h.c0
  · rw [World.cell?_setCell_other _ _ _ _ (by simp)]; exact h.c1
  · simpa using h.apart b off e
end

theorem bs_bd {bs : List Int} (h : wfs bs) : ∀ x ∈ bs, 0 ≤ x ∧ x ≤ 255 := by
  intro x hx
  obtain ⟨j, hj, e⟩ := List.getElem_of_mem hx
  have := bounds_u8 (h j)
  rw [List.getElem?_eq_getElem hj, e] at this
  exact this

theorem grown_below {w w' : World} (h : Below w.heap.size w w') (row : Option Nat) : w.grownBy w' row := ⟨h.os, h.tape, h.output, h.size, fun k hk _ => h.block k hk⟩

end Go.Proofs.Ytfdejkfbjmkngab
