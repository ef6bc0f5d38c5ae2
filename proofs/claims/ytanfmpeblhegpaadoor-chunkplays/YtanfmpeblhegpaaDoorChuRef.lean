/- The document's box: May, has. No condition. -/
import Derived.Test.YtanfmpeblhegpaaDoorChuRefMath
import Derived.Test.YtanfmpeblhegpaaDoorChuRefCut
namespace Go.Proofs.YtanfmpeblhegpaaDoor
open Go.ChangeShapes Go.WideShapes Go.ChangeAt Go.RowKit B8 Ck
set_option linter.unusedVariables false

/-- the document's box at R, its pieces of its own from block B on -/
structure Rb (w : World) (B R : Nat) (a : Option Addr) (m c : Nat) (l : List Pv) : Prop where
  row : w.heap[R]? = some (.cells #[.slice a m c] 27 (0, 0))
  lw : Lw w B a m c l
  base : B ≤ R
section
variable {w w' : World} {B R : Nat} {a : Option Addr} {m c : Nat} {l : List Pv}
theorem Rb.below (h : Rb w B R a m c l) (hb : Below w.heap.size w w') : Rb w' B R a m c l := ⟨(hb.block _ (Array.getElem?_eq_some_iff.1 h.row).1).trans h.row, h.lw.below hb, h.base⟩
theorem Rb.c0 (h : Rb w B R a m c l) : w.cell? ⟨R, 0, none⟩ = some (.slice a m c) := by rw [cell_of_row _ _ _ _ _ _ h.row]; rfl
theorem Rb.f (h : Rb w B R a m c l) (o : Nat) : w.frozen? ⟨R, o, none⟩ = false := by simp [World.frozen?, h.row]
end
set_option maxRecDepth 100000 in
theorem rmay_any (p : Pv) (hl : p.b.length = p.m) (w : World) :
    Calls Tryd.prog 22 #[.agg #[.int .i64 p.k, .int .i64 p.of, .int .u32 p.sum, .slice p.a p.m p.cp]] w fun e w' => e = .returned (.bool (mayB p.pc)) ∧ Below w.heap.size w w' := by
  have HL := hide hl
  clear hl
  by_cases h1 : p.of < 1
  · rw [may_eq (p := p.pc) (x := false) (by simp only [Pv.pc]; simp; omega)]
    go_enter Tryd.func22, Tryd.ntmps22
    go_wp2
    go_ret
    exact ⟨rfl, below_alloc (Below.refl _ _) _⟩
  · by_cases h2 : 16 < p.of
    · rw [may_eq (p := p.pc) (x := false) (by simp only [Pv.pc]; simp; omega)]
      go_enter Tryd.func22, Tryd.ntmps22
      go_wp2
      go_ret
      exact ⟨rfl, below_alloc (Below.refl _ _) _⟩
    · by_cases h3 : p.k < 0
      · rw [may_eq (p := p.pc) (x := false) (by simp only [Pv.pc]; simp; omega)]
        go_enter Tryd.func22, Tryd.ntmps22
        go_wp2
        go_ret
        exact ⟨rfl, below_alloc (Below.refl _ _) _⟩
      · by_cases h4 : p.of ≤ p.k
        · rw [may_eq (p := p.pc) (x := false) (by simp only [Pv.pc]; simp; omega)]
          go_enter Tryd.func22, Tryd.ntmps22
          go_wp2
          go_ret
          exact ⟨rfl, below_alloc (Below.refl _ _) _⟩
        · have e1 : IntKind.i64.wrap (p.of - 1) = p.of - 1 := by rw [IntKind.wrap_i64]; omega
          by_cases h5 : p.k < p.of - 1
          · rw [may_eq (p := p.pc) (x := decide ((p.m : Int) = 512)) (by simp only [Pv.pc, HL.out]; simp; omega)]
            go_enter Tryd.func22, Tryd.ntmps22
            go_wp2
            go_ret
            exact ⟨by first | rfl | (simp; done) | (congr 2; rw [Bool.eq_iff_iff]; simp; omega), below_alloc (Below.refl _ _) _⟩
          · by_cases h6 : p.of = 1
            · rw [may_eq (p := p.pc) (x := decide ((p.m : Int) ≤ 512)) (by simp only [Pv.pc, HL.out]; simp; omega)]
              go_enter Tryd.func22, Tryd.ntmps22
              go_wp2
              go_ret
              exact ⟨by first | rfl | (simp; done) | (congr 2; rw [Bool.eq_iff_iff]; simp; omega), below_alloc (Below.refl _ _) _⟩
            · have h6' : (p.of == 1) = false := by simpa using h6
              by_cases h7 : (1 : Int) ≤ (p.m : Int)
              · rw [may_eq (p := p.pc) (x := decide ((p.m : Int) ≤ 512)) (by simp only [Pv.pc, HL.out]; simp; omega)]
                go_enter Tryd.func22, Tryd.ntmps22
                go_wp2
                go_ret
                exact ⟨by first | rfl | (simp; done) | (congr 2; rw [Bool.eq_iff_iff]; simp; omega), below_alloc (Below.refl _ _) _⟩
              · rw [may_eq (p := p.pc) (x := false) (by simp only [Pv.pc, HL.out]; simp; omega)]
                go_enter Tryd.func22, Tryd.ntmps22
                go_wp2
                go_ret
                exact ⟨by first | rfl | (simp; done) | (congr 2; rw [Bool.eq_iff_iff]; simp; omega), below_alloc (Below.refl _ _) _⟩
theorem Lw.at {w : World} {B : Nat} {a : Option Addr} {m c : Nat} {l : List Pv} (h : Lw w B a m c l) (hr : m * 48 ≤ 140737488351232) {k : Nat} (hk : k < m) :
    ∃ b off p, a = some ⟨b, off, none⟩ ∧ b < w.heap.size ∧ l[k]? = some p ∧ p ∈ l ∧ w.cell? ⟨b, off + k * 4, none⟩ = some (.int .i64 p.k) ∧ w.cell? ⟨b, off + k * 4 + 1, none⟩ = some (.int .i64 p.of) ∧ w.cell? ⟨b, off + k * 4 + 2, none⟩ = some (.int .u32 p.sum) ∧ w.cell? ⟨b, off + k * 4 + 3, none⟩ = some (.slice p.a p.m p.cp) :=
  (h.ls (P := fun _ => True) hr (fun _ _ => trivial)).at hk
theorem hasI_at {L : List Pc} {k : Int} {i : Nat} {p : Pc} (hp : L[i]? = some p) (e : p.k = k) (hn : ∀ j, j < i → ∀ q, L[j]? = some q → q.k ≠ k) : hasI L k = some i := by
  unfold hasI
  have hi := (List.getElem?_eq_some_iff.1 hp).1
  refine List.findIdx?_eq_some_iff_getElem.2 ⟨hi, ?_, fun j hj => ?_⟩
  · have := (List.getElem?_eq_some_iff.1 hp).2
    simp [this, e]
  · have := hn j hj L[j] (List.getElem?_eq_getElem (by omega))
    simp [this]
set_option maxRecDepth 100000 in
theorem rhas_any {w : World} {B R : Nat} {a : Option Addr} {m c : Nat} {l : List Pv} (h : Rb w B R a m c l) (hm : m ≤ 1000) (k : Int) :
    Calls Tryd.prog 23 #[.pointer (some ⟨R, 0, none⟩), .int .i64 k] w fun e w' => e = .returned (.int .i64 (hasV (l.map Pv.pc) k)) ∧ w' = w := by
  have H := hide h
  have c0 := h.c0
  clear h
  go_enter Tryd.func23, Tryd.ntmps23
  go_wp2_with fail
  go_loopw [5] (fun x wr => ∃ i : Nat, i ≤ m ∧ x = .int .i64 i ∧ wr = w ∧ Hid (∀ j, j < i → ∀ q, (l.map Pv.pc)[j]? = some q → q.k ≠ k)) (fun x _ => m - (intOf x).toNat)
  case atStart => exact ⟨0, Nat.zero_le _, rfl, rfl, fun j hj => absurd hj (by omega)⟩
  case round =>
    obtain ⟨i, hi, rfl, rfl, HN⟩ := hrel
    by_cases hlt : i < m
    · have i1 : (i : Int) < (m : Int) := by omega
      have i2 : (0 : Int) ≤ (i : Int) := by omega
      obtain ⟨b, off, p, rfl, _, hp, _, d0, _, _, _⟩ := H.out.lw.at (by omega) hlt
      have hp2 : (l.map Pv.pc)[i]? = some p.pc := by rw [List.getElem?_map, hp]; rfl
      by_cases e : p.k = k
      · have HV : Hid (hasV (l.map Pv.pc) k = (i : Int)) := by show _ = _; unfold hasV; rw [hasI_at hp2 e HN.out]
        have k1 : (p.k == k) = true := by simpa using e
        clear hp hp2 e
        go_wp2_with fail
        go_ret
        exact ⟨ret1 HV.out.symm, rfl⟩
      · have HN2 : Hid (∀ j, j < i + 1 → ∀ q, (l.map Pv.pc)[j]? = some q → q.k ≠ k) := fun j hj q hq => by
          by_cases ej : j = i
          · subst ej
            rw [hp2] at hq
            cases hq
            exact e
          · exact HN.out j (by omega) q hq
        have k1 : (p.k == k) = false := by simpa using e
        clear hp hp2 e
        go_wp2_with fail
        go_roundw
        case rel => exact ⟨i + 1, by omega, by go_num, by first | rfl | trivial, HN2⟩
        case measure => simp [intOf]; omega
    · have HV : Hid (hasV (l.map Pv.pc) k = -1) := by
        show _ = _
        have : hasI (l.map Pv.pc) k = none := hasI_none.2 (fun q hq => by
          obtain ⟨j, hj⟩ := List.getElem?_of_mem hq
          have h1 := (List.getElem?_eq_some_iff.1 hj).1
          have h2 := H.out.lw.len
          simp at h1
          exact HN.out j (by omega) q hj)
        unfold hasV
        rw [this]
      go_wp2_with fail
      go_ret
      exact ⟨ret1 HV.out.symm, rfl⟩
end Go.Proofs.YtanfmpeblhegpaaDoor
