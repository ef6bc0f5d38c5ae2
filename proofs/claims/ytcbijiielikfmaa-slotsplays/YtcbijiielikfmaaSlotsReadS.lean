/- What told gathered, read cell by cell. -/
import Derived.Test.YtcbijiielikfmaaSlotsToldS
namespace Go.Proofs.Ytcbijiielikfmaa
open Go.ChangeShapes Go.WideShapes Go.ChangeAt Go.RowKit Sx
namespace Ls
theorem hcells_get : ∀ (l : List (Int × Al)) (i : Nat) (p : Int × Al), l[i]? = some p → (hcells l)[i * 2]? = some (.int .i64 p.1) ∧ (hcells l)[i * 2 + 1]? = some (va p.2)
  | [], _, _, h => by simp at h
  | x :: l, 0, p, h => by
    obtain rfl : x = p := by simpa using h
    exact ⟨rfl, rfl⟩
  | x :: l, i + 1, p, h => by
    have q := hcells_get l i p (by simpa using h)
    have e : hcells (x :: l) = .int .i64 x.1 :: va x.2 :: hcells l := rfl
    rw [e, show (i + 1) * 2 = i * 2 + 1 + 1 by omega, List.getElem?_cons_succ, List.getElem?_cons_succ, show i * 2 + 1 + 1 + 1 = (i * 2 + 1) + 1 + 1 by omega, List.getElem?_cons_succ, List.getElem?_cons_succ]
    exact q
theorem icells_get {l : List Int} {i : Nat} {p : Int} (h : l[i]? = some p) : (icells l)[i]? = some (.int .i64 p) := by simp [icells, h]
theorem row_at {W : World} {N T sz n c : Nat} {a : Option Addr} {xs : List Value} (h : W.ownsRow N T sz (.slice a n c) n xs) (hn : 0 < n) : ∃ g, a = some ⟨g, 0, none⟩ ∧ N ≤ g ∧ g < W.heap.size ∧ ∀ j u, xs[j]? = some u → W.cell? ⟨g, j, none⟩ = some u := by
  obtain ⟨hl, h1 | ⟨g, cap, cur, hv, hN, hc, h1, h2, h3, h4⟩⟩ := h
  · obtain ⟨e, rfl⟩ := h1; exact absurd hn (by omega)
  · injection hv with e1 e2 e3
    refine ⟨g, e1, hN, (Array.getElem?_eq_some_iff.1 hc).1, fun j u hu => ?_⟩
    rw [← h4, List.getElem?_take] at hu
    split at hu
    · rename_i hj
      have : cur[j]? = some u := by simpa using hu
      simp [World.cell?, hc, this]
    · simp at hu
theorem getV_at {s : Ss Al} {k : Nat} (h : k < s.ps.length) : getV s (s.first + k) = s.ps[k] := by
  unfold getV
  rw [if_neg (by omega), show (s.first + (k : Int) - s.first).toNat = k by omega, List.getElem?_eq_getElem h]
  rfl
end Ls
end Go.Proofs.Ytcbijiielikfmaa
