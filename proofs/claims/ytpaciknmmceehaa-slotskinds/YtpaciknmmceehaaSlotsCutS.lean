/- A landed log's Cut. No condition. -/
import Derived.Test.YtpaciknmmceehaaSlotsPutS
import Derived.Test.YtpaciknmmceehaaSlotsDeleteS
namespace Go.Proofs.Ytpaciknmmceehaa.Ls
open Go.ChangeShapes Go.WideShapes Go.ChangeAt Go.RowKit Sx
set_option linter.unusedVariables false

section
variable {w w1 w4 : World} {P : Nat} {L : Lay} {s : Ss Al}
theorem Lg.drewN (h : Lg w P L s) (q : Nat) : Lg (w.drewN q) P L s := h.same (fun _ _ => rfl) (fun _ _ => rfl)
theorem cut_lg (h1 : Lg w1 P L s) {d c : Nat} {a : Option Addr} {i : Int} (hs : ¬ stays s i) (hd : d = cutB s i) (hc : Chg (L.M P) w1 w4)
    (hP : w4.heap[P]? = some (.cells #[.int .i64 i, .int .i64 s.most, .slice a (L.bs.drop d).length c] 64 (0, 0)))
    (hrow : w4.ownsRow 0 65 1 (.slice a (L.bs.drop d).length c) (L.bs.drop d).length ((L.bs.drop d).map pv)) :
    Lg w4 P ⟨a, c, L.bs.drop d⟩ (cutS s i) := by
  have es : cutS s i = { s with first := i, ps := s.ps.drop d } := by
    unfold cutS
    rw [if_neg hs, hd]
  have ok := cutS_ok h1.ok i
  rw [es] at ok ⊢
  refine ⟨hP, hrow, by simp [h1.len], fun j b o hb ho => ?_, ok⟩
  replace hb : (L.bs.drop d)[j]? = some b := hb
  replace ho : (s.ps.drop d)[j]? = some o := ho
  rw [List.getElem?_drop] at hb ho
  have hp := h1.pl _ b o hb ho
  exact hp.same (fun k ek => by
    subst ek
    rcases hp.shape with ⟨e, _⟩ | ⟨k1, x1, e, _, h3⟩
    · cases e
    · cases e
      exact hc.block k (Array.getElem?_eq_some_iff.1 h3).1 (h1.vm (P' := 0) (L' := L) (s' := s) h3))
end
end Go.Proofs.Ytpaciknmmceehaa.Ls
