/- What the document's walk reads of a mark. No condition but the size. -/
import Derived.Test.YtjhcedgncdcpjaaJM
import Derived.Test.YtjhcedgncdcpjaaJL
import Derived.Test.YtjhcedgncdcpjaaFWireRefAnswer
import Derived.Test.YtjhcedgncdcpjaaJK
namespace Go.Proofs.Ytjhcedgncdcpjaa
open Go.ChangeShapes Go.WideShapes Go.ChangeAt Go.RowKit B8 Cm Wm
set_option linter.unusedVariables false

theorem xanswer_any {B W R : Nat} {a : Option Addr} {n cp : Nat} {bs : List Int} {s : St} {M o : Nat} {w : World} (h : XS w B W R a n cp bs s) (hF : Far W R a M) (hM : M < w.heap.size) (hr : Room w M o 4) (hz : ∃ z : Int, w.cell? ⟨M, o, none⟩ = some (.int .i64 z)) :
    Calls Try.prog 56 #[.pointer (some ⟨W, 0, none⟩), .pointer (some ⟨M, o, none⟩)] w (XP B W R a n cp bs s M o w [0, 0, 0, 0]) := by
  obtain ⟨z, hc⟩ := hz
  have hb0 : Below w.heap.size w (w.alloc (.cells #[.int .i64 z] 3)) := Below.alloc (Below.refl _ _) (Nat.le_refl _) _
  have st0 : Stq (Rown W R) w (w.alloc (.cells #[.int .i64 z] 3)) := rq_below W R hb0
  have hrow : (w.alloc (.cells #[.int .i64 z] 3)).heap[w.heap.size]? = some (.cells #[.int .i64 z] 3 (0, 0)) := heap_alloc_new w _
  have hlt := h.lt
  have fN : Far W R a w.heap.size := ⟨by omega, by omega, fun b off e => by have := (h.ap b off e).2; omega⟩
  have ltN : w.heap.size < (w.alloc (.cells #[.int .i64 z] 3)).heap.size := (Array.getElem?_eq_some_iff.1 hrow).1
  have rN : Room (w.alloc (.cells #[.int .i64 z] 3)) w.heap.size 0 1 := fun j hj => by
    obtain rfl : j = 0 := by omega
    exact ⟨⟨.int .i64 z, by rw [cell_of_row _ _ _ _ _ _ hrow]; rfl⟩, frozen_of_row _ _ _ _ _ hrow⟩
  exact doc_answer (M := M) (o := o) (W := W) (z := z)
    (R0 := fun u => u = w)
    (R1 := fun N u => N = w.heap.size ∧ XS u B W R a n cp bs (atomA bs 0 s).s ∧ FlatAt u (OutB B (Rown W R) N u) N 0 [(atomA bs 0 s).v] ∧ Stp (Rown W R) N 0 (0 + 1) (w.alloc (.cells #[.int .i64 z] 3)) u)
    (R2 := XI B W R a n cp bs s M o w [0])
    (R3 := XI B W R a n cp bs s M o w [0, 0, 0, 0])
    (fun u hu => by subst hu; exact hc)
    (fun u hu => by
      subst hu
      exact (xnum_any (h.below hb0) fN ltN rN).mono fun e w' ⟨h1, h2, h3, h4⟩ => ⟨h1, rfl, h2, h3, h4⟩)
    (fun N u hu => by
      obtain ⟨rfl, hx, hf, hs⟩ := hu
      have hst := hs.inner st0 (Nat.le_refl _)
      have eM := hst.block M hM (far_own hF w)
      obtain ⟨v, hv, hA⟩ := hf 0 _ rfl
      obtain ⟨rfl, _, _⟩ := atom_int hA rfl
      have cM := (World.cell?_of_block (w := w) (a := ⟨M, o, none⟩) eM).trans hc
      refine ⟨_, hv, ⟨_, cM⟩, (World.frozen?_of_block (w := w) (a := ⟨M, o, none⟩) eM).trans (hr 0 (by omega)).2, hx.store hF _, ?_, stp_set hst hM (far_own hF w) (fun v k hk => hk) _⟩
      intro j y hy
      match j, hy with
      | 0, hy =>
        have ey : (atomA bs 0 s).v = y := by simpa [flatA] using hy
        subst ey
        exact ⟨_, World.cell?_setCell_same _ _ _ cM, .inl ⟨rfl, rfl, (atom_int hA rfl).2⟩⟩)
    (fun u hu => (xnums_call (k := 3) hu.1 hF (hu.lt hM) (hu.room hr (show 1 + 3 ≤ 4 by omega)) #[.pointer (some ⟨M, o + 1, none⟩), .pointer (some ⟨M, o + 2, none⟩), .pointer (some ⟨M, o + 3, none⟩)] 71 (fun j hj => match j, hj with | 0, _ => rfl | 1, _ => rfl | 2, _ => rfl)).mono fun e w' ⟨h1, h2⟩ => ⟨h1, hu.more h2⟩)
    w rfl
theorem xmark_any {B W R : Nat} {a : Option Addr} {n cp : Nat} {bs : List Int} {s : St} {M o : Nat} {w : World} (h : XS w B W R a n cp bs s) (hF : Far W R a M) (hM : M < w.heap.size) (hr : Room w M o 7) (hz : ∃ z : Int, w.cell? ⟨M, o + 3, none⟩ = some (.int .i64 z)) :
    Calls Try.prog 47 #[.pointer (some ⟨W, 0, none⟩), .pointer (some ⟨M, o, none⟩)] w (XP B W R a n cp bs s M o w [0, 0, 2, 0, 0, 0, 0]) := by
  exact doc_mark (M := M) (o := o) (W := W)
    (R0 := XI B W R a n cp bs s M o w [])
    (R1 := XI B W R a n cp bs s M o w [0, 0])
    (R2 := XI B W R a n cp bs s M o w [0, 0, 2])
    (R3 := XI B W R a n cp bs s M o w [0, 0, 2, 0, 0, 0, 0])
    (fun u hu => (xnums_call hu.1 hF (hu.lt hM) (hu.room hr (show 0 + 2 ≤ 7 by omega)) #[.pointer (some ⟨M, o, none⟩), .pointer (some ⟨M, o + 1, none⟩)] 71 (fun j hj => match j, hj with | 0, _ => rfl | 1, _ => rfl)).mono fun e w' ⟨h1, h2⟩ => ⟨h1, hu.more h2⟩)
    (fun u hu => (xflag_call hu.1 hF (hu.lt hM) (hu.room hr (show 2 + 1 ≤ 7 by omega))).mono fun e w' ⟨h1, h2⟩ => ⟨h1, hu.more h2⟩)
    (fun u hu => (xanswer_any hu.1 hF (hu.lt hM) (hu.room hr (show 3 + 4 ≤ 7 by omega)) (by obtain ⟨z, hz⟩ := hz; exact ⟨z, (hu.2.2.cell (o + 3) (by show ¬ (o ≤ o + 3 ∧ o + 3 < o + 3); omega)).trans hz⟩)).mono fun e w' ⟨h1, h2⟩ => ⟨h1, hu.more h2⟩)
    w (XI.start h)
end Go.Proofs.Ytjhcedgncdcpjaa
