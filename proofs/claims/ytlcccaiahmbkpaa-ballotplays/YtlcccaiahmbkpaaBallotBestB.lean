/- What Best returns for a list of ballots that are their own, and what Most returns, at the landed code. No condition but that the list's bytes are within reach. -/
import Derived.Test.YtlcccaiahmbkpaaBallotBestMath
import Derived.Test.YtlcccaiahmbkpaaBallotIdle
import Derived.Test.YtlcccaiahmbkpaaBallotLists
import Derived.Handy
namespace Go.Proofs.Ytlcccaiahmbkpaa
open Go.ChangeShapes Go.WideShapes Go.ChangeAt Go.RowKit
set_option linter.unusedVariables false

theorem self_any (x : Int × Int) (w : World) :
    Calls Try.prog 29 #[.agg #[.int .i64 x.1, .int .i64 x.2]] w fun e w' => e = .returned (.agg #[.int .i64 x.1, .int .i64 x.2]) ∧ Below w.heap.size w w' := by
  go_enter Try.func29, Try.ntmps29
  go_wp2
  go_returns
  exact ⟨rfl, by go_grown⟩
/-- a round of Best: what it has, and the greatest ballot so far -/
structure BsR (w : World) (x : Int × Int) (is : Bool) (wr : World) : Prop where
  below : Below w.heap.size w wr
  best : wr.heap[w.heap.size]? = some (.cells #[.int .i64 x.1, .int .i64 x.2] 23 (0, 0))
  is_ : wr.heap[w.heap.size + 1]? = some (.cells #[.bool is] 4 (0, 0))
  most : wr.heap[w.heap.size + 1 + 1]? = some (.cells #[.int .i64 x.1, .int .i64 x.2] 23 (0, 0))
theorem BsR.later {w wr w' : World} {x : Int × Int} {is : Bool} (h : BsR w x is wr) (hb : Below wr.heap.size wr w') : BsR w x is w' := by
  have l1 : w.heap.size < wr.heap.size := (Array.getElem?_eq_some_iff.1 h.best).1
  have l2 : w.heap.size + 1 < wr.heap.size := (Array.getElem?_eq_some_iff.1 h.is_).1
  have l3 : w.heap.size + 1 + 1 < wr.heap.size := (Array.getElem?_eq_some_iff.1 h.most).1
  exact ⟨h.below.trans (hb.mono h.below.size), (hb.block _ l1).trans h.best, (hb.block _ l2).trans h.is_, (hb.block _ l3).trans h.most⟩
theorem BsR.lts {w wr : World} {x : Int × Int} {is : Bool} (h : BsR w x is wr) : w.heap.size < wr.heap.size ∧ w.heap.size + 1 < wr.heap.size ∧ w.heap.size + 1 + 1 < wr.heap.size :=
  ⟨(Array.getElem?_eq_some_iff.1 h.best).1, (Array.getElem?_eq_some_iff.1 h.is_).1, (Array.getElem?_eq_some_iff.1 h.most).1⟩
theorem BsR.facts {w wr : World} {x : Int × Int} {is : Bool} (h : BsR w x is wr) :
    (wr.cell? ⟨w.heap.size, 0, none⟩ = some (.int .i64 x.1) ∧ wr.cell? ⟨w.heap.size, 1, none⟩ = some (.int .i64 x.2) ∧ wr.cell? ⟨w.heap.size + 1, 0, none⟩ = some (.bool is) ∧ wr.cell? ⟨w.heap.size + 1 + 1, 0, none⟩ = some (.int .i64 x.1) ∧ wr.cell? ⟨w.heap.size + 1 + 1, 1, none⟩ = some (.int .i64 x.2))
    ∧ (∀ o, wr.frozen? ⟨w.heap.size, o, none⟩ = false) ∧ (∀ o, wr.frozen? ⟨w.heap.size + 1, o, none⟩ = false) ∧ (∀ o, wr.frozen? ⟨w.heap.size + 1 + 1, o, none⟩ = false) := by
  refine ⟨⟨?_, ?_, ?_, ?_, ?_⟩, fun o => frozen_of_row _ _ _ _ _ h.best, fun o => frozen_of_row _ _ _ _ _ h.is_, fun o => frozen_of_row _ _ _ _ _ h.most⟩
  · rw [cell_of_row _ _ _ _ _ _ h.best]; rfl
  · rw [cell_of_row _ _ _ _ _ _ h.best]; rfl
  · rw [cell_of_row _ _ _ _ _ _ h.is_]; rfl
  · rw [cell_of_row _ _ _ _ _ _ h.most]; rfl
  · rw [cell_of_row _ _ _ _ _ _ h.most]; rfl
theorem BsR.set {w wr : World} {x : Int × Int} {is : Bool} (h : BsR w x is wr) (y : Int × Int) (js : Bool) : BsR w y js (((((wr.setCell ⟨w.heap.size, 0, none⟩ (.int .i64 y.1)).setCell ⟨w.heap.size, 1, none⟩ (.int .i64 y.2)).setCell ⟨w.heap.size + 1 + 1, 0, none⟩ (.int .i64 y.1)).setCell ⟨w.heap.size + 1 + 1, 1, none⟩ (.int .i64 y.2)).setCell ⟨w.heap.size + 1, 0, none⟩ (.bool js)) := by
  have h1 := h.best
  have h2 := h.is_
  have h3 := h.most
  have hb := h.below
  have n1 : ¬ w.heap.size = w.heap.size + 1 + 1 := by omega
  have n2 : ¬ w.heap.size + 1 + 1 = w.heap.size := by omega
  refine ⟨by go_grown, ?_, ?_, ?_⟩
  · simp [World.setCell, Array.getElem?_modify, h1, n2]
  · simp [World.setCell, Array.getElem?_modify, h2]
  · simp [World.setCell, Array.getElem?_modify, h3, n1]
theorem BsR.end_ {w wr : World} {x : Int × Int} {is : Bool} (h : BsR w x is wr) : BsR w x is (((wr.setCell ⟨w.heap.size, 0, none⟩ (.int .i64 x.1)).setCell ⟨w.heap.size, 1, none⟩ (.int .i64 x.2)).setCell ⟨w.heap.size + 1, 0, none⟩ (.bool is)) := by
  have h1 := h.best
  have h2 := h.is_
  have h3 := h.most
  have hb := h.below
  have n1 : ¬ w.heap.size = w.heap.size + 1 + 1 := by omega
  refine ⟨by go_grown, ?_, ?_, ?_⟩
  · simp [World.setCell, Array.getElem?_modify, h1]
  · simp [World.setCell, Array.getElem?_modify, h2]
  · simp [World.setCell, Array.getElem?_modify, h3, n1]
/-- the answer of Best over so many ballots -/
def BestB (f : Nat → Int × Int) (len : Nat) (e : Ending) : Prop := ∃ x is, e = .returned (.tuple #[.agg #[.int .i64 x.1, .int .i64 x.2], .bool is]) ∧ BI f f (0, 0) len x x is
set_option maxHeartbeats 1000000 in
theorem best_b {w : World} {a : Option Addr} {len cap : Nat} {f : Nat → Int × Int} (h : Rws w 2 16 a len (fun j => bc (f j))) :
    Calls Try.prog 28 #[.slice a len cap, .func (.func 29) #[] #[]] w fun e w' => BestB f len e ∧ Below w.heap.size w w' := by
  have hmf : ∀ (fn : Fn) (first cap : Array Value) (w : World), (Instr.makeFunc fn first cap).run Try.prog w = .ok (.func fn first cap) w := fun _ _ _ _ => rfl
  have HS := hide h
  have hr : len * 16 ≤ 140737488351232 := h.room
  clear h
  go_enter_defers Try.func28, Try.ntmps28
  go_wp2_with fail
  have R0 : BsR w (0, 0) false (((w.alloc (.cells #[.int .i64 0, .int .i64 0] 23)).alloc (.cells #[.bool false] 4)).alloc (.cells #[.int .i64 0, .int .i64 0] 23)) := by
    refine ⟨by go_grown, ?_, ?_, ?_⟩
    · rw [Below.heap_alloc _ _ _ (by simp; omega), Below.heap_alloc _ _ _ (by simp)]; exact heap_alloc_new w _
    · rw [Below.heap_alloc _ _ _ (by simp)]
      have := heap_alloc_new (w.alloc (.cells #[.int .i64 0, .int .i64 0] 23)) (.cells #[.bool false] 4)
      simpa using this
    · have := heap_alloc_new ((w.alloc (.cells #[.int .i64 0, .int .i64 0] 23)).alloc (.cells #[.bool false] 4)) (.cells #[.int .i64 0, .int .i64 0] 23)
      simpa using this
  go_loopw [8, 9, 13] (fun _ _ iv wr => ∃ (k : Nat) (x : Int × Int) (is : Bool), k ≤ len ∧ iv = .int .i64 k ∧ Hid (BsR w x is wr) ∧ Hid (BI f f (0, 0) k x x is)) (fun _ _ iv _ => len - (intOf iv).toNat)
  case atStart => exact ⟨0, (0, 0), false, Nat.zero_le _, rfl, R0, BI.zero _ _ _⟩
  case round =>
    obtain ⟨k, x, is, hk, rfl, HR, HI⟩ := hrel
    clear R0
    by_cases hlt : k < len
    · obtain ⟨b, off, rfl, hbl, hc⟩ := (HS.out.below HR.out.below).cells (by omega)
      obtain ⟨c1, c2⟩ := bc_cells (hc k hlt)
      have SF := hide (self_any (f k) (wr.alloc (.cells #[.int .i64 (f k).1, .int .i64 (f k).2] 23)))
      clear hc hbl
      go_wp2_with fail
      refine SF.out.mono ?_
      rintro e w1 ⟨rfl, hb1⟩
      have R1 := hide ((HR.out.later (below_alloc (Below.refl _ _) _)).later hb1)
      obtain ⟨q1, q2, _⟩ := allCells_below hb1 (allCells_new2 wr (.int .i64 (f k).1) (.int .i64 (f k).2) 23)
      simp only at q1 q2
      have z0 := World.block_lt_of_cell? _ _ q1
      simp only at z0
      obtain ⟨z1, z2, z3⟩ := R1.out.lts
      obtain ⟨v1, v2, v3⟩ := HR.out.lts
      obtain ⟨⟨p1, p2, p3, p4, p5⟩, g1, g2, g3⟩ := R1.out.facts
      clear hb1 SF c1 c2 HR
      cases is with
      | false =>
        go_wp2_with fail
        go_region
        go_wp2_with fail
        go_roundw
        case rel => exact ⟨k + 1, f k, true, by omega, by go_num, ((R1.out.set (f k) true).later (below_alloc (Below.refl _ _) _)).later (Below.refl _ _).drew, HI.out.take (.inl rfl)⟩
        case measure => simp [intOf]; omega
      | true =>
        have B1 := hide (below_alloc (Below.refl w1.heap.size w1) (.cells #[.int .i64 (f k).1, .int .i64 (f k).2] 23))
        obtain ⟨r1, r2, _⟩ := allCells_new2 w1 (.int .i64 (f k).1) (.int .i64 (f k).2) 23
        simp only at r1 r2
        have R2 := hide (R1.out.later B1.out)
        have U2 := hide (show AllCells (w1.alloc (.cells #[.int .i64 (f k).1, .int .i64 (f k).2] 23)) [(⟨wr.heap.size, 0, none⟩, .int .i64 (f k).1), (⟨wr.heap.size, 1, none⟩, .int .i64 (f k).2), (⟨w1.heap.size, 0, none⟩, .int .i64 (f k).1), (⟨w1.heap.size, 1, none⟩, .int .i64 (f k).2)] from ⟨(B1.out.cell (p := ⟨wr.heap.size, 0, none⟩) z0).trans q1, (B1.out.cell (p := ⟨wr.heap.size, 1, none⟩) z0).trans q2, r1, r2, trivial⟩)
        clear B1 r1 r2
        go_wp2_with fail
        cases hl : lsB x (f k) with
        | true =>
          refine (less_lit (show lessB x.1 x.2 (f k).1 (f k).2 = true from hl) _).mono ?_
          rintro e w3 ⟨rfl, hb3⟩
          have R3 := hide (R2.out.later hb3)
          have T := hide (HI.out.take (.inr hl))
          obtain ⟨y1, y2, y3, y4, _⟩ := allCells_below hb3 U2.out
          simp only at y1 y2 y3 y4
          clear p1 p2 p3 p4 p5 g1 g2 g3 q1 q2 hl hb3 U2 R2 R1 HI
          obtain ⟨⟨p1, p2, p3, p4, p5⟩, g1, g2, g3⟩ := R3.out.facts
          go_wp2_with fail
          go_region
          go_wp2_with fail
          go_roundw
          case rel => exact ⟨k + 1, f k, true, by omega, by go_num, (R3.out.set (f k) true).later (Below.refl _ _).drew, T⟩
          case measure => simp [intOf]; omega
        | false =>
          refine (less_lit (show lessB x.1 x.2 (f k).1 (f k).2 = false from hl) _).mono ?_
          rintro e w3 ⟨rfl, hb3⟩
          have R3 := hide (R2.out.later hb3)
          have T := hide (HI.out.keep hl)
          clear p1 p2 p3 p4 p5 g1 g2 g3 q1 q2 hl hb3 U2 R2 R1 HI z0 z1 z2 z3
          go_wp2_with fail
          go_roundw
          case rel => exact ⟨k + 1, x, true, by omega, by go_num, R3, T⟩
          case measure => simp [intOf]; omega
    · obtain rfl : k = len := by omega
      obtain ⟨z1, z2, z3⟩ := HR.out.lts
      obtain ⟨⟨p1, p2, p3, p4, p5⟩, g1, g2, g3⟩ := HR.out.facts
      have RE := hide (HR.out.end_.later (Below.refl _ _).drew)
      have E0 : ((((wr.setCell ⟨w.heap.size, 0, none⟩ (.int .i64 x.1)).setCell ⟨w.heap.size, 1, none⟩ (.int .i64 x.2)).setCell ⟨w.heap.size + 1, 0, none⟩ (.bool is)).drew).cell? ⟨w.heap.size, 0, none⟩ = some (.int .i64 x.1) := RE.out.facts.1.1
      have E1 : ((((wr.setCell ⟨w.heap.size, 0, none⟩ (.int .i64 x.1)).setCell ⟨w.heap.size, 1, none⟩ (.int .i64 x.2)).setCell ⟨w.heap.size + 1, 0, none⟩ (.bool is)).drew).cell? ⟨w.heap.size, 1, none⟩ = some (.int .i64 x.2) := RE.out.facts.1.2.1
      have E2 : ((((wr.setCell ⟨w.heap.size, 0, none⟩ (.int .i64 x.1)).setCell ⟨w.heap.size, 1, none⟩ (.int .i64 x.2)).setCell ⟨w.heap.size + 1, 0, none⟩ (.bool is)).drew).cell? ⟨w.heap.size + 1, 0, none⟩ = some (.bool is) := RE.out.facts.1.2.2.1
      have HE0 := hide E0
      have HE1 := hide E1
      have HE2 := hide E2
      clear E0 E1 E2
      go_wp2_with fail
      go_region
      go_wp2_with fail
      generalize (((wr.setCell ⟨w.heap.size, 0, none⟩ (.int .i64 x.1)).setCell ⟨w.heap.size, 1, none⟩ (.int .i64 x.2)).setCell ⟨w.heap.size + 1, 0, none⟩ (.bool is)).drew = w2 at HE0 HE1 HE2 RE ⊢
      have e0 := HE0.out
      have e1 := HE1.out
      have e2 := HE2.out
      refine leaves_cons (f := 31) (args := #[.pointer (some ⟨w.heap.size, 0, none⟩), .pointer (some ⟨w.heap.size + 1, 0, none⟩)]) (by simp) (by simp [go_sem]) ?_
      refine (idle_b _ _ _).mono ?_
      rintro e u' w'' ⟨rfl, rfl, rfl⟩
      simp [Leaves, settle, results, Try.results28, go_sem, e0, e1, e2]
      exact ⟨⟨x, is, rfl, HI.out⟩, RE.out.below⟩
theorem most_any {w : World} {a : Option Addr} {len cap : Nat} {f : Nat → Int × Int} (h : Rws w 2 16 a len (fun j => bc (f j))) :
    Calls Try.prog 16 #[.slice a len cap] w fun e w' => (∃ x, e = .returned (.agg #[.int .i64 x.1, .int .i64 x.2]) ∧ Mx f len x) ∧ Below w.heap.size w w' := by
  have C := hide (best_b (cap := cap) (h.below (below_alloc (Below.refl _ _) (.cells #[.int .i64 0, .int .i64 0] 23))))
  clear h
  go_enter Try.func16, Try.ntmps16
  go_wp2_with fail
  refine C.out.mono ?_
  rintro e w1 ⟨⟨x, is, rfl, hi⟩, hb⟩
  have HI := hide hi.mx
  have B1 := hide (below_step (below_alloc (Below.refl _ _) _) hb)
  have hr : w1.heap[w.heap.size]? = some (.cells #[.int .i64 0, .int .i64 0] 23 (0, 0)) := (hb.block _ (by simp)).trans (heap_alloc_new w _)
  have z := (Array.getElem?_eq_some_iff.1 hr).1
  have c0 : w1.cell? ⟨w.heap.size, 0, none⟩ = some (.int .i64 0) := by rw [cell_of_row _ _ _ _ _ _ hr]; rfl
  have c1 : w1.cell? ⟨w.heap.size, 1, none⟩ = some (.int .i64 0) := by rw [cell_of_row _ _ _ _ _ _ hr]; rfl
  have g : ∀ o, w1.frozen? ⟨w.heap.size, o, none⟩ = false := fun o => frozen_of_row _ _ _ _ _ hr
  have hr2 : (((w1.setCell ⟨w.heap.size, 0, none⟩ (.int .i64 x.1)).setCell ⟨w.heap.size, 1, none⟩ (.int .i64 x.2)).alloc (.cells #[.int .i64 x.1, .int .i64 x.2] 23)).heap[w.heap.size]? = some (.cells #[.int .i64 x.1, .int .i64 x.2] 23 (0, 0)) := by
    rw [Below.heap_alloc _ _ _ (by simp [World.setCell]; exact z)]
    simp [World.setCell, Array.getElem?_modify, hr]
  have HR2 := hide hr2
  have B2 := hide (show Below w.heap.size w (((w1.setCell ⟨w.heap.size, 0, none⟩ (.int .i64 x.1)).setCell ⟨w.heap.size, 1, none⟩ (.int .i64 x.2)).alloc (.cells #[.int .i64 x.1, .int .i64 x.2] 23)) by have := B1.out; go_grown)
  clear hb hi hr hr2 C B1
  go_wp2_with fail
  generalize ((w1.setCell ⟨w.heap.size, 0, none⟩ (.int .i64 x.1)).setCell ⟨w.heap.size, 1, none⟩ (.int .i64 x.2)).alloc (.cells #[.int .i64 x.1, .int .i64 x.2] 23) = w2 at HR2 B2 ⊢
  have e0 : w2.cell? ⟨w.heap.size, 0, none⟩ = some (.int .i64 x.1) := by rw [cell_of_row _ _ _ _ _ _ HR2.out]; rfl
  have e1 : w2.cell? ⟨w.heap.size, 1, none⟩ = some (.int .i64 x.2) := by rw [cell_of_row _ _ _ _ _ _ HR2.out]; rfl
  refine bodyPost_ret (v := .agg #[.int .i64 x.1, .int .i64 x.2]) (by simp [results, Try.results16, go_sem, e0, e1]) rfl ⟨⟨x, rfl, HI.out⟩, B2.out⟩
end Go.Proofs.Ytlcccaiahmbkpaa
