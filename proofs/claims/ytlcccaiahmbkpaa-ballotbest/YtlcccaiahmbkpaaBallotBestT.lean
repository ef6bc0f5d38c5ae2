/- What Best returns for a list of things, where the function that it is handed counts how often it is asked, at the landed code. No condition but that the list's bytes are within reach. -/
import Derived.Test.YtlcccaiahmbkpaaBallotBestMath
import Derived.Test.YtlcccaiahmbkpaaBallotIdle
import Derived.Test.YtlcccaiahmbkpaaBallotLists
import Derived.Handy
namespace Go.Proofs.Ytlcccaiahmbkpaa
open Go.ChangeShapes Go.WideShapes Go.ChangeAt Go.RowKit
set_option linter.unusedVariables false

theorem asks_any (x : (Int × Int) × Int) (A : Nat) (n : Int) (w : World) (hc : w.cell? ⟨A, 0, none⟩ = some (.int .i64 n)) (hf : w.frozen? ⟨A, 0, none⟩ = false) (hn : 0 ≤ n ∧ n < 9223372036854775807) (hA : A < w.heap.size) :
    Calls Try.prog 25 #[.agg #[.int .i64 x.1.1, .int .i64 x.1.2, .int .i64 x.2], .pointer (some ⟨A, 0, none⟩)] w fun e w' => e = .returned (.agg #[.int .i64 x.1.1, .int .i64 x.1.2]) ∧ Below w.heap.size (w.setCell ⟨A, 0, none⟩ (.int .i64 (n + 1))) w' := by
  go_enter Try.func25, Try.ntmps25
  go_wp2
  go_returns
  exact ⟨rfl, by go_grown⟩
/-- a round of Best behind k things: how often it was asked, what it has, and the greatest ballot so far -/
structure TsR (w : World) (k : Nat) (x : Int × Int) (t : (Int × Int) × Int) (is : Bool) (wr : World) : Prop where
  below : Below w.heap.size w wr
  asked : wr.heap[w.heap.size]? = some (.cells #[.int .i64 k] 3 (0, 0))
  best : wr.heap[w.heap.size + 1]? = some (.cells #[.int .i64 t.1.1, .int .i64 t.1.2, .int .i64 t.2] 42 (0, 0))
  is_ : wr.heap[w.heap.size + 1 + 1]? = some (.cells #[.bool is] 4 (0, 0))
  most : wr.heap[w.heap.size + 1 + 1 + 1]? = some (.cells #[.int .i64 x.1, .int .i64 x.2] 23 (0, 0))
theorem TsR.lts {w wr : World} {k : Nat} {x : Int × Int} {t : (Int × Int) × Int} {is : Bool} (h : TsR w k x t is wr) : w.heap.size < wr.heap.size ∧ w.heap.size + 1 < wr.heap.size ∧ w.heap.size + 1 + 1 < wr.heap.size ∧ w.heap.size + 1 + 1 + 1 < wr.heap.size :=
  ⟨(Array.getElem?_eq_some_iff.1 h.asked).1, (Array.getElem?_eq_some_iff.1 h.best).1, (Array.getElem?_eq_some_iff.1 h.is_).1, (Array.getElem?_eq_some_iff.1 h.most).1⟩
theorem TsR.later {w wr w' : World} {k : Nat} {x : Int × Int} {t : (Int × Int) × Int} {is : Bool} (h : TsR w k x t is wr) (hb : Below wr.heap.size wr w') : TsR w k x t is w' := by
  obtain ⟨l0, l1, l2, l3⟩ := h.lts
  exact ⟨h.below.trans (hb.mono h.below.size), (hb.block _ l0).trans h.asked, (hb.block _ l1).trans h.best, (hb.block _ l2).trans h.is_, (hb.block _ l3).trans h.most⟩
theorem TsR.facts {w wr : World} {k : Nat} {x : Int × Int} {t : (Int × Int) × Int} {is : Bool} (h : TsR w k x t is wr) :
    (wr.cell? ⟨w.heap.size + 1, 0, none⟩ = some (.int .i64 t.1.1) ∧ wr.cell? ⟨w.heap.size + 1, 1, none⟩ = some (.int .i64 t.1.2) ∧ wr.cell? ⟨w.heap.size + 1, 2, none⟩ = some (.int .i64 t.2) ∧ wr.cell? ⟨w.heap.size + 1 + 1, 0, none⟩ = some (.bool is) ∧ wr.cell? ⟨w.heap.size + 1 + 1 + 1, 0, none⟩ = some (.int .i64 x.1) ∧ wr.cell? ⟨w.heap.size + 1 + 1 + 1, 1, none⟩ = some (.int .i64 x.2))
    ∧ (∀ o, wr.frozen? ⟨w.heap.size + 1, o, none⟩ = false) ∧ (∀ o, wr.frozen? ⟨w.heap.size + 1 + 1, o, none⟩ = false) ∧ (∀ o, wr.frozen? ⟨w.heap.size + 1 + 1 + 1, o, none⟩ = false) := by
  refine ⟨⟨?_, ?_, ?_, ?_, ?_, ?_⟩, fun o => frozen_of_row _ _ _ _ _ h.best, fun o => frozen_of_row _ _ _ _ _ h.is_, fun o => frozen_of_row _ _ _ _ _ h.most⟩
  · rw [cell_of_row _ _ _ _ _ _ h.best]; rfl
  · rw [cell_of_row _ _ _ _ _ _ h.best]; rfl
  · rw [cell_of_row _ _ _ _ _ _ h.best]; rfl
  · rw [cell_of_row _ _ _ _ _ _ h.is_]; rfl
  · rw [cell_of_row _ _ _ _ _ _ h.most]; rfl
  · rw [cell_of_row _ _ _ _ _ _ h.most]; rfl
theorem TsR.ask {w wr : World} {k : Nat} {x : Int × Int} {t : (Int × Int) × Int} {is : Bool} (h : TsR w k x t is wr) : TsR w (k + 1) x t is (wr.setCell ⟨w.heap.size, 0, none⟩ (.int .i64 ((k : Int) + 1))) := by
  have h0 := h.asked
  have h1 := h.best
  have h2 := h.is_
  have h3 := h.most
  have hb := h.below
  have n1 : ¬ w.heap.size = w.heap.size + 1 + 1 := by omega
  have n2 : ¬ w.heap.size = w.heap.size + 1 + 1 + 1 := by omega
  refine ⟨by go_grown, ?_, ?_, ?_, ?_⟩
  · simp [World.setCell, Array.getElem?_modify, h0]
  · simp [World.setCell, Array.getElem?_modify, h1]
  · simp [World.setCell, Array.getElem?_modify, h2, n1]
  · simp [World.setCell, Array.getElem?_modify, h3, n2]
theorem set_row {w : World} {b c o : Nat} {u : Value} {cs : Array Value} {t : TypeId} (h : w.heap[b]? = some (.cells cs t (0, 0))) (e : c ≠ b) : (w.setCell ⟨c, o, none⟩ u).heap[b]? = some (.cells cs t (0, 0)) := by
  simp [World.setCell, Array.getElem?_modify, h, e]
theorem put_row {w : World} {b o : Nat} {u : Value} {cs : Array Value} {t : TypeId} (h : w.heap[b]? = some (.cells cs t (0, 0))) : (w.setCell ⟨b, o, none⟩ u).heap[b]? = some (.cells (cs.setIfInBounds o u) t (0, 0)) := by
  simp [World.setCell, Array.getElem?_modify, h]
theorem TsR.set {w wr : World} {k : Nat} {x : Int × Int} {t : (Int × Int) × Int} {is : Bool} (h : TsR w k x t is wr) (y : Int × Int) (u : (Int × Int) × Int) (js : Bool) :
    TsR w k y u js ((((((wr.setCell ⟨w.heap.size + 1, 0, none⟩ (.int .i64 u.1.1)).setCell ⟨w.heap.size + 1, 1, none⟩ (.int .i64 u.1.2)).setCell ⟨w.heap.size + 1, 2, none⟩ (.int .i64 u.2)).setCell ⟨w.heap.size + 1 + 1 + 1, 0, none⟩ (.int .i64 y.1)).setCell ⟨w.heap.size + 1 + 1 + 1, 1, none⟩ (.int .i64 y.2)).setCell ⟨w.heap.size + 1 + 1, 0, none⟩ (.bool js)) := by
  have hb := h.below
  refine ⟨by go_grown, ?_, ?_, ?_, ?_⟩
  · exact set_row (set_row (set_row (set_row (set_row (set_row h.asked (by omega)) (by omega)) (by omega)) (by omega)) (by omega)) (by omega)
  · exact set_row (set_row (set_row (put_row (put_row (put_row h.best))) (by omega)) (by omega)) (by omega)
  · exact put_row (set_row (set_row (set_row (set_row (set_row h.is_ (by omega)) (by omega)) (by omega)) (by omega)) (by omega))
  · exact set_row (put_row (put_row (set_row (set_row (set_row h.most (by omega)) (by omega)) (by omega)))) (by omega)
theorem TsR.end_ {w wr : World} {k : Nat} {x : Int × Int} {t : (Int × Int) × Int} {is : Bool} (h : TsR w k x t is wr) :
    TsR w k x t is ((((wr.setCell ⟨w.heap.size + 1, 0, none⟩ (.int .i64 t.1.1)).setCell ⟨w.heap.size + 1, 1, none⟩ (.int .i64 t.1.2)).setCell ⟨w.heap.size + 1, 2, none⟩ (.int .i64 t.2)).setCell ⟨w.heap.size + 1 + 1, 0, none⟩ (.bool is)) := by
  have hb := h.below
  refine ⟨by go_grown, ?_, ?_, ?_, ?_⟩
  · exact set_row (set_row (set_row (set_row h.asked (by omega)) (by omega)) (by omega)) (by omega)
  · exact set_row (put_row (put_row (put_row h.best))) (by omega)
  · exact put_row (set_row (set_row (set_row h.is_ (by omega)) (by omega)) (by omega))
  · exact set_row (set_row (set_row (set_row h.most (by omega)) (by omega)) (by omega)) (by omega)
/-- the answer of Best over so many things -/
def BestT (g : Nat → (Int × Int) × Int) (len : Nat) (e : Ending) : Prop := ∃ x t is, e = .returned (.tuple #[.agg #[.int .i64 t.1.1, .int .i64 t.1.2, .int .i64 t.2], .bool is]) ∧ BI (fun j => (g j).1) g ((0, 0), 0) len x t is
set_option maxHeartbeats 1000000 in
theorem best_t {w w0 : World} {a : Option Addr} {len cap : Nat} {g : Nat → (Int × Int) × Int} (h : Rws w 3 24 a len (fun j => tc (g j))) (ew : w0 = w.alloc (.cells #[.int .i64 0] 3)) :
    Calls Try.prog 24 #[.slice a len cap, .func (.func 25) #[] #[.pointer (some ⟨w.heap.size, 0, none⟩)]] w0 fun e w' => BestT g len e ∧ Below w.heap.size w w' ∧ w'.heap[w.heap.size]? = some (.cells #[.int .i64 len] 3 (0, 0)) := by
  have hmf : ∀ (fn : Fn) (first cap : Array Value) (w : World), (Instr.makeFunc fn first cap).run Try.prog w = .ok (.func fn first cap) w := fun _ _ _ _ => rfl
  have HS := hide h
  have hr : len * 24 ≤ 140737488351232 := h.room
  have sz : w0.heap.size = w.heap.size + 1 := by rw [ew]; simp
  have R0 : TsR w 0 (0, 0) ((0, 0), 0) false (((w0.alloc (.cells #[.int .i64 0, .int .i64 0, .int .i64 0] 42)).alloc (.cells #[.bool false] 4)).alloc (.cells #[.int .i64 0, .int .i64 0] 23)) := by
    have hb : Below w.heap.size w w0 := by rw [ew]; exact below_alloc (Below.refl _ _) _
    refine ⟨by go_grown, ?_, ?_, ?_, ?_⟩
    · rw [Below.heap_alloc _ _ _ (by simp [sz] <;> omega), Below.heap_alloc _ _ _ (by simp [sz] <;> omega), Below.heap_alloc _ _ _ (by omega), ew]; exact heap_alloc_new w _
    · rw [Below.heap_alloc _ _ _ (by simp [sz] <;> omega), Below.heap_alloc _ _ _ (by simp [sz])]
      have := heap_alloc_new w0 (.cells #[.int .i64 0, .int .i64 0, .int .i64 0] 42)
      rw [sz] at this
      exact this
    · rw [Below.heap_alloc _ _ _ (by simp [sz])]
      have := heap_alloc_new (w0.alloc (.cells #[.int .i64 0, .int .i64 0, .int .i64 0] 42)) (.cells #[.bool false] 4)
      simpa [sz] using this
    · have := heap_alloc_new ((w0.alloc (.cells #[.int .i64 0, .int .i64 0, .int .i64 0] 42)).alloc (.cells #[.bool false] 4)) (.cells #[.int .i64 0, .int .i64 0] 23)
      simpa [sz] using this
  clear h ew
  have HR0 := hide R0
  clear R0
  go_enter_defers Try.func24, Try.ntmps24
  go_wp2_with fail
  clear sz
  go_loopw [8, 9, 13] (fun _ _ iv wr => ∃ (k : Nat) (x : Int × Int) (t : (Int × Int) × Int) (is : Bool), k ≤ len ∧ iv = .int .i64 k ∧ Hid (TsR w k x t is wr) ∧ Hid (BI (fun j => (g j).1) g ((0, 0), 0) k x t is)) (fun _ _ iv _ => len - (intOf iv).toNat)
  case atStart => exact ⟨0, (0, 0), ((0, 0), 0), false, Nat.zero_le _, rfl, HR0, BI.zero _ _ _⟩
  case round =>
    obtain ⟨k, x, t, is, hk, rfl, HR, HI⟩ := hrel
    clear HR0
    by_cases hlt : k < len
    · obtain ⟨b, off, rfl, hbl, hc⟩ := (HS.out.below HR.out.below).cells (by omega)
      obtain ⟨c1, c2, c3⟩ := tc_cells (hc k hlt)
      have hk2 : 0 ≤ (k : Int) ∧ (k : Int) < 9223372036854775807 := by omega
      have RA := hide (HR.out.later (below_alloc (Below.refl _ _) (.cells #[.int .i64 (g k).1.1, .int .i64 (g k).1.2, .int .i64 (g k).2] 42)))
      have SF := hide (asks_any (g k) w.heap.size k (wr.alloc (.cells #[.int .i64 (g k).1.1, .int .i64 (g k).1.2, .int .i64 (g k).2] 42)) (by rw [cell_of_row _ _ _ _ _ _ RA.out.asked]; rfl) (frozen_of_row _ _ _ _ _ RA.out.asked) hk2 RA.out.lts.1)
      have TR := hide (set_row (c := w.heap.size) (o := 0) (u := .int .i64 ((k : Int) + 1)) (heap_alloc_new wr (.cells #[.int .i64 (g k).1.1, .int .i64 (g k).1.2, .int .i64 (g k).2] 42)) (by have := HR.out.lts; omega))
      clear hc hbl hk2
      go_wp2_with fail
      refine SF.out.mono ?_
      rintro e w1 ⟨rfl, hb1⟩
      have hb2 : Below ((wr.alloc (.cells #[.int .i64 (g k).1.1, .int .i64 (g k).1.2, .int .i64 (g k).2] 42)).setCell ⟨w.heap.size, 0, none⟩ (.int .i64 ((k : Int) + 1))).heap.size ((wr.alloc (.cells #[.int .i64 (g k).1.1, .int .i64 (g k).1.2, .int .i64 (g k).2] 42)).setCell ⟨w.heap.size, 0, none⟩ (.int .i64 ((k : Int) + 1))) w1 := by
        rw [World.size_setCell]; exact hb1
      have R1 := hide (RA.out.ask.later hb2)
      have hq : w1.heap[wr.heap.size]? = some (.cells #[.int .i64 (g k).1.1, .int .i64 (g k).1.2, .int .i64 (g k).2] 42 (0, 0)) := (hb2.block _ (by simp [World.setCell])).trans TR.out
      have q1 : w1.cell? ⟨wr.heap.size, 0, none⟩ = some (.int .i64 (g k).1.1) := by rw [cell_of_row _ _ _ _ _ _ hq]; rfl
      have q2 : w1.cell? ⟨wr.heap.size, 1, none⟩ = some (.int .i64 (g k).1.2) := by rw [cell_of_row _ _ _ _ _ _ hq]; rfl
      have q3 : w1.cell? ⟨wr.heap.size, 2, none⟩ = some (.int .i64 (g k).2) := by rw [cell_of_row _ _ _ _ _ _ hq]; rfl
      have z0 := World.block_lt_of_cell? _ _ q1
      simp only at z0
      obtain ⟨z4, z1, z2, z3⟩ := R1.out.lts
      obtain ⟨v4, v1, v2, v3⟩ := HR.out.lts
      obtain ⟨⟨p1, p2, p3, p4, p5, p6⟩, g1, g2, g3⟩ := R1.out.facts
      clear hb1 hb2 SF c1 c2 c3 HR RA TR hq
      cases is with
      | false =>
        go_wp2_with fail
        go_region
        go_wp2_with fail
        go_roundw
        case rel => exact ⟨k + 1, (g k).1, g k, true, by omega, by go_num, ((R1.out.set (g k).1 (g k) true).later (below_alloc (Below.refl _ _) _)).later (Below.refl _ _).drew, HI.out.take (.inl rfl)⟩
        case measure => simp [intOf]; omega
      | true =>
        have B1 := hide (below_alloc (Below.refl w1.heap.size w1) (.cells #[.int .i64 (g k).1.1, .int .i64 (g k).1.2] 23))
        obtain ⟨r1, r2, _⟩ := allCells_new2 w1 (.int .i64 (g k).1.1) (.int .i64 (g k).1.2) 23
        simp only at r1 r2
        have R2 := hide (R1.out.later B1.out)
        have U2 := hide (show AllCells (w1.alloc (.cells #[.int .i64 (g k).1.1, .int .i64 (g k).1.2] 23)) [(⟨wr.heap.size, 0, none⟩, .int .i64 (g k).1.1), (⟨wr.heap.size, 1, none⟩, .int .i64 (g k).1.2), (⟨wr.heap.size, 2, none⟩, .int .i64 (g k).2), (⟨w1.heap.size, 0, none⟩, .int .i64 (g k).1.1), (⟨w1.heap.size, 1, none⟩, .int .i64 (g k).1.2)] from ⟨(B1.out.cell (p := ⟨wr.heap.size, 0, none⟩) z0).trans q1, (B1.out.cell (p := ⟨wr.heap.size, 1, none⟩) z0).trans q2, (B1.out.cell (p := ⟨wr.heap.size, 2, none⟩) z0).trans q3, r1, r2, trivial⟩)
        clear B1 r1 r2
        go_wp2_with fail
        cases hl : lsB x (g k).1 with
        | true =>
          refine (less_lit (show lessB x.1 x.2 (g k).1.1 (g k).1.2 = true from hl) _).mono ?_
          rintro e w3 ⟨rfl, hb3⟩
          have R3 := hide (R2.out.later hb3)
          have T := hide (HI.out.take (.inr hl))
          obtain ⟨y1, y2, y5, y3, y4, _⟩ := allCells_below hb3 U2.out
          simp only at y1 y2 y3 y4 y5
          clear p1 p2 p3 p4 p5 p6 g1 g2 g3 q1 q2 q3 hl hb3 U2 R2 R1 HI
          obtain ⟨⟨p1, p2, p3, p4, p5, p6⟩, g1, g2, g3⟩ := R3.out.facts
          go_wp2_with fail
          go_region
          go_wp2_with fail
          go_roundw
          case rel => exact ⟨k + 1, (g k).1, g k, true, by omega, by go_num, (R3.out.set (g k).1 (g k) true).later (Below.refl _ _).drew, T⟩
          case measure => simp [intOf]; omega
        | false =>
          refine (less_lit (show lessB x.1 x.2 (g k).1.1 (g k).1.2 = false from hl) _).mono ?_
          rintro e w3 ⟨rfl, hb3⟩
          have R3 := hide (R2.out.later hb3)
          have T := hide (HI.out.keep hl)
          clear p1 p2 p3 p4 p5 p6 g1 g2 g3 q1 q2 q3 hl hb3 U2 R2 R1 HI z0 z1 z2 z3 z4
          go_wp2_with fail
          go_roundw
          case rel => exact ⟨k + 1, x, t, true, by omega, by go_num, R3, T⟩
          case measure => simp [intOf]; omega
    · obtain rfl : k = len := by omega
      obtain ⟨z4, z1, z2, z3⟩ := HR.out.lts
      obtain ⟨⟨p1, p2, p3, p4, p5, p6⟩, g1, g2, g3⟩ := HR.out.facts
      have RE := hide (HR.out.end_.later (Below.refl _ _).drew)
      have HE0 : Hid (((((wr.setCell ⟨w.heap.size + 1, 0, none⟩ (.int .i64 t.1.1)).setCell ⟨w.heap.size + 1, 1, none⟩ (.int .i64 t.1.2)).setCell ⟨w.heap.size + 1, 2, none⟩ (.int .i64 t.2)).setCell ⟨w.heap.size + 1 + 1, 0, none⟩ (.bool is)).drew.cell? ⟨w.heap.size + 1, 0, none⟩ = some (.int .i64 t.1.1)) := RE.out.facts.1.1
      have HE1 : Hid (((((wr.setCell ⟨w.heap.size + 1, 0, none⟩ (.int .i64 t.1.1)).setCell ⟨w.heap.size + 1, 1, none⟩ (.int .i64 t.1.2)).setCell ⟨w.heap.size + 1, 2, none⟩ (.int .i64 t.2)).setCell ⟨w.heap.size + 1 + 1, 0, none⟩ (.bool is)).drew.cell? ⟨w.heap.size + 1, 1, none⟩ = some (.int .i64 t.1.2)) := RE.out.facts.1.2.1
      have HE2 : Hid (((((wr.setCell ⟨w.heap.size + 1, 0, none⟩ (.int .i64 t.1.1)).setCell ⟨w.heap.size + 1, 1, none⟩ (.int .i64 t.1.2)).setCell ⟨w.heap.size + 1, 2, none⟩ (.int .i64 t.2)).setCell ⟨w.heap.size + 1 + 1, 0, none⟩ (.bool is)).drew.cell? ⟨w.heap.size + 1, 2, none⟩ = some (.int .i64 t.2)) := RE.out.facts.1.2.2.1
      have HE3 : Hid (((((wr.setCell ⟨w.heap.size + 1, 0, none⟩ (.int .i64 t.1.1)).setCell ⟨w.heap.size + 1, 1, none⟩ (.int .i64 t.1.2)).setCell ⟨w.heap.size + 1, 2, none⟩ (.int .i64 t.2)).setCell ⟨w.heap.size + 1 + 1, 0, none⟩ (.bool is)).drew.cell? ⟨w.heap.size + 1 + 1, 0, none⟩ = some (.bool is)) := RE.out.facts.1.2.2.2.1
      go_wp2_with fail
      go_region
      go_wp2_with fail
      generalize ((((wr.setCell ⟨w.heap.size + 1, 0, none⟩ (.int .i64 t.1.1)).setCell ⟨w.heap.size + 1, 1, none⟩ (.int .i64 t.1.2)).setCell ⟨w.heap.size + 1, 2, none⟩ (.int .i64 t.2)).setCell ⟨w.heap.size + 1 + 1, 0, none⟩ (.bool is)).drew = w2 at HE0 HE1 HE2 HE3 RE ⊢
      have e0 := HE0.out
      have e1 := HE1.out
      have e2 := HE2.out
      have e3 := HE3.out
      refine leaves_cons (f := 30) (args := #[.pointer (some ⟨w.heap.size + 1, 0, none⟩), .pointer (some ⟨w.heap.size + 1 + 1, 0, none⟩)]) (by simp) (by simp [go_sem]) ?_
      refine (idle_t _ _ _).mono ?_
      rintro e u' w'' ⟨rfl, rfl, rfl⟩
      simp [Leaves, settle, results, Try.results24, go_sem, e0, e1, e2, e3]
      exact ⟨⟨x, t, is, rfl, HI.out⟩, RE.out.below, RE.out.asked⟩
end Go.Proofs.Ytlcccaiahmbkpaa
