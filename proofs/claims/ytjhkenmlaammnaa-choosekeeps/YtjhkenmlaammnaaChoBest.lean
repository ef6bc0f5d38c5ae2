/- What Best of package ballot returns for votes, and best, entry and greatest of package choose. No condition. -/
import Derived.Test.YtjhkenmlaammnaaChoRight
import Derived.Defers
import Derived.Recover
import Derived.Handy
import Derived.Shelf.Abstract
namespace Go.Proofs.Ytjhkenmlaammnaa
open Go.ChangeShapes Go.WideShapes Go.ChangeAt Go.RowKit Go.Shelf B8 Am Cz
set_option linter.unusedVariables false

def pickP (b : Option Vv) (v : Vv) : Option Vv := match b with
  | none => some v
  | some u => if lessB u.r u.n v.r v.n = true then some v else some u
def bestP (l : List Vv) : Option Vv := l.foldl pickP none
theorem pickP_vt (b : Option Vv) (v : Vv) : (pickP b v).map Vv.vt = pick (b.map Vv.vt) v.vt := by
  cases b with
  | none => rfl
  | some u =>
    by_cases hl : lessB u.r u.n v.r v.n = true
    · simp [pickP, pick, Vv.vt, hl]
    · simp [pickP, pick, Vv.vt, hl]
theorem bestP_vt (l : List Vv) : (bestP l).map Vv.vt = bestV (l.map Vv.vt) := by
  unfold bestP bestV
  have key : ∀ (l : List Vv) (b : Option Vv), (l.foldl pickP b).map Vv.vt = (l.map Vv.vt).foldl pick (b.map Vv.vt) := fun l => by
    induction l with
    | nil => intro b; rfl
    | cons v r ih => intro b; rw [List.foldl_cons, ih, List.map_cons, List.foldl_cons, pickP_vt]
  exact key l none
theorem bestP_mem : ∀ (l : List Vv) (b : Option Vv) {v : Vv}, l.foldl pickP b = some v → v ∈ l ∨ b = some v
  | [], b, v, h => .inr h
  | x :: r, b, v, h => by
    rw [List.foldl_cons] at h
    rcases bestP_mem r _ h with h1 | h1
    · exact .inl (by simp [h1])
    · cases b with
      | none =>
        simp only [pickP] at h1
        cases h1
        exact .inl (by simp)
      | some u =>
        simp only [pickP] at h1
        split at h1
        · cases h1; exact .inl (by simp)
        · exact .inr h1
theorem bestP_in {l : List Vv} {v : Vv} (h : bestP l = some v) : v ∈ l := by
  rcases bestP_mem l none h with h | h
  · exact h
  · cases h
def dvv : Vv := ⟨0, 0, 0, none, 0, 0, []⟩
def vrow (p : Vv) : Array Value := #[.int .i64 p.s, .int .i64 p.r, .int .i64 p.n, .slice p.a p.m p.cp]

set_option maxHeartbeats 1000000 in
theorem idle_v (p q : Addr) (w : World) :
    CallsD Try.prog 71 #[.pointer (some p), .pointer (some q)] .returning w fun e u' w' => e = .returned (.tuple #[]) ∧ u' = .returning ∧ w' = w := by
  refine callsD_of_wpS Try.func71 rfl fun c₀ cs hu => ?_
  apply wpS_seq
  apply wpS_region
  simp [wpOpsS, go_sem, recoverD, hu, Try.ntmps71, Exit.thenS]
  refine wpS_cond (t := false) (by simp [Act.eval, Array.replicate]) ?_
  simp only [Bool.false_eq_true, if_false]
  refine wpS_of_wp (wp_skip ?_)
  cases c₀
  simp_all [bodyPostS, results, Try.results71]
theorem asks_v (p : Vv) (w : World) :
    Calls Try.prog 59 #[.agg #[.int .i64 p.s, .int .i64 p.r, .int .i64 p.n, .slice p.a p.m p.cp]] w fun e w' => e = .returned (.agg #[.int .i64 p.r, .int .i64 p.n]) ∧ Below w.heap.size w w' := by
  go_enter Try.func59, Try.ntmps59
  go_wp2
  go_returns
  exact ⟨rfl, by go_grown⟩
/-- a round of Best: what it has, and the greatest ballot so far -/
structure TvR (w : World) (t : Vv) (is : Bool) (wr : World) : Prop where
  below : Below w.heap.size w wr
  best : wr.heap[w.heap.size]? = some (.cells (vrow t) 45 (0, 0))
  is_ : wr.heap[w.heap.size + 1]? = some (.cells #[.bool is] 4 (0, 0))
  most : wr.heap[w.heap.size + 1 + 1]? = some (.cells #[.int .i64 t.r, .int .i64 t.n] 43 (0, 0))
section
variable {w wr w' : World} {t : Vv} {is : Bool}
theorem TvR.lts (h : TvR w t is wr) : w.heap.size < wr.heap.size ∧ w.heap.size + 1 < wr.heap.size ∧ w.heap.size + 1 + 1 < wr.heap.size :=
  ⟨(Array.getElem?_eq_some_iff.1 h.best).1, (Array.getElem?_eq_some_iff.1 h.is_).1, (Array.getElem?_eq_some_iff.1 h.most).1⟩
theorem TvR.later (h : TvR w t is wr) (hb : Below wr.heap.size wr w') : TvR w t is w' := by
  obtain ⟨l1, l2, l3⟩ := h.lts
  exact ⟨h.below.trans (hb.mono h.below.size), (hb.block _ l1).trans h.best, (hb.block _ l2).trans h.is_, (hb.block _ l3).trans h.most⟩
theorem TvR.facts (h : TvR w t is wr) :
    (wr.cell? ⟨w.heap.size, 0, none⟩ = some (.int .i64 t.s) ∧ wr.cell? ⟨w.heap.size, 1, none⟩ = some (.int .i64 t.r) ∧ wr.cell? ⟨w.heap.size, 2, none⟩ = some (.int .i64 t.n) ∧ wr.cell? ⟨w.heap.size, 3, none⟩ = some (.slice t.a t.m t.cp) ∧ wr.cell? ⟨w.heap.size + 1, 0, none⟩ = some (.bool is) ∧ wr.cell? ⟨w.heap.size + 1 + 1, 0, none⟩ = some (.int .i64 t.r) ∧ wr.cell? ⟨w.heap.size + 1 + 1, 1, none⟩ = some (.int .i64 t.n))
    ∧ (∀ o, wr.frozen? ⟨w.heap.size, o, none⟩ = false) ∧ (∀ o, wr.frozen? ⟨w.heap.size + 1, o, none⟩ = false) ∧ (∀ o, wr.frozen? ⟨w.heap.size + 1 + 1, o, none⟩ = false) := by
  refine ⟨⟨?_, ?_, ?_, ?_, ?_, ?_, ?_⟩, fun o => frozen_of_row _ _ _ _ _ h.best, fun o => frozen_of_row _ _ _ _ _ h.is_, fun o => frozen_of_row _ _ _ _ _ h.most⟩
  · rw [cell_of_row _ _ _ _ _ _ h.best]; rfl
  · rw [cell_of_row _ _ _ _ _ _ h.best]; rfl
  · rw [cell_of_row _ _ _ _ _ _ h.best]; rfl
  · rw [cell_of_row _ _ _ _ _ _ h.best]; rfl
  · rw [cell_of_row _ _ _ _ _ _ h.is_]; rfl
  · rw [cell_of_row _ _ _ _ _ _ h.most]; rfl
  · rw [cell_of_row _ _ _ _ _ _ h.most]; rfl
theorem TvR.set (h : TvR w t is wr) (u : Vv) (js : Bool) :
    TvR w u js (((((((wr.setCell ⟨w.heap.size, 0, none⟩ (.int .i64 u.s)).setCell ⟨w.heap.size, 1, none⟩ (.int .i64 u.r)).setCell ⟨w.heap.size, 2, none⟩ (.int .i64 u.n)).setCell ⟨w.heap.size, 3, none⟩ (.slice u.a u.m u.cp)).setCell ⟨w.heap.size + 1 + 1, 0, none⟩ (.int .i64 u.r)).setCell ⟨w.heap.size + 1 + 1, 1, none⟩ (.int .i64 u.n)).setCell ⟨w.heap.size + 1, 0, none⟩ (.bool js)) := by
  have hb := h.below
  refine ⟨by go_grown, ?_, ?_, ?_⟩
  · exact set_row (set_row (set_row (put_row (put_row (put_row (put_row h.best)))) (by omega)) (by omega)) (by omega)
  · exact put_row (set_row (set_row (set_row (set_row (set_row (set_row h.is_ (by omega)) (by omega)) (by omega)) (by omega)) (by omega)) (by omega))
  · exact set_row (put_row (put_row (set_row (set_row (set_row (set_row h.most (by omega)) (by omega)) (by omega)) (by omega)))) (by omega)
theorem TvR.end_ (h : TvR w t is wr) :
    TvR w t is (((((wr.setCell ⟨w.heap.size, 0, none⟩ (.int .i64 t.s)).setCell ⟨w.heap.size, 1, none⟩ (.int .i64 t.r)).setCell ⟨w.heap.size, 2, none⟩ (.int .i64 t.n)).setCell ⟨w.heap.size, 3, none⟩ (.slice t.a t.m t.cp)).setCell ⟨w.heap.size + 1, 0, none⟩ (.bool is)) := by
  have hb := h.below
  refine ⟨by go_grown, ?_, ?_, ?_⟩
  · exact set_row (put_row (put_row (put_row (put_row h.best)))) (by omega)
  · exact put_row (set_row (set_row (set_row (set_row h.is_ (by omega)) (by omega)) (by omega)) (by omega))
  · exact set_row (set_row (set_row (set_row (set_row h.most (by omega)) (by omega)) (by omega)) (by omega)) (by omega)
end
set_option maxRecDepth 100000 in
set_option maxHeartbeats 2000000 in
theorem best_v {w : World} {a : Option Addr} {m c : Nat} {l : List Vv} (h : Vs w a m l) :
    Calls Try.prog 58 #[.slice a m c, .func (.func 59) #[] #[]] w fun e w' => e = .returned (.tuple #[.agg #[.int .i64 ((bestP l).getD dvv).s, .int .i64 ((bestP l).getD dvv).r, .int .i64 ((bestP l).getD dvv).n, .slice ((bestP l).getD dvv).a ((bestP l).getD dvv).m ((bestP l).getD dvv).cp], .bool (bestP l).isSome]) ∧ Below w.heap.size w w' := by
  have hmf : ∀ (fn : Fn) (first cap : Array Value) (w : World), (Instr.makeFunc fn first cap).run Try.prog w = .ok (.func fn first cap) w := fun _ _ _ _ => rfl
  have cc : ∀ (args : Array Value) (w : World), (callFunc 59 args).run Try.prog w = .ok (.enter 59 args) w := enters_of Try.func59 (by kernel_rfl) rfl
  have HS := hide h
  have rm := h.room
  have R0 : TvR w dvv false (((w.alloc (.cells #[.int .i64 0, .int .i64 0, .int .i64 0, .slice none 0 0] 45)).alloc (.cells #[.bool false] 4)).alloc (.cells #[.int .i64 0, .int .i64 0] 43)) := by
    refine ⟨by go_grown, ?_, ?_, ?_⟩
    · rw [Below.heap_alloc _ _ _ (by simp <;> omega), Below.heap_alloc _ _ _ (by simp)]
      exact heap_alloc_new w _
    · rw [Below.heap_alloc _ _ _ (by simp)]
      have := heap_alloc_new (w.alloc (.cells #[.int .i64 0, .int .i64 0, .int .i64 0, .slice none 0 0] 45)) (.cells #[.bool false] 4)
      simpa using this
    · have := heap_alloc_new ((w.alloc (.cells #[.int .i64 0, .int .i64 0, .int .i64 0, .slice none 0 0] 45)).alloc (.cells #[.bool false] 4)) (.cells #[.int .i64 0, .int .i64 0] 43)
      show _ = some (Obj.cells #[.int .i64 0, .int .i64 0] 43 (0, 0))
      simpa using this
  clear h
  have HR0 := hide R0
  clear R0
  go_enter_defers Try.func58, Try.ntmps58
  go_wp2_with fail
  go_loopw [8, 9, 13] (fun _ _ iv wr => ∃ (k : Nat) (cur : Option Vv), k ≤ m ∧ iv = .int .i64 k ∧ Hid (TvR w (cur.getD dvv) cur.isSome wr) ∧ Hid ((l.take k).foldl pickP none = cur)) (fun _ _ iv _ => m - (intOf iv).toNat)
  case atStart => exact ⟨0, none, Nat.zero_le _, rfl, HR0, rfl⟩
  case round =>
    obtain ⟨k, cur, hk, rfl, HR, HI⟩ := hrel
    clear HR0
    by_cases hlt : k < m
    · obtain ⟨b, off, p, rfl, hb, hp, hpl, c0, c1, c2, c3⟩ := (HS.out.below HR.out.below).at hlt
      have TS : Hid ((l.take (k + 1)).foldl pickP none = pickP cur p) := by
        show _ = _
        rw [take_snoc hp, List.foldl_append, HI.out]
        rfl
      have RA := hide (HR.out.later (below_alloc (Below.refl _ _) (.cells #[.int .i64 p.s, .int .i64 p.r, .int .i64 p.n, .slice p.a p.m p.cp] 45)))
      have SF := hide (asks_v p (wr.alloc (.cells #[.int .i64 p.s, .int .i64 p.r, .int .i64 p.n, .slice p.a p.m p.cp] 45)))
      have TR := hide (heap_alloc_new wr (.cells #[.int .i64 p.s, .int .i64 p.r, .int .i64 p.n, .slice p.a p.m p.cp] 45))
      clear hb hp hpl HI
      go_wp2_with fail
      refine SF.out.mono ?_
      rintro e w1 ⟨rfl, hb2⟩
      have R1 := hide (RA.out.later hb2)
      have hq : w1.heap[wr.heap.size]? = some (.cells #[.int .i64 p.s, .int .i64 p.r, .int .i64 p.n, .slice p.a p.m p.cp] 45 (0, 0)) := (hb2.block _ (by simp)).trans TR.out
      have q1 : w1.cell? ⟨wr.heap.size, 0, none⟩ = some (.int .i64 p.s) := by rw [cell_of_row _ _ _ _ _ _ hq]; rfl
      have q2 : w1.cell? ⟨wr.heap.size, 1, none⟩ = some (.int .i64 p.r) := by rw [cell_of_row _ _ _ _ _ _ hq]; rfl
      have q3 : w1.cell? ⟨wr.heap.size, 2, none⟩ = some (.int .i64 p.n) := by rw [cell_of_row _ _ _ _ _ _ hq]; rfl
      have q4 : w1.cell? ⟨wr.heap.size, 3, none⟩ = some (.slice p.a p.m p.cp) := by rw [cell_of_row _ _ _ _ _ _ hq]; rfl
      have z0 := World.block_lt_of_cell? _ _ q1
      simp only at z0
      obtain ⟨z1, z2, z3⟩ := R1.out.lts
      obtain ⟨v1, v2, v3⟩ := HR.out.lts
      clear hb2 SF c0 c1 c2 c3 HR RA TR hq
      cases cur with
      | none =>
        simp only [Option.getD_none, Option.isSome_none] at R1
        obtain ⟨⟨p1, p2, p3, p4, p5, p6, p7⟩, g1, g2, g3⟩ := R1.out.facts
        go_wp2_with fail
        go_region
        go_wp2_with fail
        go_roundw
        case rel => exact ⟨k + 1, some p, by omega, by go_num, ((R1.out.set p true).later (below_alloc (Below.refl _ _) _)).later (Below.refl _ _).drew, TS⟩
        case measure => simp [intOf]; omega
      | some x =>
        simp only [Option.getD_some, Option.isSome_some] at R1
        obtain ⟨⟨p1, p2, p3, p4, p5, p6, p7⟩, g1, g2, g3⟩ := R1.out.facts
        have B1 := hide (below_alloc (Below.refl w1.heap.size w1) (.cells #[.int .i64 p.r, .int .i64 p.n] 43))
        obtain ⟨r1, r2, _⟩ := allCells_new2 w1 (.int .i64 p.r) (.int .i64 p.n) 43
        simp only at r1 r2
        have R2 := hide (R1.out.later B1.out)
        have U2 := hide (show AllCells (w1.alloc (.cells #[.int .i64 p.r, .int .i64 p.n] 43)) [(⟨wr.heap.size, 0, none⟩, .int .i64 p.s), (⟨wr.heap.size, 1, none⟩, .int .i64 p.r), (⟨wr.heap.size, 2, none⟩, .int .i64 p.n), (⟨wr.heap.size, 3, none⟩, .slice p.a p.m p.cp), (⟨w1.heap.size, 0, none⟩, .int .i64 p.r), (⟨w1.heap.size, 1, none⟩, .int .i64 p.n)] from ⟨(B1.out.cell (p := ⟨wr.heap.size, 0, none⟩) z0).trans q1, (B1.out.cell (p := ⟨wr.heap.size, 1, none⟩) z0).trans q2, (B1.out.cell (p := ⟨wr.heap.size, 2, none⟩) z0).trans q3, (B1.out.cell (p := ⟨wr.heap.size, 3, none⟩) z0).trans q4, r1, r2, trivial⟩)
        clear B1 r1 r2
        go_wp2_with fail
        cases hl : lessB x.r x.n p.r p.n with
        | true =>
          refine (less_lit hl _).mono ?_
          rintro e w3 ⟨rfl, hb3⟩
          have R3 := hide (R2.out.later hb3)
          have T : Hid ((l.take (k + 1)).foldl pickP none = some p) := by show _ = _; rw [TS.out]; simp [pickP, hl]
          obtain ⟨y1, y2, y5, y6, y3, y4, _⟩ := allCells_below hb3 U2.out
          simp only at y1 y2 y3 y4 y5 y6
          clear p1 p2 p3 p4 p5 p6 p7 g1 g2 g3 q1 q2 q3 q4 hl hb3 U2 R2 R1 TS
          obtain ⟨⟨p1, p2, p3, p4, p5, p6, p7⟩, g1, g2, g3⟩ := R3.out.facts
          go_wp2_with fail
          go_region
          go_wp2_with fail
          go_roundw
          case rel => exact ⟨k + 1, some p, by omega, by go_num, (R3.out.set p true).later (Below.refl _ _).drew, T⟩
          case measure => simp [intOf]; omega
        | false =>
          refine (less_lit hl _).mono ?_
          rintro e w3 ⟨rfl, hb3⟩
          have R3 := hide (R2.out.later hb3)
          have T : Hid ((l.take (k + 1)).foldl pickP none = some x) := by show _ = _; rw [TS.out]; simp [pickP, hl]
          clear p1 p2 p3 p4 p5 p6 p7 g1 g2 g3 q1 q2 q3 q4 hl hb3 U2 R2 R1 TS z0 z1 z2 z3
          go_wp2_with fail
          go_roundw
          case rel => exact ⟨k + 1, some x, by omega, by go_num, R3, T⟩
          case measure => simp [intOf]; omega
    · obtain rfl : k = m := by omega
      have EB : Hid (bestP l = cur) := by
        show _ = _
        rw [← HI.out, List.take_of_length_le (by rw [HS.out.len]; exact Nat.le_refl _)]
        rfl
      have ET : Hid ((bestP l).getD dvv = cur.getD dvv ∧ (bestP l).isSome = cur.isSome) := by rw [EB.out]; exact ⟨rfl, rfl⟩
      generalize cur.getD dvv = t at *
      generalize cur.isSome = is at *
      obtain ⟨z1, z2, z3⟩ := HR.out.lts
      obtain ⟨⟨p1, p2, p3, p4, p5, p6, p7⟩, g1, g2, g3⟩ := HR.out.facts
      have RE := hide (HR.out.end_.later (Below.refl _ _).drew)
      have HE0 : Hid (((((((wr.setCell ⟨w.heap.size, 0, none⟩ (.int .i64 t.s)).setCell ⟨w.heap.size, 1, none⟩ (.int .i64 t.r)).setCell ⟨w.heap.size, 2, none⟩ (.int .i64 t.n)).setCell ⟨w.heap.size, 3, none⟩ (.slice t.a t.m t.cp)).setCell ⟨w.heap.size + 1, 0, none⟩ (.bool is)).drew).cell? ⟨w.heap.size, 0, none⟩ = some (.int .i64 t.s)) := RE.out.facts.1.1
      have HE1 : Hid (((((((wr.setCell ⟨w.heap.size, 0, none⟩ (.int .i64 t.s)).setCell ⟨w.heap.size, 1, none⟩ (.int .i64 t.r)).setCell ⟨w.heap.size, 2, none⟩ (.int .i64 t.n)).setCell ⟨w.heap.size, 3, none⟩ (.slice t.a t.m t.cp)).setCell ⟨w.heap.size + 1, 0, none⟩ (.bool is)).drew).cell? ⟨w.heap.size, 1, none⟩ = some (.int .i64 t.r)) := RE.out.facts.1.2.1
      have HE2 : Hid (((((((wr.setCell ⟨w.heap.size, 0, none⟩ (.int .i64 t.s)).setCell ⟨w.heap.size, 1, none⟩ (.int .i64 t.r)).setCell ⟨w.heap.size, 2, none⟩ (.int .i64 t.n)).setCell ⟨w.heap.size, 3, none⟩ (.slice t.a t.m t.cp)).setCell ⟨w.heap.size + 1, 0, none⟩ (.bool is)).drew).cell? ⟨w.heap.size, 2, none⟩ = some (.int .i64 t.n)) := RE.out.facts.1.2.2.1
      have HE3 : Hid (((((((wr.setCell ⟨w.heap.size, 0, none⟩ (.int .i64 t.s)).setCell ⟨w.heap.size, 1, none⟩ (.int .i64 t.r)).setCell ⟨w.heap.size, 2, none⟩ (.int .i64 t.n)).setCell ⟨w.heap.size, 3, none⟩ (.slice t.a t.m t.cp)).setCell ⟨w.heap.size + 1, 0, none⟩ (.bool is)).drew).cell? ⟨w.heap.size, 3, none⟩ = some (.slice t.a t.m t.cp)) := RE.out.facts.1.2.2.2.1
      have HE4 : Hid (((((((wr.setCell ⟨w.heap.size, 0, none⟩ (.int .i64 t.s)).setCell ⟨w.heap.size, 1, none⟩ (.int .i64 t.r)).setCell ⟨w.heap.size, 2, none⟩ (.int .i64 t.n)).setCell ⟨w.heap.size, 3, none⟩ (.slice t.a t.m t.cp)).setCell ⟨w.heap.size + 1, 0, none⟩ (.bool is)).drew).cell? ⟨w.heap.size + 1, 0, none⟩ = some (.bool is)) := RE.out.facts.1.2.2.2.2.1
      clear HI EB
      go_wp2_with fail
      go_region
      go_wp2_with fail
      generalize (((((wr.setCell ⟨w.heap.size, 0, none⟩ (.int .i64 t.s)).setCell ⟨w.heap.size, 1, none⟩ (.int .i64 t.r)).setCell ⟨w.heap.size, 2, none⟩ (.int .i64 t.n)).setCell ⟨w.heap.size, 3, none⟩ (.slice t.a t.m t.cp)).setCell ⟨w.heap.size + 1, 0, none⟩ (.bool is)).drew = w2 at HE0 HE1 HE2 HE3 HE4 RE ⊢
      have e0 := HE0.out
      have e1 := HE1.out
      have e2 := HE2.out
      have e3 := HE3.out
      have e4 := HE4.out
      refine leaves_cons (f := 71) (args := #[.pointer (some ⟨w.heap.size, 0, none⟩), .pointer (some ⟨w.heap.size + 1, 0, none⟩)]) (by simp) (by simp [go_sem]) ?_
      refine (idle_v _ _ _).mono ?_
      rintro e u' w'' ⟨rfl, rfl, rfl⟩
      simp [Leaves, settle, results, Try.results58, go_sem, e0, e1, e2, e3, e4]
      rw [ET.out.1, ET.out.2]
      exact ⟨⟨⟨rfl, rfl, rfl, ⟨rfl, rfl, rfl⟩⟩, rfl⟩, RE.out.below⟩
end Go.Proofs.Ytjhkenmlaammnaa
