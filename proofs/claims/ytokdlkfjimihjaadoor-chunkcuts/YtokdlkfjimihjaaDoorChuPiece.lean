/- The law folder's helpers Piece and Same of pieces. No condition. -/
import Derived.Test.YtokdlkfjimihjaaDoorChuRun
import Derived.Shelf.Abstract
namespace Go.Proofs.YtokdlkfjimihjaaDoor
open Go.ChangeShapes Go.WideShapes Go.ChangeAt Go.RowKit Go.Shelf B8 Ck
set_option linter.unusedVariables false

set_option maxRecDepth 100000 in
theorem piece_like {w : World} {k of sum : Int} {a a' : Option Addr} {m m' cp cp' : Nat} {b : List Int} (hp : Sq w a m cp b) (hq : Sq w a' m' cp' b) (hm : m ≤ 140737488351232) :
    Calls Tryd.prog 15 #[.agg #[.int .i64 k, .int .i64 of, .int .u32 sum, .slice a m cp], .agg #[.int .i64 k, .int .i64 of, .int .u32 sum, .slice a' m' cp']] w fun e w' => e = .returned (.bool true) ∧ Below w.heap.size w w' := by
  obtain ⟨u, eu⟩ : ∃ u, u = (w.alloc (.cells #[.int .i64 k, .int .i64 of, .int .u32 sum, .slice a m cp] 33)).alloc (.cells #[.int .i64 k, .int .i64 of, .int .u32 sum, .slice a' m' cp'] 33) := ⟨_, rfl⟩
  have BU : Hid (Below w.heap.size w u) := by rw [eu]; exact below_alloc (below_alloc (Below.refl _ _) _) _
  have C := hide (bytes_lit (hp.below BU.out) (hq.below BU.out) (by omega) (x := true) (by simp))
  rw [eu] at C BU
  clear hp hq eu
  go_enter Tryd.func15, Tryd.ntmps15
  go_wp2_with fail
  refine C.out.mono ?_
  rintro e w1 ⟨rfl, hb⟩
  have B1 := hide (below_step BU.out hb)
  clear hb
  go_wp2_with fail
  go_ret
  exact ⟨rfl, B1.out⟩
theorem call_Piece : ∀ (args : Array Value) (w : World), (callFunc 15 args).run Tryd.prog w = .ok (.enter 15 args) w := enters_of Tryd.func15 (by kernel_rfl) rfl
set_option maxRecDepth 100000 in
set_option maxHeartbeats 1000000 in
theorem same_pieces {w : World} {P P' : Nat → Prop} {a a' : Option Addr} {m c c' : Nat} {l l' : List Pv} (h : Ls w P a m l) (h' : Ls w P' a' m l') (hm : m ≤ 4000000) (he : l.map Pv.pc = l'.map Pv.pc) :
    Calls Tryd.prog 14 #[.slice a m c, .slice a' m c', .func (.func 15) #[] #[]] w fun e w' => e = .returned (.bool true) ∧ Below w.heap.size w w' := by
  have H := hide h
  have H' := hide h'
  have HE := hide he
  have cc := call_Piece
  clear h h' he
  go_enter Tryd.func14, Tryd.ntmps14
  go_wp2_with fail
  go_loopw [7] (fun i wr => ∃ k : Nat, k ≤ m ∧ i = .int .i64 k ∧ Hid (Below w.heap.size w wr)) (fun i _ => m - (intOf i).toNat)
  case atStart => exact ⟨0, Nat.zero_le _, rfl, Below.refl _ _⟩
  case round =>
    obtain ⟨k, hk, rfl, HW⟩ := hrel
    by_cases hlt : k < m
    · have i1 : (k : Int) < (m : Int) := by omega
      have i2 : (0 : Int) ≤ (k : Int) := by omega
      obtain ⟨g, o, p, rfl, _, hp, hpl, c0, c1, c2, c3⟩ := (H.out.below HW.out).at hlt
      obtain ⟨g', o', q, rfl, _, hq, hql, d0, d1, d2, d3⟩ := (H'.out.below HW.out).at hlt
      have OP := hide (H.out.each p hpl)
      have OQ := hide (H'.out.each q hql)
      have e4 : p.pc = q.pc := by
        have e3 : (l.map Pv.pc)[k]? = (l'.map Pv.pc)[k]? := by rw [HE.out]
        simpa [hp, hq] using e3
      obtain ⟨e1, e2, e3, e5⟩ : p.k = q.k ∧ p.of = q.of ∧ p.sum = q.sum ∧ p.b = q.b := by simpa [Pv.pc] using e4
      have S0 : Hid (∀ y : World, Below w.heap.size w y → Calls Tryd.prog 15 #[.agg #[.int .i64 p.k, .int .i64 p.of, .int .u32 p.sum, .slice p.a p.m p.cp], .agg #[.int .i64 q.k, .int .i64 q.of, .int .u32 q.sum, .slice q.a q.m q.cp]] y fun e w' => e = .returned (.bool true) ∧ Below y.heap.size y w') := fun y hy => by
        have h1 := (OP.out.below hy).bi.1
        have h2 := (OQ.out.below hy).bi.1
        rw [← e1, ← e2, ← e3]
        rw [← e5] at h2
        exact piece_like h1 h2 OP.out.room
      clear hp hq e1 e2 e3 e4 e5 OP OQ hpl hql
      go_wp2_with fail
      refine wp_region_cells w [(⟨g, o + k * 4, none⟩, .int .i64 p.k), (⟨g, o + k * 4 + 1, none⟩, .int .i64 p.of), (⟨g, o + k * 4 + 2, none⟩, .int .u32 p.sum), (⟨g, o + k * 4 + 3, none⟩, .slice p.a p.m p.cp), (⟨g', o' + k * 4, none⟩, .int .i64 q.k), (⟨g', o' + k * 4 + 1, none⟩, .int .i64 q.of), (⟨g', o' + k * 4 + 2, none⟩, .int .u32 q.sum), (⟨g', o' + k * 4 + 3, none⟩, .slice q.a q.m q.cp)] (by kernel_rfl) (by kernel_rfl) HW.out (by simp [AllCells, c0, c1, c2, c3, d0, d1, d2, d3]) ?_
      intro hne qq
      simp only [AllCells, and_true] at qq
      clear c0 c1 c2 c3 d0 d1 d2 d3
      repeat (go_big_quiet_step (first | (go_at_call 15; exact Held.call _ (S0.out _ (Held.below _)))))
      refine wpQuiet_nil ?_
      rintro _ ⟨y, rfl⟩
      have BQ : Hid (Below w.heap.size w y.x) := y.below
      clear qq hne S0
      go_wp2_with fail
      go_roundw
      case rel => exact ⟨k + 1, by omega, by go_num, BQ⟩
      case measure => simp [intOf]; omega
    · go_wp2_with fail
      go_ret
      exact ⟨rfl, HW.out⟩
end Go.Proofs.YtokdlkfjimihjaaDoor
