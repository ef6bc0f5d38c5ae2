/- wire's calls Note and ReadNote. No condition but the size. -/
import Derived.Test.YtiafohpigkkgbaaFWireTopNote
import Derived.Test.YtiafohpigkkgbaaJA
import Derived.Deep.Cut
namespace Go.Proofs.Ytiafohpigkkgbaa
open Go.ChangeShapes Go.WideShapes Go.ChangeAt Go.RowKit B8 Cm Wm
set_option linter.unusedVariables false

theorem kinds_tVal_note (bs : List Int) : (tVal [0, 0, 0, 0, 0, 0, 0, 4, 0, 4, 0, 3, 0, 0, 0, 0] bs).map Atom.k = [0, 0, 0, 0, 0, 0, 0, 4, 0, 4, 0, 3, 0, 0, 0, 0] := tVal_kinds _ _ (by decide)
set_option maxRecDepth 100000 in
theorem ccall_note {w : World} {cs : Array Value} {xs : List Atom} (h : Vals w (fun b => b < w.heap.size) cs xs) (hk : xs.map Atom.k = [0, 0, 0, 0, 0, 0, 0, 4, 0, 4, 0, 3, 0, 0, 0, 0]) :
    Calls Try.prog 11 #[.agg cs] w fun e w' => ∃ a cp, e = .returned (.tuple #[.slice a (wBytes (flds xs)).length cp, .int .i64 (wErr (flds xs))]) ∧ Mine w' w.heap.size a (wBytes (flds xs)).length cp (wBytes (flds xs)) ∧ Below w.heap.size w w' := by
  have b1 : Below w.heap.size w (w.alloc (.cells cs 55)) := Below.alloc (Below.refl _ _) (Nat.le_refl _) _
  have hi : (Try.prog.info? 55).map (·.size) = some cs.size := by rw [h.size_of hk]; exact info_note
  have C := cwritten_note (h.below b1) hk
  obtain ⟨bs, eb⟩ : ∃ bs, bs = wBytes (flds xs) := ⟨_, rfl⟩
  obtain ⟨n, en⟩ : ∃ n, n = bs.length := ⟨_, rfl⟩
  rw [← eb, ← en] at C ⊢
  have C := hide C
  have B1 := hide b1
  have HI := hide hi
  have ROW := hide (heap_alloc_new w (.cells cs 55))
  have hsz : cs.size = 16 := h.size_of hk
  clear h hk eb en b1 hi
  go_enter Try.func11, Try.ntmps11
  go_wp2_with (refine wpList_load_row rfl 55 (.tmp 1) rfl w.heap.size rfl 55 cs (0, 0) _ ROW.out Try.underlying55 rfl HI.out ?_)
  refine C.out.mono ?_
  rintro e w1 ⟨a, cp, rfl, hm, hb⟩
  have M := hide (hm.base (B' := w.heap.size) B1.out.size)
  have B := hide (below_step B1.out hb)
  clear hm hb C
  go_wp2_with fail
  go_ret2
  exact ⟨a, cp, rfl, M.out, B.out⟩
set_option maxRecDepth 100000 in
theorem cread_note {w : World} {a : Option Addr} {n cp : Nat} {bs : List Int} (q : Sq w a n cp bs) (hn : n ≤ 140737488355328) :
    Calls Try.prog 10 #[.slice a n cp] w fun e w' => ∃ cs, e = .returned (.tuple #[.agg cs, .int .i64 (tErr [0, 0, 0, 0, 0, 0, 0, 4, 0, 4, 0, 3, 0, 0, 0, 0] bs)]) ∧ Vals w' (fun b => w.heap.size ≤ b ∧ b < w'.heap.size ∧ Free w' b) cs (tVal [0, 0, 0, 0, 0, 0, 0, 4, 0, 4, 0, 3, 0, 0, 0, 0] bs) ∧ Below w.heap.size w w' := by
  obtain ⟨w1, e1⟩ : ∃ w1, w1 = w.alloc (.cells #[.int .i64 0, .int .i64 0, .int .i64 0, .int .i64 0, .int .i64 0, .int .i64 0, .int .i64 0, .slice none 0 0, .int .i64 0, .slice none 0 0, .int .i64 0, .string ⟨#[]⟩, .int .i64 0, .int .i64 0, .int .i64 0, .int .i64 0] 55) := ⟨_, rfl⟩
  have b1 : Below w.heap.size w w1 := by rw [e1]; exact below_alloc (Below.refl _ _) _
  have s1 : w1.heap.size = w.heap.size + 1 := by rw [e1]; simp
  have r0 : w1.heap[w.heap.size]? = some (.cells #[.int .i64 0, .int .i64 0, .int .i64 0, .int .i64 0, .int .i64 0, .int .i64 0, .int .i64 0, .slice none 0 0, .int .i64 0, .slice none 0 0, .int .i64 0, .string ⟨#[]⟩, .int .i64 0, .int .i64 0, .int .i64 0, .int .i64 0] 55) := by rw [e1]; exact heap_alloc_new w _
  have C := hide (ctaken_note (q.below b1) hn)
  have B1 := hide b1
  have S1 := hide s1
  have R0 := hide r0
  have E1 := hide e1.symm
  obtain ⟨E, eE⟩ : ∃ E, E = tErr [0, 0, 0, 0, 0, 0, 0, 4, 0, 4, 0, 3, 0, 0, 0, 0] bs := ⟨_, rfl⟩
  obtain ⟨X, eX⟩ : ∃ X, X = tVal [0, 0, 0, 0, 0, 0, 0, 4, 0, 4, 0, 3, 0, 0, 0, 0] bs := ⟨_, rfl⟩
  have kX : X.map Atom.k = [0, 0, 0, 0, 0, 0, 0, 4, 0, 4, 0, 3, 0, 0, 0, 0] := by rw [eX]; exact kinds_tVal_note bs
  rw [← eE, ← eX] at C ⊢
  have KX := hide kX
  clear q b1 s1 r0 e1 eE eX kX
  go_enter Try.func10, Try.ntmps10
  go_upto_region 1 with fail
  rw [E1.out]
  clear E1
  go_wp2_with fail
  refine C.out.mono ?_
  rintro e w2 ⟨cs, rfl, hv, hb⟩
  have r2 : w2.heap[w.heap.size]? = some (.cells #[.int .i64 0, .int .i64 0, .int .i64 0, .int .i64 0, .int .i64 0, .int .i64 0, .int .i64 0, .slice none 0 0, .int .i64 0, .slice none 0 0, .int .i64 0, .string ⟨#[]⟩, .int .i64 0, .int .i64 0, .int .i64 0, .int .i64 0] 55) := (hb.block _ (by rw [S1.out]; omega)).trans R0.out
  have L1 := hide (lay_row_free r2 (below_step B1.out hb) (hv.same fun b hl => ⟨⟨by have := hl.1; rw [S1.out] at this; omega, hl.2⟩, rfl⟩))
  have ONE := hide hv.one
  have INF : Hid ((Try.prog.info? 55).map (·.size) = some cs.size) := by show _ = _; rw [hv.size_of KX.out]; exact info_note
  have SZC : Hid ((#[.int .i64 0, .int .i64 0, .int .i64 0, .int .i64 0, .int .i64 0, .int .i64 0, .int .i64 0, .slice none 0 0, .int .i64 0, .slice none 0 0, .int .i64 0, .string ⟨#[]⟩, .int .i64 0, .int .i64 0, .int .i64 0, .int .i64 0] : Array Value).size = cs.size) := (hv.size_of KX.out).symm
  have RR := hide r2
  clear hv hb r2 C R0 S1 B1
  go_wp2_with (refine wpList_store_row rfl 55 (.tmp 2) (.tmp 6) rfl w.heap.size cs rfl rfl 55 #[.int .i64 0, .int .i64 0, .int .i64 0, .int .i64 0, .int .i64 0, .int .i64 0, .int .i64 0, .slice none 0 0, .int .i64 0, .slice none 0 0, .int .i64 0, .string ⟨#[]⟩, .int .i64 0, .int .i64 0, .int .i64 0, .int .i64 0] RR.out INF.out SZC.out ONE.out ?_)
  refine bodyPost_ret (v := .tuple #[.agg cs, .int .i64 E]) ?r ?d ?_
  case r => exact results_cell_tmp rfl _ _ w.heap.size 55 cs (0, 0) _ (.int .i64 E) rfl rfl L1.out.1 Try.underlying55 rfl INF.out
  case d => rfl
  exact ⟨_, rfl, L1.out.2.1, L1.out.2.2⟩
end Go.Proofs.Ytiafohpigkkgbaa
