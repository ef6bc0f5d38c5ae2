/- wire's calls State and ReadState. No condition but the size. -/
import Derived.Test.YthklpkmdmkgjiaaGreatFWireTopState
import Derived.Test.YthklpkmdmkgjiaaGreatJA
import Derived.Deep.Cut
namespace Go.Proofs.YthklpkmdmkgjiaaGreat
open Go.ChangeShapes Go.WideShapes Go.ChangeAt Go.RowKit B8 Cm Wm
set_option linter.unusedVariables false

theorem lay_row_sta {w u : World} {cs zs : Array Value} {t : TypeId} {x : Sta} (hu : u.heap[w.heap.size]? = some (.cells zs t)) (hb : Below w.heap.size w u) (hv : StaV u (fun b => w.heap.size < b ∧ b < u.heap.size) cs x) :
    (u.setRow w.heap.size cs).heap[w.heap.size]? = some (.cells cs t) ∧ StaV (u.setRow w.heap.size cs) (fun b => w.heap.size ≤ b ∧ b < (u.setRow w.heap.size cs).heap.size) cs x ∧ Below w.heap.size w (u.setRow w.heap.size cs) := by
  have hother : ∀ b, b ≠ w.heap.size → (u.setRow w.heap.size cs).heap[b]? = u.heap[b]? := fun b hb => by simp only [World.setRow, Array.getElem?_modify]; rw [if_neg (fun e => hb e.symm)]
  refine ⟨setRow_heap u _ _ cs _ _ hu, hv.same fun b hb => ⟨⟨by omega, by rw [size_setRow]; omega⟩, hother b (by omega)⟩, hb.os, hb.tape, hb.output, by rw [size_setRow]; exact hb.size, fun k hk => (hother k (by omega)).trans (hb.block k hk)⟩
set_option maxRecDepth 100000 in
theorem ccall_state {w : World} {cs : Array Value} {x : Sta} (h : StaV w (fun b => b < w.heap.size) cs x) (hk : StaK x) :
    Calls Tryz.prog 4 #[.agg cs] w fun e w' => ∃ a cp, e = .returned (.tuple #[.slice a (wBytes x.flds).length cp, .int .i64 (wErr x.flds)]) ∧ Mine w' w.heap.size a (wBytes x.flds).length cp (wBytes x.flds) ∧ Below w.heap.size w w' := by
  have b1 : Below w.heap.size w (w.alloc (.cells cs 31)) := Below.alloc (Below.refl _ _) (Nat.le_refl _) _
  have hi : (Tryz.prog.info? 31).map (·.size) = some cs.size := by rw [h.size]; exact info_state
  have C := cwritten_state (h.same fun b hb => ⟨Nat.lt_of_lt_of_le hb b1.size, b1.block b hb⟩) hk
  obtain ⟨bs, eb⟩ : ∃ bs, bs = wBytes x.flds := ⟨_, rfl⟩
  obtain ⟨n, en⟩ : ∃ n, n = bs.length := ⟨_, rfl⟩
  rw [← eb, ← en] at C ⊢
  have C := hide C
  have B1 := hide b1
  have HI := hide hi
  have ROW := hide (heap_alloc_new w (.cells cs 31))
  have hsz : cs.size = 29 := h.size
  clear h hk eb en b1 hi
  go_enter Tryz.func4, Tryz.ntmps4
  go_wp2_with (refine wpList_load_row rfl 31 (.tmp 1) rfl w.heap.size rfl 31 cs (0, 0) _ ROW.out Tryz.underlying31 rfl HI.out ?_)
  refine C.out.mono ?_
  rintro e w1 ⟨a, cp, rfl, hm, hb⟩
  have M := hide (hm.base (B' := w.heap.size) B1.out.size)
  have B := hide (below_step B1.out hb)
  clear hm hb C
  go_wp2_with fail
  go_ret2
  exact ⟨a, cp, rfl, M.out, B.out⟩
set_option maxRecDepth 100000 in
theorem cread_state {w : World} {a : Option Addr} {n cp : Nat} {bs : List Int} (q : Sq w a n cp bs) (hn : n ≤ 140737488355328) :
    Calls Tryz.prog 7 #[.slice a n cp] w fun e w' => ∃ cs, e = .returned (.tuple #[.agg cs, .int .i64 (sErr bs)]) ∧ StaV w' (fun b => w.heap.size ≤ b ∧ b < w'.heap.size) cs (sVal bs) ∧ Below w.heap.size w w' := by
  obtain ⟨w1, e1⟩ : ∃ w1, w1 = w.alloc (.cells #[.int .i64 0, .int .i64 0, .bool false, .string ⟨#[]⟩, .string ⟨#[]⟩, .int .i64 0, .slice none 0 0, .slice none 0 0, .slice none 0 0, .slice none 0 0, .slice none 0 0, .int .i64 0, .int .i64 0, .int .i64 0, .string ⟨#[]⟩, .string ⟨#[]⟩, .int .i64 0, .int .i64 0, .int .i64 0, .int .i64 0, .int .i64 0, .string ⟨#[]⟩, .string ⟨#[]⟩, .int .i64 0, .int .i64 0, .slice none 0 0, .int .i64 0, .int .i64 0, .int .i64 0] 31) := ⟨_, rfl⟩
  have b1 : Below w.heap.size w w1 := by rw [e1]; exact below_alloc (Below.refl _ _) _
  have s1 : w1.heap.size = w.heap.size + 1 := by rw [e1]; simp
  have r0 : w1.heap[w.heap.size]? = some (.cells #[.int .i64 0, .int .i64 0, .bool false, .string ⟨#[]⟩, .string ⟨#[]⟩, .int .i64 0, .slice none 0 0, .slice none 0 0, .slice none 0 0, .slice none 0 0, .slice none 0 0, .int .i64 0, .int .i64 0, .int .i64 0, .string ⟨#[]⟩, .string ⟨#[]⟩, .int .i64 0, .int .i64 0, .int .i64 0, .int .i64 0, .int .i64 0, .string ⟨#[]⟩, .string ⟨#[]⟩, .int .i64 0, .int .i64 0, .slice none 0 0, .int .i64 0, .int .i64 0, .int .i64 0] 31) := by rw [e1]; exact heap_alloc_new w _
  have C := hide (ctaken_state (q.below b1) hn)
  have B1 := hide b1
  have S1 := hide s1
  have R0 := hide r0
  have E1 := hide e1.symm
  obtain ⟨E, eE⟩ : ∃ E, E = sErr bs := ⟨_, rfl⟩
  obtain ⟨X, eX⟩ : ∃ X, X = sVal bs := ⟨_, rfl⟩
  rw [← eE, ← eX] at C ⊢
  clear q b1 s1 r0 e1 eE eX
  go_enter Tryz.func7, Tryz.ntmps7
  go_upto_region 1 with fail
  rw [E1.out]
  clear E1
  go_wp2_with fail
  refine C.out.mono ?_
  rintro e w2 ⟨cs, rfl, hv, hb⟩
  have r2 : w2.heap[w.heap.size]? = some (.cells #[.int .i64 0, .int .i64 0, .bool false, .string ⟨#[]⟩, .string ⟨#[]⟩, .int .i64 0, .slice none 0 0, .slice none 0 0, .slice none 0 0, .slice none 0 0, .slice none 0 0, .int .i64 0, .int .i64 0, .int .i64 0, .string ⟨#[]⟩, .string ⟨#[]⟩, .int .i64 0, .int .i64 0, .int .i64 0, .int .i64 0, .int .i64 0, .string ⟨#[]⟩, .string ⟨#[]⟩, .int .i64 0, .int .i64 0, .slice none 0 0, .int .i64 0, .int .i64 0, .int .i64 0] 31) := (hb.block _ (by rw [S1.out]; omega)).trans R0.out
  have L1 := hide (lay_row_sta r2 (below_step B1.out hb) (hv.same fun b hl => ⟨⟨by have := hl.1; rw [S1.out] at this; omega, hl.2⟩, rfl⟩))
  have ONE := hide hv.one
  have INF : Hid ((Tryz.prog.info? 31).map (·.size) = some cs.size) := by show _ = _; rw [hv.size]; exact info_state
  have SZC : Hid ((#[.int .i64 0, .int .i64 0, .bool false, .string ⟨#[]⟩, .string ⟨#[]⟩, .int .i64 0, .slice none 0 0, .slice none 0 0, .slice none 0 0, .slice none 0 0, .slice none 0 0, .int .i64 0, .int .i64 0, .int .i64 0, .string ⟨#[]⟩, .string ⟨#[]⟩, .int .i64 0, .int .i64 0, .int .i64 0, .int .i64 0, .int .i64 0, .string ⟨#[]⟩, .string ⟨#[]⟩, .int .i64 0, .int .i64 0, .slice none 0 0, .int .i64 0, .int .i64 0, .int .i64 0] : Array Value).size = cs.size) := hv.size.symm
  have RR := hide r2
  clear hv hb r2 C R0 S1 B1
  go_wp2_with (refine wpList_store_row rfl 31 (.tmp 2) (.tmp 6) rfl w.heap.size cs rfl rfl 31 #[.int .i64 0, .int .i64 0, .bool false, .string ⟨#[]⟩, .string ⟨#[]⟩, .int .i64 0, .slice none 0 0, .slice none 0 0, .slice none 0 0, .slice none 0 0, .slice none 0 0, .int .i64 0, .int .i64 0, .int .i64 0, .string ⟨#[]⟩, .string ⟨#[]⟩, .int .i64 0, .int .i64 0, .int .i64 0, .int .i64 0, .int .i64 0, .string ⟨#[]⟩, .string ⟨#[]⟩, .int .i64 0, .int .i64 0, .slice none 0 0, .int .i64 0, .int .i64 0, .int .i64 0] RR.out INF.out SZC.out ONE.out ?_)
  refine bodyPost_ret (v := .tuple #[.agg cs, .int .i64 E]) ?r ?d ?_
  case r => exact results_cell_tmp rfl _ _ w.heap.size 31 cs (0, 0) _ (.int .i64 E) rfl rfl L1.out.1 Tryz.underlying31 rfl INF.out
  case d => rfl
  exact ⟨_, rfl, L1.out.2.1, L1.out.2.2⟩
end Go.Proofs.YthklpkmdmkgjiaaGreat
