/- The queue's Push. No condition. -/
import Derived.Test.YtoganfdpaagomaaClockMem
import Derived.Test.YtoganfdpaagomaaClockOrd
import Derived.Test.YtoganfdpaagomaaHeld
import Derived.Test.YtoganfdpaagomaaAppendWide
import Derived.Test.YtoganfdpaagomaaBuildOne
import Derived.Deep.RegionLaw
import Derived.Deep.AppendLies
import Derived.Deep.DeepCutAuto
namespace Go.Proofs.Ytoganfdpaagomaa
open Go.ChangeShapes Go.WideShapes Go.ChangeAt Go.RowKit Cm
set_option linter.unusedVariables false

def ztm : Array Value := #[.string ⟨#[]⟩, .int .i64 0, .int .i64 0]
theorem tminfo : (Try.prog.info? 54).map (fun i => (i.zero, i.size, i.bytes)) = some (some (.agg ztm), 3, 32) := by kernel_rfl
theorem cells3 {w : World} {x y z : Value} {t : TypeId} : ∀ j u, [x, y, z][j]? = some u → (w.alloc (.cells #[x, y, z] t)).cell? (Addr.add ⟨w.heap.size, 0, none⟩ j) = some u := fun j u hu => by
  rw [Addr.add_lit, Nat.zero_add, cell_of_row _ _ j _ _ _ (heap_alloc_new w _)]
  simpa using hu
theorem assert_tm (t : Tm) (w : World) : (Instr.typeAssert (.iface 54 (tagg t)) 20 54 false).run Try.prog w = .ok (tagg t) w := by kernel_rfl
section
variable {w w3 : World} {L : Ql} {l : List Tm} {ns : List ByteArray}
def Ql.push (L : Ql) (b cap : Nat) : Ql := { L with av := some ⟨b, 0, none⟩, m := L.m + 1, cv := cap }
theorem Qu.pushed (h : Qu w L l ns) (hc : Chg (fun k => (Value.slice L.av L.m L.cv).ownBlock = some k) w w3) {b cap : Nat} {t : Tm}
    (hown : w3.ownsRow 0 54 3 (.slice (some ⟨b, 0, none⟩) (L.m + 1) cap) (L.m + 1) (tcells l ++ t.cells)) (hg : (Value.slice L.av L.m L.cv).ownBlock = some b ∨ w.heap.size ≤ b) (hm : l.length ≤ 64) :
    QMv w L (l ++ [t]) ns (w3.setCell ⟨L.Q, 0, none⟩ (.slice (some ⟨b, 0, none⟩) (L.m + 1) cap)) := by
  obtain ⟨w4, e4⟩ : ∃ w4, w4 = w3.setCell ⟨L.Q, 0, none⟩ (.slice (some ⟨b, 0, none⟩) (L.m + 1) cap) := ⟨_, rfl⟩
  have o4 : ∀ k, k ≠ L.Q → w4.heap[k]? = w3.heap[k]? := fun k hk => by rw [e4]; exact Below.heap_setCell _ _ _ _ hk
  have nv : ∀ k, k < w.heap.size → (Value.slice L.av L.m L.cv).ownBlock ≠ some k → w3.heap[k]? = w.heap[k]? := fun k hk hn => hc.block k hk hn
  have eQ := nv L.Q h.ltQ h.v1
  have c3 : ∀ o, w3.cell? ⟨L.Q, o, none⟩ = w.cell? ⟨L.Q, o, none⟩ := fun o => World.cell?_of_block (a := ⟨L.Q, o, none⟩) eQ
  have gQ : b ≠ L.Q := by
    rcases hg with hg | hg
    · exact fun e => h.v1 (e ▸ hg)
    · have := h.ltQ; omega
  obtain ⟨F, hmp, hix⟩ := h.mp
  rw [← e4]
  refine ⟨?_, L.push b cap, ⟨?_, ?_, fun o => ?_, ?_, ?_, ⟨F, ?_, hix⟩, ?_, h.sz, ?_⟩, rfl, fun k hk => ?_⟩
  · rw [e4]
    exact (hc.mono (fun k _ hk => .inr (.inr hk))).setCell (p := ⟨L.Q, 0, none⟩) (.inl (.inl rfl)) _
  · show w4.cell? ⟨L.Q, 0, none⟩ = _
    rw [e4]; exact World.cell?_setCell_same' _ _ _ (by rw [c3, h.c0]; rfl)
  · show w4.cell? ⟨L.Q, 1, none⟩ = _
    rw [e4, World.cell?_setCell_other _ _ _ _ (by simp), c3]; exact h.c1
  · show w4.frozen? ⟨L.Q, o, none⟩ = _
    rw [e4, setCell_frozen]
    exact (World.frozen?_of_block (a := ⟨L.Q, o, none⟩) eQ).trans (h.f o)
  · show w4.ownsRow 0 54 3 (.slice (some ⟨b, 0, none⟩) (L.m + 1) cap) (L.m + 1) (tcells (l ++ [t]))
    rw [tcells_append, show tcells [t] = t.cells by simp [tcells]]
    exact row_same hown (fun k hk => o4 k (by simp [Value.ownBlock] at hk; rw [← hk]; exact gQ))
  · show L.m + 1 = (l ++ [t]).length
    simp [h.len]
  · exact hmp.same ((o4 L.mb h.mQ).trans (nv _ h.ltM h.vM))
  · show (Value.slice (some ⟨b, 0, none⟩) (L.m + 1) cap).ownBlock ≠ some L.Q
    simp [Value.ownBlock]
    exact gQ
  · exact ⟨by simp; omega, h.most.2⟩
  · rcases hk with h1 | h1 | h1
    · exact .inl (.inl h1)
    · exact .inl (.inr (.inl h1))
    · have h2 : b = k := by simpa [Ql.v, Ql.push, Value.ownBlock] using h1
      subst h2
      rcases hg with hg | hg
      · exact .inl (.inr (.inr hg))
      · exact .inr hg
set_option maxRecDepth 100000 in
set_option maxHeartbeats 1000000 in
theorem qpush_any (h : Qu w L l ns) (hm : l.length ≤ 64) (t : Tm) :
    Calls Try.prog 84 #[.pointer (some ⟨L.Q, 0, none⟩), .iface 54 (tagg t)] w fun e w' => e = .returned (.tuple #[]) ∧ QMv w L (l ++ [t]) ns w' := by
  obtain ⟨i0, hi, hz0, hz1, hz2⟩ := info_parts tminfo
  have c0 := h.c0
  have hl := h.len
  have hlm : L.m ≤ 64 := by omega
  have NA := hide (h.drew.below (below_alloc (Below.refl _ _) (.cells #[.string t.name, .int .i64 t.due, .int .i64 t.turn] 54)))
  have c0a : (w.alloc (.cells #[.string t.name, .int .i64 t.due, .int .i64 t.turn] 54)).cell? ⟨L.Q, 0, none⟩ = some (.slice L.av L.m L.cv) := NA.out.c0
  have ta := assert_tm t
  have H := hide h
  have HM := hide hm
  clear h hl hm
  go_enter Try.func84, Try.ntmps84
  go_wp2_with fail
  go_region_law (refine step_append_where _ (by rfl) (.tmp 8) (.tmp 11) 51 (by rfl) 0 54 i0 (.agg ztm) 3 32 Try.underlying51 hi hz0 hz1 hz2 (by rfl) (by omega) L.av L.m L.cv (by rfl) (tcells l) NA.out.row ⟨w.heap.size, 0, none⟩ 1 1 (by rfl) t.cells (by rfl) cells3 (by intro u hu; simp [Tm.cells] at hu; rcases hu with rfl | rfl | rfl <;> rfl) (by omega) (by unfold maxLen; omega) (by omega) (by omega) ?_; intro b cap w5 hown hgrow hat; have LTN : L.Q < w.heap.size := H.out.ltQ; have NV : some L.Q ≠ (Value.slice L.av L.m L.cv).ownBlock := (fun e => H.out.v1 e.symm); have d5 : w5.cell? ⟨L.Q, 0, none⟩ = some (.slice L.av L.m L.cv) := hgrow.cell c0a NV; have g5 : w5.frozen? ⟨L.Q, 0, none⟩ = false := (hgrow.frozen_far ⟨L.Q, 0, none⟩ (by simp; exact Nat.lt_succ_of_lt LTN) NV).trans ((World.frozen?_alloc_past _ _ _ LTN).trans (H.out.f 0)); have HO := hide hown; have HG := hide hgrow; have HA := hide hat; clear hown hgrow hat LTN NV)
  all_goals (refine bodyPost_end (results_none rfl _ _ _) rfl ?_; refine ⟨rfl, H.out.pushed ((Chg.of_below (below_alloc (Below.refl _ _).drew _) _).grown HG.out (fun k hk => .inl hk)) HO.out ?_ HM.out⟩; rcases HA.out with h | h; exact .inl h; exact .inr (by rw [h]; simp))
end
end Go.Proofs.Ytoganfdpaagomaa
