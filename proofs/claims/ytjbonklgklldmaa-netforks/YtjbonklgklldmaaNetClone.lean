/- maps.Clone at the map of pairs. No condition. -/
import Derived.Test.YtjbonklgklldmaaNetCut
import Derived.Test.YtjbonklgklldmaaNetAll
import Derived.Laws.Externs
import Derived.MapKept
namespace Go.Proofs.Ytjbonklgklldmaa
open Go.ChangeShapes Go.WideShapes Go.ChangeAt Go.RowKit B8 Nm
set_option linter.unusedVariables false

theorem equalIn_map_nil (w : World) (d mb : Nat) : (Op.equalIn (d + 1) 52 (.map (some mb)) (.map none)).run Try.prog w = .ok false w := by
  simp [Op.equalIn, run_underlying Try.underlying52]
theorem eql_map_nil (w : World) (mb : Nat) : (binOp .eql 52 (.map (some mb)) (.map none)).run Try.prog w = .ok (.bool false) w := by
  simp only [binOp]
  simp [Op.equal, Op.maxDepth, equalIn_map_nil w 9999 mb]
theorem assert_map (w : World) (v : Value) (xT : TypeId) : (Instr.typeAssert (.iface 52 v) xT 52 false).run Try.prog w = .ok v w := by
  simp [Instr.typeAssert, run_underlying Try.underlying52, go_sem, Result.andThen]
theorem clone_entry (w : World) {r : Nat} {es : Array MapEntry} {clock : Nat} (t : TypeId) (hb : w.heap[r]? = some (.map es clock)) :
    (Extern.MapsClone.clone #[.iface t (.map (some r))]).run Try.prog w = .ok (.iface t (.map (some w.heap.size))) (w.alloc (.map es clock)) := by
  refine Eq.trans (congrArg (fun x => Sem.run Try.prog x w) (show Extern.MapsClone.clone #[.iface t (.map (some r))] = (getObj r >>= _) from rfl)) ?_
  simp [MapKept.run_getObj_map hb, Result.andThen, go_sem]
set_option maxRecDepth 100000 in
theorem clone_map {w : World} {mb kk : Nat} {cuts : List (Int × Int)} (h : Cuts w mb kk cuts) :
    Calls Try.prog 19 #[.map (some mb)] w fun e w' => e = .returned (.map (some w.heap.size)) ∧ Cuts w' w.heap.size kk cuts ∧ Below w.heap.size w w' ∧ w.heap.size < w'.heap.size := by
  obtain ⟨D, ⟨es, clock, hb, F, hs, hD0⟩, hD⟩ := h
  have HH : Hid (Cuts (w.alloc (.map es clock)) w.heap.size kk cuts) := ⟨D, ⟨es, clock, heap_alloc_new w _, F, hs, hD0⟩, hD⟩
  clear hD hD0 F hs
  have hq := eql_map_nil w mb
  go_enter Try.func19, Try.ntmps19
  go_wp2_with fail
  rw [run_callFunc_extern Try.func30 (by kernel_rfl) (by kernel_rfl) (by kernel_rfl) (e := Extern.MapsClone.clone) (by kernel_rfl), clone_entry w 52 hb]
  simp only [Result.andThen]
  rw [Oper.upon_value]
  go_wp2_with fail
  rw [assert_map]
  simp only [Result.andThen]
  rw [Oper.upon_value]
  go_wp2_with fail
  go_ret
  exact ⟨rfl, HH.out, below_alloc (Below.refl _ _) _, by simp⟩
end Go.Proofs.Ytjbonklgklldmaa
