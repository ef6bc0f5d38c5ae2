/- Calls on both logs, one after the other. No condition. -/
import Derived.Test.YtpaciknmmceehaaSlotsKindMem
import Derived.RangeFuncRecord
namespace Go.Proofs.Ytpaciknmmceehaa
open Go.ChangeShapes Go.WideShapes Go.ChangeAt Go.RowKit Sx
set_option linter.unusedVariables false
namespace Kd
section
variable {w w' wr : World} {P R b : Nat} {s s4 : Ss (ByteArray × Int)} {t t4 : Ss (Option Addr × Nat × Nat)} {cs : Array Value}
/-- both are driven alike; the call lies at b -/
def Done (w wr : World) (P R : Nat) (s : Ss (ByteArray × Int)) (t : Ss (Option Addr × Nat × Nat)) (b : Nat) (cs : Array Value) : Prop := Two w wr P R s t ∧ S2 (Rb wr) s t ∧ wr.heap[b]? = some (.cells cs 32 (0, 0))
/-- the log of pairs is ahead -/
def Half (w wr : World) (P R : Nat) (s s4 : Ss (ByteArray × Int)) (t : Ss (Option Addr × Nat × Nat)) (b : Nat) (cs : Array Value) : Prop := Two w wr P R s4 t ∧ S2 (Rb wr) s t ∧ wr.heap[b]? = some (.cells cs 32 (0, 0))
theorem s2_lift {w4 : World} (h : S2 (Rb wr) s t) (hy : ∀ {y : Option Addr × Nat × Nat} {v : ByteArray}, By wr y v → By w4 y v) : S2 (Rb w4) s t := ⟨h.first, h.most, h.ps.mono (fun x y _ hx => hy hx)⟩
theorem Done.below (h : Done w wr P R s t b cs) (hb : Below wr.heap.size wr w') : Done w w' P R s t b cs :=
  ⟨h.1.below hb, s2_lift h.2.1 (fun hy => by_below hy hb), (hb.block b (Array.getElem?_eq_some_iff.1 h.2.2).1).trans h.2.2⟩
theorem Half.below (h : Half w wr P R s s4 t b cs) (hb : Below wr.heap.size wr w') : Half w w' P R s s4 t b cs :=
  ⟨h.1.below hb, s2_lift h.2.1 (fun hy => by_below hy hb), (hb.block b (Array.getElem?_eq_some_iff.1 h.2.2).1).trans h.2.2⟩
theorem Done.cell (h : Done w wr P R s t b cs) {j : Nat} {u : Value} (hj : cs[j]? = some u) : wr.cell? ⟨b, j, none⟩ = some u := by rw [cell_of_row _ _ j _ _ _ h.2.2]; exact hj
theorem Half.cell (h : Half w wr P R s s4 t b cs) {j : Nat} {u : Value} (hj : cs[j]? = some u) : wr.cell? ⟨b, j, none⟩ = some u := by rw [cell_of_row _ _ j _ _ _ h.2.2]; exact hj
theorem cutA (h : Done w wr P R s t b cs) (i : Int) : Calls Try.prog 7 #[.pointer (some ⟨P, 0, none⟩), .int .i64 i] wr fun e w' => e = .returned (.int .i64 (cutN s i)) ∧ Half w w' P R s (cutS s i) t b cs := by
  obtain ⟨L, hl, hm⟩ := h.1.callA
  exact (Lp.cut_any hl i).mono fun e w' ⟨h1, h2⟩ => ⟨h1, (hm h2).1, s2_lift h.2.1 (hm h2).2.1, (hm h2).2.2 h.2.2⟩
theorem cutB (i : Int) (h : Half w wr P R s (cutS s i) t b cs) : Calls Try.prog 8 #[.pointer (some ⟨R, 0, none⟩), .int .i64 i] wr fun e w' => e = .returned (.int .i64 (cutN s i)) ∧ Done w w' P R (cutS s i) (cutS t i) b cs := by
  obtain ⟨K, hl, hm⟩ := h.1.callB
  rw [h.2.1.cutN i]
  exact (Lb.cut_any hl i).mono fun e w' ⟨h1, h2⟩ => ⟨h1, (hm h2).1, (s2_lift h.2.1 (hm h2).2.1).cut i, (hm h2).2.2 h.2.2⟩
theorem putA (h : Done w wr P R s t b cs) (i : Int) (hi : i ≤ 9223372036854775807) (x : ByteArray × Int) : Calls Try.prog 9 #[.pointer (some ⟨P, 0, none⟩), .int .i64 i, .agg #[.string x.1, .int .i64 x.2]] wr fun e w' => e = .returned (.int .i64 (putE s i)) ∧ Half w w' P R s (putS s i x) t b cs ∧ ∀ (y : Option Addr × Nat × Nat) (v : ByteArray), By wr y v → By w' y v := by
  obtain ⟨L, hl, hm⟩ := h.1.callA
  exact (Lp.put_any hl i hi x).mono fun e w' ⟨h1, h2⟩ => ⟨h1, ⟨(hm h2).1, s2_lift h.2.1 (hm h2).2.1, (hm h2).2.2 h.2.2⟩, fun y v => (hm h2).2.1⟩
theorem putB {i : Int} (hi : i ≤ 9223372036854775807) {x : ByteArray × Int} (h : Half w wr P R s (putS s i x) t b cs) {y : Option Addr × Nat × Nat} (hy : By wr y x.1) : Calls Try.prog 10 #[.pointer (some ⟨R, 0, none⟩), .int .i64 i, .slice y.1 y.2.1 y.2.2] wr fun e w' => e = .returned (.int .i64 (putE s i)) ∧ Done w w' P R (putS s i x) (putS t i y) b cs := by
  obtain ⟨K, hl, hm⟩ := h.1.callB
  rw [h.2.1.putE i]
  exact (Lb.put_any hl i hi y).mono fun e w' ⟨h1, h2⟩ => ⟨h1, (hm h2).1, (s2_lift h.2.1 (hm h2).2.1).put i (show Rb w' x y from (hm h2).2.1 hy), (hm h2).2.2 h.2.2⟩
theorem getA (h : Two w wr P R s t) (i : Int) : Calls Try.prog 11 #[.pointer (some ⟨P, 0, none⟩), .int .i64 i] wr fun e w' => e = .returned (.tuple #[Lp.ansV (getV s i), .bool (getV s i).isSome]) ∧ Below wr.heap.size wr w' := by
  obtain ⟨_, ⟨L, hl, _⟩, _⟩ := h
  exact Lp.get_any hl i
theorem getB (h : Two w wr P R s t) (i : Int) : Calls Try.prog 12 #[.pointer (some ⟨R, 0, none⟩), .int .i64 i] wr fun e w' => e = .returned (.tuple #[Lb.ansV (getV t i), .bool (getV t i).isSome]) ∧ Below wr.heap.size wr w' := by
  obtain ⟨_, _, K, hl, _⟩ := h
  exact (Lb.get_any hl i).mono (by rintro e w' ⟨rfl, q, rfl⟩; exact ⟨rfl, rfl, rfl, rfl, Nat.le_refl _, fun _ _ => rfl⟩)
theorem by_new (w : World) (v : ByteArray) (cap : Nat) (fr : Nat × Nat) : By (w.alloc (.cells (bytesRow v cap) 5 fr)) (some ⟨w.heap.size, 0, none⟩, v.size, cap) v := by
  refine ⟨w.heap.size, cap, _, fr, rfl, World.alloc_heap_new w _, fun j hj => ?_⟩
  have hj' : j < v.data.size := by simpa using hj
  unfold bytesRow
  rw [Array.getElem?_append_left (by simpa using hj'), Array.getElem?_map, Array.getElem?_eq_getElem hj']
  simp
end
end Kd
end Go.Proofs.Ytpaciknmmceehaa
