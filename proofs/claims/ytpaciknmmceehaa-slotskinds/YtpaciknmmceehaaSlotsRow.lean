/- A row of pointers: what append(s, make([]*T, n)...) leaves. No condition but sizes. -/
import Derived.Test.YtpaciknmmceehaaChgMem
import Derived.Test.YtpaciknmmceehaaHeld
import Derived.Laws.IdiomCopy
namespace Go.Proofs.Ytpaciknmmceehaa
open Go.ChangeShapes Go.WideShapes Go.ChangeAt Go.RowKit
set_option linter.unusedVariables false

theorem zeroCells_one (z : Value) (n : Nat) : Builtin.zeroCells #[z] n = Array.replicate n z := by
  apply Array.ext
  · simp [Builtin.zeroCells]
  · intro i h1 h2
    simp [Builtin.zeroCells, Nat.mod_one]
theorem cells_pointer (p : Option Addr) : (Value.pointer p).cells = #[.pointer p] := rfl
theorem run_append_zeros {P : Program} (w : World) (base : Nat) (t tx ty e : TypeId) (i : TypeInfo) (ht : P.underlying t = some (.slice e)) (hx : P.underlying tx = some (.int .i64)) (hi : P.info? e = some i) (hz : i.zero = some (.pointer none)) (hs : i.size = 1) (hby : i.bytes = 8)
    (a0 : Option Addr) (n c0 : Nat) (xs : List Value) (hown : w.ownsRow base e 1 (.slice a0 n c0) n xs) (k : Nat) (hk : 0 < k) (hm : n + k ≤ 1024) (hbase : base ≤ w.heap.size) :
    ∃ g cp w', (Builtin.append_ #[t, tx] ty #[.slice a0 n c0, .int .i64 k]).run P w = .ok (.slice (some ⟨g, 0, none⟩) (n + k) cp) w' ∧ w'.ownsRow base e 1 (.slice (some ⟨g, 0, none⟩) (n + k) cp) (n + k) (xs ++ List.replicate k (.pointer none)) ∧ w.grownBy w' (Value.slice a0 n c0).ownBlock ∧ ((Value.slice a0 n c0).ownBlock = some g ∨ g = w.heap.size) := by
  have hw : IntKind.i64.wrap (k : Int) = (k : Int) := by rw [IntKind.wrap_i64]; omega
  have h0 : ¬ ((k : Int) < 0) := by omega
  have h8 : ¬ (281474976710656 < (k : Int) * 8) := by omega
  have hai : (asInt (.int .i64 (k : Int))).run P w = .ok (k : Int) w := rfl
  have hk0 : k ≠ 0 := by omega
  have hmx : max (k : Int) 0 = (k : Int) := by omega
  have h63 : ¬ (9223372036854775807 < ((n : Int) + (k : Int))) := by omega
  have hlen : (xs ++ List.replicate k (Value.pointer none)).length = (n + k) * 1 := by simp [hown.1]
  have grown : ∀ (old : Nat), ∀ (row : Option Nat),
      (w.drew.alloc (.cells (xs.toArray ++ Array.replicate k (.pointer none) ++ Array.replicate (grownCap w (n + k) old e - (n + k)) (.pointer none)) e)).ownsRow base e 1 (.slice (some ⟨w.heap.size, 0, none⟩) (n + k) (grownCap w (n + k) old e)) (n + k) (xs ++ List.replicate k (.pointer none)) ∧
      w.grownBy (w.drew.alloc (.cells (xs.toArray ++ Array.replicate k (.pointer none) ++ Array.replicate (grownCap w (n + k) old e - (n + k)) (.pointer none)) e)) row := by
    intro old row
    have hge := grownCap_ge w (n + k) old e
    have hcm : grownCap w (n + k) old e ≤ maxLen := grownCap_le_maxLen w (n + k) old e (by unfold maxLen; omega)
    have hx1 := hown.1
    refine ⟨⟨hlen, .inr ⟨w.heap.size, _, _, rfl, hbase, heap_alloc_new w.drew _, hge, hcm, ?_, ?_⟩⟩, ⟨rfl, rfl, rfl, by simp, fun j hj _ => Below.heap_alloc _ _ _ hj⟩⟩
    · simp only [Array.size_append, List.size_toArray, Array.size_replicate, hx1]; omega
    · simp only [Array.toList_append, Array.toList_replicate]
      rw [← hlen]
      exact List.take_left
  rcases hown.2 with ⟨e1, rfl⟩ | ⟨g, cap, cur, e1, hbg, hg, hnc, hcm, hcs, htake⟩
  · obtain ⟨rfl, -, rfl⟩ : a0 = none ∧ True ∧ c0 = 0 := by simpa using e1
    have hxn : xs = [] := List.eq_nil_of_length_eq_zero (by simpa using hown.1)
    subst hxn
    have hg := grown 0 none
    simp only [Nat.zero_add, List.nil_append] at hg ⊢
    refine ⟨w.heap.size, _, _, ?_, hg.1, ?_, .inr rfl⟩
    · have h48 : ¬ (281474976710656 < Builtin.nextslicecap k 0 * 8) := by rw [nextslicecap_zero hk]; omega
      have h63' : ¬ (9223372036854775807 < (k : Int)) := by omega
      simp [Builtin.append_, run_underlying ht, run_underlying hx, sizeOf, typeInfo, zeroValue, hi, hz, hs, hby, hai, hw, h0, hmx, h8, hk0, h63', h48, Question.forced, run_firstCells_none, newRow, grownCap, cells_pointer, zeroCells_one]
    · exact hg.2
  · obtain ⟨rfl, rfl⟩ : a0 = some ⟨g, 0, none⟩ ∧ c0 = cap := by simpa using e1
    by_cases hroom : n + k ≤ c0
    · have hst := run_storeCells_cells (P := P) g n (List.replicate k (.pointer none)) 0 w (fun j hj => by rw [cell_of_row w g _ _ _ _ hg]; simp at hj; simp; omega) (fun j hj => by simp [World.frozen?, hg]) (fun v hv => by rw [(List.mem_replicate.1 hv).2]; rfl)
      simp only [Nat.add_zero] at hst
      obtain ⟨cur', q1, q2, q3⟩ := setCells_at g e (List.replicate k (.pointer none)) n w cur hg (by simp; omega)
      refine ⟨g, c0, _, ?_, ⟨hlen, .inr ⟨g, c0, cur', rfl, hbg, q1, hroom, hcm, by rw [q2, hcs], ?_⟩⟩, setCells_grown g _ _ _, .inl rfl⟩
      · simp [Builtin.append_, run_underlying ht, run_underlying hx, sizeOf, typeInfo, zeroValue, hi, hz, hs, hby, hai, hw, h0, h8, hk0, hroom, cells_pointer, zeroCells_one, Addr.add_lit, hst]
      · apply List.ext_getElem?
        intro j
        rw [List.getElem?_take, Array.getElem?_toList, q3]
        have hxl := hown.1
        by_cases h1 : j < n
        · rw [if_pos (by omega), if_neg (by omega), List.getElem?_append_left (by omega), ← htake, List.getElem?_take, if_pos (by omega), Array.getElem?_toList]
        · rw [List.getElem?_append_right (by omega), hxl]
          by_cases h2 : j < n + k
          · rw [if_pos (by omega), if_pos (by simp; omega), Nat.mul_one]
          · rw [if_neg (by omega), List.getElem?_eq_none (by simp; omega)]
    · have h48 : ¬ (281474976710656 < Builtin.nextslicecap (n + k) c0 * 8) := by
        have := growslice_fits_wide (need := n + k) (old := c0) (bytes := 8) (by omega) (by omega)
        omega
      have holds : ∀ j u, xs[j]? = some u → w.drew.cell? ((⟨g, 0, none⟩ : Addr).add j) = some u := hown.cells (g := g) rfl
      have hfo := run_firstCells_some (P := P) w.drew 1 n ⟨g, 0, none⟩ n c0 xs hown.1 holds
      have hgr := grown c0 (Value.ownBlock (.slice (some ⟨g, 0, none⟩) n c0))
      refine ⟨w.heap.size, _, _, ?_, hgr.1, hgr.2, .inr rfl⟩
      simp [Builtin.append_, run_underlying ht, run_underlying hx, sizeOf, typeInfo, zeroValue, hi, hz, hs, hby, hai, hw, h0, hmx, h8, hk0, h63, h48, hroom, Question.forced, hfo, newRow, grownCap, cells_pointer, zeroCells_one]
theorem run_equalIn_nil_pointer {P : Program} (w : World) (d : Nat) (t e : TypeId) (p : Option Addr) (h : P.underlying t = some (.pointer e)) : (Op.equalIn (d + 1) t (.pointer none) (.pointer p)).run P w = .ok p.isNone w := by
  cases p <;> simp [Op.equalIn, run_underlying h]
theorem run_equal_nil_pointer {P : Program} (w : World) (t e : TypeId) (p : Option Addr) (h : P.underlying t = some (.pointer e)) : (Op.equal t (.pointer none) (.pointer p)).run P w = .ok p.isNone w := run_equalIn_nil_pointer w 9999 t e p h
theorem run_eql_nil_pointer {P : Program} (w : World) (t e : TypeId) (p : Option Addr) (h : P.underlying t = some (.pointer e)) : (binOp .eql t (.pointer none) (.pointer p)).run P w = .ok (.bool p.isNone) w := by
  simp only [binOp]
  simp [run_equal_nil_pointer w t e p h]
theorem wp_append_run {P : Program} {ops : Array Oper} {rest : List Oper} {o : Oper} {act : Act} {Q : Exit → Act → World → Prop} (w : World) (hg : o.guard = none) (s x : Operand) (t t' : TypeId)
    (hop : o.op = Op.call { callee := Callee.builtin Builtin.append, args := #[s, x], argTypes := #[t, t'] }) (v : Value) (w' : World) (hr : (Builtin.append_ #[t, t'] o.type #[act.eval s, act.eval x]).run P w = .ok v w') (hK : wpList P ops Q rest (act.put o.dst v) w') : wpList P ops Q (o :: rest) act w := by
  refine wpList_plain hg fun K hK' => ?_
  unfold Oper.wp execOp
  simp only [hop, resolve, invoke, builtin, Sem.run_bind, Sem.run_pure, Result.andThen_ok, List.map_toArray, List.map_cons, List.map_nil, hr]
  exact hK' _ _ hK
/-- a pointer to a block, or none -/
def pv (b : Option Nat) : Value := .pointer (b.map fun k => ⟨k, 0, none⟩)
theorem pv_one (b : Option Nat) : (pv b).oneCell' = true := rfl
/-- where a log's places lie -/
structure Lay where
  a : Option Addr
  c : Nat
  bs : List (Option Nat)
def Lay.v (L : Lay) : Value := .slice L.a L.bs.length L.c
/-- the blocks that a log may write -/
def Lay.M (L : Lay) (P k : Nat) : Prop := k = P ∨ L.v.ownBlock = some k
theorem pvs_one (l : List (Option Nat)) : ∀ u ∈ l.map pv, u.oneCell' = true := fun u hu => by
  obtain ⟨b, _, rfl⟩ := List.mem_map.1 hu
  rfl
theorem pvs_none (k : Nat) : List.replicate k (Value.pointer none) = (List.replicate k none).map pv := by rw [List.map_replicate]; rfl
end Go.Proofs.Ytpaciknmmceehaa
