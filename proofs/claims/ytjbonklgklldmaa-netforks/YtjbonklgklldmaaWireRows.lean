/- Lists of structs: copy and make, as steps of a walk. No condition. -/
import Derived.Test.YtjbonklgklldmaaBase
import Derived.Laws.CopyRow
import Derived.Laws.CopyOwn
import Derived.Laws.MakeOwn
namespace Go.Proofs.Ytjbonklgklldmaa
open Go.ChangeShapes Go.WideShapes Go.ChangeAt Go.RowKit
set_option linter.unusedVariables false

/-- copy of elements that are rows of d cells -/
theorem run_copy_rows {P : Program} (w : World) (dT sT ty elem : TypeId) (d : Nat) (g o dLen dCap : Nat) (a : Addr) (sLen sCap : Nat) (cur : Array Value) (t : TypeId) (cs : List Value)
    (hu : P.underlying dT = some (.slice elem)) (hs : (P.info? elem).map (·.size) = some d)
    (hg : w.heap[g]? = some (.cells cur t (0, 0))) (hn : cs.length = Nat.min sLen dLen * d)
    (hsrc : ∀ j v, cs[j]? = some v → w.cell? (a.add j) = some v) (hfit : o + cs.length ≤ cur.size) (h1 : ∀ v ∈ cs, v.oneCell' = true) :
    (Builtin.copy_ #[dT, sT] ty #[.slice (some ⟨g, o, none⟩) dLen dCap, .slice (some a) sLen sCap]).run P w =
      .ok (goInt (Nat.min sLen dLen)) (w.setRow g (cur.toList.take o ++ cs ++ cur.toList.drop (o + cs.length)).toArray) := by
  have hl := run_loadCells_list (P := P) w a cs hsrc
  have hst := run_storeCells_at P g o t cs 0 cur w hg (by simpa using hfit) h1
  cases hq : P.info? elem with
  | none => simp [hq] at hs
  | some i =>
    have hi : i.size = d := by simpa [hq] using hs
    simp [Builtin.copy_, run_underlying hu, Builtin.lenOf, Builtin.firstCells, sizeOf, typeInfo, hq, hi, ← hn, hl, hst]
theorem run_copy_rows_none {P : Program} (w : World) (dT sT ty elem : TypeId) (d : Nat) (p s : Option Addr) (dLen dCap sLen sCap : Nat)
    (hu : P.underlying dT = some (.slice elem)) (hs : (P.info? elem).map (·.size) = some d) (hn : Nat.min sLen dLen = 0) :
    (Builtin.copy_ #[dT, sT] ty #[.slice p dLen dCap, .slice s sLen sCap]).run P w = .ok (goInt 0) w := by
  cases hq : P.info? elem with
  | none => simp [hq] at hs
  | some i =>
    have hl : ∀ (x : Addr), (loadCells x 0).run P w = .ok #[] w := fun x => by simpa using run_loadCells_list (P := P) w x [] (by simp)
    cases p <;> cases s <;> simp [Builtin.copy_, run_underlying hu, Builtin.lenOf, Builtin.firstCells, sizeOf, typeInfo, hq, hn, storeCells, hl]
/-- copy over a row of the call's own: the first elements are what stood there -/
theorem wpList_copy_rows {P : Program} {w : World} {ops : Array Oper} {rest : List Oper} {o : Oper} {a : Act} {Q : Exit → Act → World → Prop} (hgd : o.guard = none) (x s : Operand) (dT sT : TypeId)
    (ho : o.op = .call { callee := .builtin .copy, args := #[x, s], argTypes := #[dT, sT] }) (elem : TypeId) (d : Nat) (hu : P.underlying dT = some (.slice elem)) (hsz : (P.info? elem).map (·.size) = some d)
    (g dLen dCap : Nat) (sp : Option Addr) (sLen sCap : Nat) (hd : a.eval x = .slice (some ⟨g, 0, none⟩) dLen dCap) (hs : a.eval s = .slice sp sLen sCap)
    (cur : List Value) (t : TypeId) (hg : w.heap[g]? = some (.cells cur.toArray t (0, 0))) (cs : List Value) (hn : cs.length = Nat.min sLen dLen * d)
    (hpos : 0 < cs.length → ∃ ad, sp = some ad ∧ ∀ j v, cs[j]? = some v → w.cell? (ad.add j) = some v) (hd0 : 0 < d)
    (hfit : cs.length ≤ cur.length) (h1 : ∀ v ∈ cs, v.oneCell' = true) (B : Nat) (w0 : World) (hb : Below B w0 w) (hBg : B ≤ g)
    (h : ∀ w', Hid (w'.heap[g]? = some (.cells (cs ++ cur.drop cs.length).toArray t (0, 0))) → Below B w0 w' → wpList P ops Q rest (a.put o.dst (goInt (Nat.min sLen dLen))) w') :
    wpList P ops Q (o :: rest) a w := by
  by_cases h0 : Nat.min sLen dLen = 0
  · obtain rfl : cs = [] := List.eq_nil_of_length_eq_zero (by rw [hn, h0, Nat.zero_mul])
    refine wpList_plain hgd fun K hK => ?_
    have hrun := run_copy_rows_none (P := P) w dT sT o.type elem d (some ⟨g, 0, none⟩) sp dLen dCap sLen sCap hu hsz h0
    unfold Oper.wp
    simp [execOp, ho, resolve, invoke, builtin, hd, hs, hrun, Result.andThen]
    rw [h0] at h
    exact hK _ _ (h w (show _ = _ by simpa using hg) hb)
  · have hp : 0 < cs.length := by rw [hn]; exact Nat.mul_pos (Nat.pos_of_ne_zero h0) hd0
    obtain ⟨ad, rfl, hsrc⟩ := hpos hp
    refine wpList_plain hgd fun K hK => ?_
    have hrun := run_copy_rows (P := P) w dT sT o.type elem d g 0 dLen dCap ad sLen sCap cur.toArray t cs hu hsz hg hn hsrc (by simpa using hfit) h1
    unfold Oper.wp
    simp [execOp, ho, resolve, invoke, builtin, hd, hs, hrun, Result.andThen]
    refine hK _ _ (h _ (show _ = _ from ?_) (below_setRow hb hBg _))
    simpa using setRow_heap w g cur.toArray (cs ++ cur.drop cs.length).toArray t _ hg
/-- the same, as a fact -/
theorem copy_rows_ex {P : Program} (w : World) (dT sT : TypeId) (elem : TypeId) (d : Nat) (hu : P.underlying dT = some (.slice elem)) (hsz : (P.info? elem).map (·.size) = some d)
    (g dLen dCap : Nat) (sp : Option Addr) (sLen sCap : Nat) (cur : List Value) (t : TypeId) (hg : w.heap[g]? = some (.cells cur.toArray t (0, 0))) (cs : List Value) (hn : cs.length = Nat.min sLen dLen * d)
    (hpos : 0 < cs.length → ∃ ad, sp = some ad ∧ ∀ j v, cs[j]? = some v → w.cell? (ad.add j) = some v) (hd0 : 0 < d)
    (hfit : cs.length ≤ cur.length) (h1 : ∀ v ∈ cs, v.oneCell' = true) (B : Nat) (w0 : World) (hb : Below B w0 w) (hBg : B ≤ g) :
    ∃ w', (∀ ty, (Builtin.copy_ #[dT, sT] ty #[.slice (some ⟨g, 0, none⟩) dLen dCap, .slice sp sLen sCap]).run P w = .ok (goInt (Nat.min sLen dLen)) w') ∧ w'.heap[g]? = some (.cells (cs ++ cur.drop cs.length).toArray t (0, 0)) ∧ Below B w0 w' := by
  by_cases h0 : Nat.min sLen dLen = 0
  · obtain rfl : cs = [] := List.eq_nil_of_length_eq_zero (by rw [hn, h0, Nat.zero_mul])
    refine ⟨w, fun ty => ?_, by simpa using hg, hb⟩
    rw [run_copy_rows_none (P := P) w dT sT ty elem d (some ⟨g, 0, none⟩) sp dLen dCap sLen sCap hu hsz h0, h0]
    rfl
  · have hp : 0 < cs.length := by rw [hn]; exact Nat.mul_pos (Nat.pos_of_ne_zero h0) hd0
    obtain ⟨ad, rfl, hsrc⟩ := hpos hp
    have e : (cur.toArray.toList.take 0 ++ cs ++ cur.toArray.toList.drop (0 + cs.length)).toArray = (cs ++ cur.drop cs.length).toArray := by simp
    refine ⟨w.setRow g (cs ++ cur.drop cs.length).toArray, fun ty => ?_, setRow_heap w g cur.toArray (cs ++ cur.drop cs.length).toArray t _ hg, below_setRow hb hBg _⟩
    rw [run_copy_rows (P := P) w dT sT ty elem d g 0 dLen dCap ad sLen sCap cur.toArray t cs hu hsz hg hn hsrc (by simpa using hfit) h1, e]
/-- make of a list of structs, as a step -/
theorem step_make {P : Program} {ops : Array Oper} {o : Oper} {act : Act} {K : Act → World → Prop} {Q : Exit → Act → World → Prop} {E : Prop} (w : World) (hg : o.guard = none) (x y : Operand) (t e : TypeId)
    (hop : o.op = Op.makeSlice t x y) (i : TypeInfo) (z : Value) (ht : P.underlying t = some (.slice e)) (hi : P.info? e = some i) (hz : i.zero = some z)
    (k : Nat) (hx : act.eval x = .int .i64 k) (hy : act.eval y = .int .i64 k) (hbytes : i.bytes * k ≤ 281474976710656) (h63 : k ≤ 140737488355328)
    (hK : K (act.put o.dst (.slice (some ⟨w.heap.size, 0, none⟩) k k)) (w.alloc (.cells (madeCells z.cells (k * i.size)) e))) :
    if Region.wanted o (yielded ops act.tmps) = true then Oper.wp P o act w K Q else E := by
  have hw : Region.wanted o (yielded ops act.tmps) = true := by simp [Region.wanted, hg]
  rw [if_pos hw]
  have hr := run_make (P := P) w t e i z ht hi hz .i64 .i64 (k : Int) (k : Int) (by omega) (by omega) (by have h2 : i.bytes * k ≤ 281474976710656 := hbytes; generalize i.bytes = q at h2 ⊢; have h3 : ((q * k : Nat) : Int) = (q : Int) * (k : Int) := Int.natCast_mul q k; omega) (by omega)
  unfold Oper.wp execOp
  simp only [hop, Sem.run_bind, Sem.run_pure, Result.andThen_ok, hx, hy, hr, Int.toNat_natCast]
  exact hK
end Go.Proofs.Ytjbonklgklldmaa
