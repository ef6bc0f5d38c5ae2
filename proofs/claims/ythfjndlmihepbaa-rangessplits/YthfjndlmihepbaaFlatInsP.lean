/- slices.Insert of one flat struct into a list of the call's own. No condition but a small length. -/
import Derived.Test.YthfjndlmihepbaaFlatFnP
import Derived.Lib.AppendZerosOnto
import Derived.Lib.Overlaps
import Derived.Laws.CopyRow
import Derived.Laws.CopyOwn
import Derived.Laws.Externs
import Derived.Deep.DeepAppendWide
import Derived.Lib.Walk
import Derived.Laws.IdiomCopy
import Derived.Shelf.RegionOpenPlain
namespace Go.Proofs.Ythfjndlmihepbaa
namespace FnP
open Go.ChangeShapes Go.WideShapes Go.ChangeAt Go.RowKit Go.Lib Rg
set_option linter.unusedVariables false

/-- copy of elements that are rows of d cells, by its run -/
theorem copy_run {P : Program} (w : World) (dT sT ty elem : TypeId) (d : Nat) (g o dLen dCap : Nat) (a : Addr) (sLen sCap : Nat) (cur : Array Value) (t : TypeId) (cs : List Value)
    (hu : P.underlying dT = some (.slice elem)) (hs : (P.info? elem).map (·.size) = some d)
    (hg : w.heap[g]? = some (.cells cur t (0, 0))) (hn : cs.length = Nat.min sLen dLen * d)
    (hsrc : ∀ j v, cs[j]? = some v → w.cell? (a.add j) = some v) (hfit : o + cs.length ≤ cur.size) (h1 : ∀ v ∈ cs, v.oneCell' = true) :
    (Builtin.copy_ #[dT, sT] ty #[.slice (some ⟨g, o, none⟩) dLen dCap, .slice (some a) sLen sCap]).run P w =
      .ok (goInt (Nat.min sLen dLen)) (w.setRow g (cur.toList.take o ++ cs ++ cur.toList.drop (o + cs.length)).toArray) := by
  have hl := run_loadCells_list (P := P) w a cs hsrc
  have hst := run_storeCells_at P g o t cs 0 cur w hg (by simpa using hfit) h1
  cases hq : P.info? elem with
  | none => simp [hq] at hs
  | some i =>
    have hi : i.size = d := by simpa [hq] using hs
    simp [Builtin.copy_, run_underlying hu, Builtin.lenOf, Builtin.firstCells, sizeOf, typeInfo, hq, hi, ← hn, hl, hst]
theorem wp_copy_run (w : World) {o : Oper} {a : Act} {K : Act → World → Prop} {Q : Exit → Act → World → Prop} (d s : Operand) (t t' : TypeId)
    (ho : o.op = .call { callee := .builtin .copy, args := #[d, s], argTypes := #[t, t'] }) (v u : Value) (hd : a.eval d = v) (hs : a.eval s = u) {v' : Value} {w' : World}
    (hr : (Builtin.copy_ #[t, t'] o.type #[v, u]).run Try.prog w = .ok v' w') (h : K (a.put o.dst v') w') : o.wp Try.prog a w K Q := by
  unfold Oper.wp execOp
  simp only [ho, resolve, invoke, builtin, Sem.run_bind, Sem.run_pure, Result.andThen_ok, List.map_toArray, List.map_cons, List.map_nil, hd, hs, hr]
  exact h
theorem wpl_copy_run (w : World) {ops : Array Oper} {rest : List Oper} {o : Oper} {a : Act} {Q : Exit → Act → World → Prop} (hgd : o.guard = none) (d s : Operand) (t t' : TypeId)
    (ho : o.op = .call { callee := .builtin .copy, args := #[d, s], argTypes := #[t, t'] }) (v u : Value) (hd : a.eval d = v) (hs : a.eval s = u) {v' : Value} {w' : World}
    (hr : (Builtin.copy_ #[t, t'] o.type #[v, u]).run Try.prog w = .ok v' w') (h : wpList Try.prog ops Q rest (a.put o.dst v') w') : wpList Try.prog ops Q (o :: rest) a w :=
  wpList_plain hgd fun _ hK => wp_copy_run w d s t t' ho v u hd hs hr (hK _ _ h)
theorem st_copy_run {ops : Array Oper} {o : Oper} {a : Act} {w : World} {K : Act → World → Prop} {Q : Exit → Act → World → Prop} {E : Prop}
    (hg : o.guard = none) (d x : Operand) (dT sT : TypeId) (hop : o.op = Op.call { callee := Callee.builtin Builtin.copy, args := #[d, x], argTypes := #[dT, sT] })
    (v u : Value) (hd : a.eval d = v) (hx : a.eval x = u) {v' : Value} {w' : World} (hr : (Builtin.copy_ #[dT, sT] o.type #[v, u]).run Try.prog w = .ok v' w') (hK : K (a.put o.dst v') w') :
    if Region.wanted o (yielded ops a.tmps) = true then Oper.wp Try.prog o a w K Q else E := by
  have hw : Region.wanted o (yielded ops a.tmps) = true := by simp [Region.wanted, hg]
  rw [if_pos hw]
  exact wp_copy_run w d x dT sT hop v u hd hx hr hK
theorem apr {ops : Array Oper} {rest : List Oper} {o : Oper} {act : Act} {Q : Exit → Act → World → Prop} (w : World) (hg : o.guard = none) (s x : Operand) (t u : TypeId)
    (hop : o.op = Op.call { callee := Callee.builtin Builtin.append, args := #[s, x], argTypes := #[t, u] }) (v y : Value) (hs : act.eval s = v) (hx : act.eval x = y) (r : Value) (w' : World) (hr : (Builtin.append_ #[t, u] o.type #[v, y]).run Try.prog w = .ok r w') (hK : wpList Try.prog ops Q rest (act.put o.dst r) w') : wpList Try.prog ops Q (o :: rest) act w := by
  refine wpList_plain hg fun K hK' => ?_
  unfold Oper.wp execOp
  simp only [hop, resolve, invoke, builtin, Sem.run_bind, Sem.run_pure, Result.andThen_ok, List.map_toArray, List.map_cons, List.map_nil, hs, hx, hr]
  exact hK' _ _ hK
theorem size_info : (Try.prog.info? 39).map (·.size) = some 3 := by kernel_rfl
/-- the list in its row has so many cells -/
def insC (l : List Pc) (i : Nat) (x : Pc) : List Value := fcells penc (l.take i ++ [x] ++ l.drop i)
theorem insC_eq (l : List Pc) (i : Nat) (x : Pc) : insC l i x = (fcells penc l).take (i * 3) ++ penc x ++ (fcells penc l).drop (i * 3) := by
  unfold insC
  rw [fcells_append, fcells_append, fcells_one1, fcells_take pflat, fcells_drop pflat]
set_option maxRecDepth 100000 in
set_option maxHeartbeats 1000000 in
theorem insert_end {w : World} {B vb : Nat} {a : Option Addr} {n c : Nat} {l : List Pc} {x : Pc} (h : w.ownsRow B 39 3 (.slice a n c) n (fcells penc l)) (hB : B ≤ w.heap.size)
    (hv : w.heap[vb]? = some (.cells (penc x).toArray 39 (0, 0))) (hn : n * 32 ≤ 140737488355328) :
    Calls Try.prog 38 #[.slice a n c, .int .i64 n, .slice (some ⟨vb, 0, none⟩) 1 1] w fun e w' => ∃ a' c', e = .returned (.slice a' (n + 1) c') ∧ w'.ownsRow B 39 3 (.slice a' (n + 1) c') (n + 1) (insC l n x) ∧ Chg (fun k => (Value.slice a n c).ownBlock = some k) w w' := by
  obtain ⟨i0, hi, hz0, hz1, hz2⟩ := info_parts info
  have hlen : l.length = n := by
    have := h.1
    rw [fcells_length pflat] at this
    exact Nat.eq_of_mul_eq_mul_right pflat.pos this
  have hIC : insC l n x = fcells penc l ++ penc x := by
    unfold insC
    rw [List.take_of_length_le (by omega), List.drop_of_length_le (by omega), List.append_nil, fcells_append, fcells_one1]
  rw [hIC]
  have hcap : n ≤ c ∧ c ≤ maxLen := by
    obtain ⟨_, ⟨e, e2⟩ | ⟨g, cp, cur, e, hB, hg, h5, h6, _⟩⟩ := id h
    · obtain ⟨_, _, rfl⟩ : a = none ∧ n = 0 ∧ c = 0 := by simpa using e
      exact ⟨by omega, by unfold maxLen; omega⟩
    · obtain ⟨_, rfl⟩ : a = some ⟨g, 0, none⟩ ∧ c = cp := by simpa using e
      exact ⟨h5, h6⟩
  have hc63 : c ≤ 9223372036854775807 := by have := hcap.2; unfold maxLen at this; omega
  have hnc := hcap.1
  obtain ⟨g, cp, w1, hr, ho, hg, hloc⟩ := run_append_where (P := Try.prog) w B 22 22 39 i0 (.agg #[.int .i64 0, .string ⟨#[]⟩, .int .i64 0]) 3 32 Try.underlying22 hi hz0 hz1 hz2 rfl (by omega) a n c (fcells penc l) h
    ⟨vb, 0, none⟩ 1 1 (penc x) (by rw [pflat.size]) (fun j u hu => by rw [Addr.add_lit, Nat.zero_add, cell_of_row _ _ _ _ _ _ hv]; simpa using hu) (pflat.one x) (by omega) (by unfold maxLen; omega) (by omega) hB
  have HO := hide ho
  have HG := hide hg
  have HC : Hid (Chg (fun k => (Value.slice a n c).ownBlock = some k) w w1) := (Chg.refl _ _).grown hg (fun k hk => .inl hk)
  have hnn : a = none → n = 0 ∧ c = 0 := fun e => by
    subst e
    obtain ⟨_, ⟨e, e2⟩ | ⟨g, cp, cur, e, _⟩⟩ := h
    · simp at e
      exact ⟨e.1, e.2⟩
    · simp at e
  clear h hcap ho hg hloc hlen hIC HG
  cases a with
  | none =>
    obtain ⟨rfl, rfl⟩ := hnn rfl
    clear hnn
    go_enter Try.func38, Try.ntmps38
    go_wp2_with (at_builtin; refine apr _ rfl _ _ _ _ rfl _ _ rfl rfl _ _ hr ?_)
    all_goals (go_ret; exact ⟨_, _, rfl, HO.out, HC.out⟩)
  | some aa =>
    obtain ⟨ab, ao, asp⟩ := aa
    clear hnn
    go_enter Try.func38, Try.ntmps38
    go_wp2_with (at_builtin; refine apr _ rfl _ _ _ _ rfl _ _ rfl rfl _ _ hr ?_)
    all_goals (go_ret; exact ⟨_, _, rfl, HO.out, HC.out⟩)
/-- the cells of a row written over from a place on -/
theorem over_row (cur : List Value) (o : Nat) (cs : List Value) : (cur.take o ++ cs ++ cur.drop (o + cs.length)).length = cur.length ∨ cur.length < o + cs.length := by
  by_cases h : o + cs.length ≤ cur.length
  · left; simp; omega
  · right; omega
set_option maxRecDepth 100000 in
set_option maxHeartbeats 2000000 in
theorem insert_grow {w : World} {B g vb n c i : Nat} {l : List Pc} {x : Pc} (h : w.ownsRow B 39 3 (.slice (some ⟨g, 0, none⟩) n c) n (fcells penc l)) (hB : B ≤ w.heap.size)
    (hv : w.heap[vb]? = some (.cells (penc x).toArray 39 (0, 0))) (hi : i < n) (hroom : c < n + 1) (hn : n * 32 ≤ 140737488355328) :
    Calls Try.prog 38 #[.slice (some ⟨g, 0, none⟩) n c, .int .i64 i, .slice (some ⟨vb, 0, none⟩) 1 1] w fun e w' => ∃ a' c', e = .returned (.slice a' (n + 1) c') ∧ w'.ownsRow B 39 3 (.slice a' (n + 1) c') (n + 1) (insC l i x) ∧ Chg (fun k => (Value.slice (some ⟨g, 0, none⟩) n c).ownBlock = some k) w w' := by
  obtain ⟨i0, hi0, hz0, hz1, hz2⟩ := info_parts info
  obtain ⟨_, ⟨e, e2⟩ | ⟨g', cp, cur, e, hBg, hg, h5, h6, h7, h8⟩⟩ := id h
  · simp at e
  obtain ⟨rfl, rfl⟩ : g = g' ∧ c = cp := by simpa using e
  have hgl : g < w.heap.size := (h.lt g rfl).2
  have hvl : vb < w.heap.size := (Array.getElem?_eq_some_iff.1 hv).1
  have hFL : (fcells penc l).length = n * 3 := h.1
  have hxl : (penc x).length = 3 := pflat.size x
  have hcs : ∀ j u, (fcells penc l)[j]? = some u → w.cell? ⟨g, j, none⟩ = some u := fun j u hu => by
    have hj := (List.getElem?_eq_some_iff.1 hu).1
    rw [h.cellAt j (by omega)]
    exact hu
  have hkk : (n : Int) + 1 - (i : Int) = ((n + 1 - i : Nat) : Int) := by omega
  have hik : i + (n + 1 - i) = n + 1 := by omega
  obtain ⟨G, hG⟩ : ∃ G, G = grownCap w (n + 1) c 39 := ⟨_, rfl⟩
  have hGn : n + 1 ≤ G := by rw [hG]; exact grownCap_ge w _ _ _
  have hGm : G ≤ maxLen := by rw [hG]; exact grownCap_le_maxLen w (n + 1) c _ (by unfold maxLen; omega)
  obtain ⟨ROW, hROW⟩ : ∃ ROW : Array Value, ROW = ((fcells penc l).take (i * 3)).toArray ++ Builtin.zeroCells (.agg #[.int .i64 0, .string ⟨#[]⟩, .int .i64 0] : Value).cells (n + 1 - i) ++ Builtin.zeroCells (.agg #[.int .i64 0, .string ⟨#[]⟩, .int .i64 0] : Value).cells (G - (n + 1)) := ⟨_, rfl⟩
  have hRs : ROW.size = G * 3 := by
    rw [hROW]
    simp [Builtin.zeroCells, Value.cells, hFL]
    omega
  have hRt : ROW.toList.take (i * 3) = (fcells penc l).take (i * 3) := by
    rw [hROW]
    simp only [Array.toList_append, List.append_assoc]
    rw [List.take_left' (by simp [hFL]; omega)]
  have hold : (Builtin.firstCells i0.size i (.slice (some ⟨g, 0, none⟩) i c)).run Try.prog w.drew = .ok ((fcells penc l).take (i * 3)).toArray w.drew := by
    rw [hz1]
    exact run_firstCells_some w.drew 3 i ⟨g, 0, none⟩ i c _ (by rw [List.length_take, hFL]; omega) (fun j v hj => by
      rw [Addr.add_lit, Nat.zero_add]
      rw [List.getElem?_take] at hj
      split at hj
      · exact hcs j v hj
      · cases hj)
  have hrz : ∀ ty, (Builtin.append_ #[22, 3] ty #[.slice (some ⟨g, 0, none⟩) i c, .int .i64 ((n : Int) + 1 - (i : Int))]).run Try.prog w =
      .ok (.slice (some ⟨w.heap.size, 0, none⟩) (n + 1) G) (w.drew.alloc (.cells ROW 39)) := fun ty => by
    have h := Lib.run_append_grow_zeros w 22 3 ty 39 i0 _ .i64 .i64 Try.underlying22 Try.underlying3 hi0 hz0 (some ⟨g, 0, none⟩) i c _ hold (n + 1 - i) (by omega) (by omega) (by omega) (by omega) (by rw [hz2]; omega) (by rw [hz2, hik]; exact growslice_fits_wide hroom (by omega))
    rw [hik, ← hG] at h
    rw [hkk, hROW]
    exact h
  obtain ⟨A, eA⟩ : ∃ A, A = (fcells penc l).take (i * 3) := ⟨_, rfl⟩
  obtain ⟨C, eC⟩ : ∃ C, C = (fcells penc l).drop (i * 3) := ⟨_, rfl⟩
  have hA : A.length = i * 3 := by rw [eA, List.length_take, hFL]; omega
  have hC : C.length = (n - i) * 3 := by rw [eC, List.length_drop, hFL]; omega
  have hIC : Hid (insC l i x = A ++ penc x ++ C) := by show _ = _; rw [insC_eq, eA, eC]
  obtain ⟨W1, hW1⟩ : ∃ W1, W1 = w.drew.alloc (.cells ROW 39) := ⟨_, rfl⟩
  have hg1 : W1.heap[w.heap.size]? = some (.cells ROW 39 (0, 0)) := by rw [hW1]; exact heap_alloc_new w.drew _
  have hold1 : ∀ k, k < w.heap.size → W1.heap[k]? = w.heap[k]? := fun k hk => by rw [hW1]; exact Below.heap_alloc w.drew _ _ hk
  obtain ⟨W2, hW2⟩ : ∃ W2, W2 = W1.setRow w.heap.size (ROW.toList.take (i * 3) ++ penc x ++ ROW.toList.drop (i * 3 + (penc x).length)).toArray := ⟨_, rfl⟩
  have hcp1 : ∀ (W : World), W.heap = W1.heap → ∀ ty dc, (Builtin.copy_ #[22, 22] ty #[.slice (some ⟨w.heap.size, i * 3, none⟩) (n + 1 - i) dc, .slice (some ⟨vb, 0, none⟩) 1 1]).run Try.prog W = .ok (goInt (Nat.min 1 (n + 1 - i))) (W.setRow w.heap.size (ROW.toList.take (i * 3) ++ penc x ++ ROW.toList.drop (i * 3 + (penc x).length)).toArray) := fun W hW ty dc =>
    copy_run W _ _ ty 39 3 w.heap.size (i * 3) (n + 1 - i) dc ⟨vb, 0, none⟩ 1 1 ROW 39 (penc x) Try.underlying22 size_info (by rw [hW]; exact hg1) (by rw [hxl, show Nat.min 1 (n + 1 - i) = 1 from by simp only [Nat.min_def]; split <;> omega])
      (fun j u hu => by rw [Addr.add_lit, Nat.zero_add, cell_of_row _ _ _ _ _ _ (show W.heap[vb]? = _ from by rw [hW, hold1 vb hvl]; exact hv)]; simpa using hu) (by rw [hxl, hRs]; omega) (pflat.one x)
  have hg2 : W2.heap[w.heap.size]? = some (.cells (ROW.toList.take (i * 3) ++ penc x ++ ROW.toList.drop (i * 3 + (penc x).length)).toArray 39 (0, 0)) := by rw [hW2]; exact setRow_heap W1 _ ROW _ _ _ hg1
  have hold2 : ∀ k, k < w.heap.size → W2.heap[k]? = w.heap[k]? := fun k hk => by rw [hW2, setRow_other _ _ _ _ (by omega)]; exact hold1 k hk
  rw [hRt, ← eA] at hg2 hW2 hcp1
  obtain ⟨R2, eR2⟩ : ∃ R2, R2 = A ++ penc x ++ ROW.toList.drop (i * 3 + (penc x).length) := ⟨_, rfl⟩
  rw [← eR2] at hg2 hW2 hcp1
  have hR2l : R2.length = G * 3 := by rw [eR2]; simp [hA, hxl, hRs]; omega
  have hR2t : R2.take ((i + 1) * 3) = A ++ penc x := by rw [eR2, List.take_left' (by simp [hA, hxl]; omega)]
  have hcp2 : ∀ (W : World), W.heap = W2.heap → ∀ ty dc sc, (Builtin.copy_ #[22, 22] ty #[.slice (some ⟨w.heap.size, (i + 1) * 3, none⟩) (n - i) dc, .slice (some ⟨g, i * 3, none⟩) (n - i) sc]).run Try.prog W = .ok (goInt (Nat.min (n - i) (n - i))) (W.setRow w.heap.size (A ++ penc x ++ C ++ R2.drop ((i + 1) * 3 + C.length)).toArray) := fun W hW ty dc sc => by
    have h := copy_run (P := Try.prog) W 22 22 ty 39 3 w.heap.size ((i + 1) * 3) (n - i) dc ⟨g, i * 3, none⟩ (n - i) sc R2.toArray 39 C Try.underlying22 size_info (by rw [hW]; exact hg2) (by rw [hC, show Nat.min (n - i) (n - i) = n - i from by simp only [Nat.min_def]; split <;> omega])
      (fun j u hu => by
        rw [Addr.add_lit]
        have h1 : W.heap[g]? = w.heap[g]? := by rw [hW]; exact hold2 g hgl
        rw [World.cell?_of_block (w := w) (w' := W) (a := ⟨g, i * 3 + j, none⟩) h1]
        rw [eC, List.getElem?_drop] at hu
        exact hcs _ _ hu) (by rw [hC]; simp [hR2l]; omega) (fun u hu => fcells_one pflat l u (List.mem_of_mem_drop (eC ▸ hu)))
    rw [List.toList_toArray, hR2t] at h
    exact h
  obtain ⟨R3, eR3⟩ : ∃ R3, R3 = A ++ penc x ++ C ++ R2.drop ((i + 1) * 3 + C.length) := ⟨_, rfl⟩
  rw [← eR3] at hcp2
  have hfin : Hid (∀ W : World, W.heap = W2.heap → (W.setRow w.heap.size R3.toArray).ownsRow B 39 3 (.slice (some ⟨w.heap.size, 0, none⟩) (n + 1) G) (n + 1) (insC l i x)) := fun W hW => by
    rw [hIC.out, eR3]
    refine ⟨by simp [hA, hxl, hC]; omega, .inr ⟨w.heap.size, G, _, rfl, hB, setRow_heap W _ R2.toArray _ _ _ (by rw [hW]; exact hg2), hGn, hGm, by simp [hA, hxl, hC, hR2l]; omega, ?_⟩⟩
    rw [List.toList_toArray, List.take_left' (by simp [hA, hxl, hC]; omega)]
  have hchg : Hid (∀ W : World, W.os = W2.os → W.tape = W2.tape → W.output = W2.output → W.heap = W2.heap → ∀ cs, Chg (fun k => (Value.slice (some ⟨g, 0, none⟩) n c).ownBlock = some k) w (W.setRow w.heap.size cs)) := fun W h1 h2 h3 h4 cs => by
    refine ⟨?_, ?_, ?_, ?_, fun k hk _ => ?_⟩
    · show W.os = _; rw [h1, hW2]; show W1.os = _; rw [hW1]; rfl
    · show W.tape = _; rw [h2, hW2]; show W1.tape = _; rw [hW1]; rfl
    · show W.output = _; rw [h3, hW2]; show W1.output = _; rw [hW1]; rfl
    · simp only [World.setRow, Array.size_modify]; rw [h4, hW2]; simp only [World.setRow, Array.size_modify]; rw [hW1]; simp
    · rw [setRow_other _ _ _ _ (by omega), h4]; exact hold2 k hk
  have hwn : IntKind.i64.wrap ((n : Int) + 1) = (n : Int) + 1 := by rw [IntKind.wrap_i64]; omega
  have hwi : IntKind.i64.wrap ((i : Int) + 1) = (i : Int) + 1 := by rw [IntKind.wrap_i64]; omega
  have hwk : IntKind.i64.wrap ((n : Int) + 1 - (i : Int)) = (n : Int) + 1 - (i : Int) := by rw [IntKind.wrap_i64]; omega
  have htn : ((i : Int) + 1).toNat = i + 1 := by omega
  have hb1 : (0 : Int) ≤ (i : Int) + 1 := by omega
  have hb2 : (i : Int) ≤ (n : Int) := by omega
  have hb3 : (i : Int) + 1 ≤ (n : Int) + 1 := by omega
  have hne : ¬ ((i : Int) = (n : Int)) := by omega
  have hgt : (c : Int) < (n : Int) + 1 := by omega
  have hGi : ¬ (G = i) := by omega
  have hGi1 : ¬ (G = i + 1) := by omega
  have hci : ¬ (c = i) := by omega
  have hc63 : c ≤ 9223372036854775807 := by unfold maxLen at h6; omega
  have hG63 : G ≤ 9223372036854775807 := by unfold maxLen at hGm; omega
  rw [← hW1] at hrz
  have hic : i ≤ c := by omega
  have hH2 : Hid (W2 = W1.setRow w.heap.size R2.toArray) := hW2
  clear hW2
  clear hROW hRs hRt hold hkk hik hG hGn hGm hg1 hg2 hold1 hold2 hR2l hR2t eR2 eR3 hA hC eA eC hcs hFL hxl h5 h6 h7 h8 hBg hg h hv hvl hgl hW1
  go_enter Try.func38, Try.ntmps38
  go_wp2_with (first
    | (at_builtin; refine apr _ rfl _ _ _ _ rfl _ _ rfl rfl _ _ (hrz _) ?_)
    | (at_builtin; refine wpl_copy_run _ rfl _ _ 22 22 rfl _ _ rfl rfl (hcp1 _ rfl _ _) ?_))
  rw [← hH2.out]
  have mixed : Try.prog.follows .mixedOrders = true := by kernel_rfl
  go_region_law_o (refine st_copy_run rfl _ _ 22 22 rfl (.slice (some ⟨w.heap.size, (i + 1) * 3, none⟩) (n - i) (G - (i + 1))) (.slice (some ⟨g, i * 3, none⟩) (n - i) (c - i)) (by simp [Act.eval, Act.put]) (by simp [Act.eval, Act.put]) (hcp2 W2.drew rfl 3 (G - (i + 1)) (c - i)) ?_)
  all_goals
    go_wp2
    go_ret
    exact ⟨_, _, rfl, hfin.out W2.drew rfl, hchg.out W2.drew rfl rfl rfl rfl _⟩
set_option maxRecDepth 100000 in
set_option maxHeartbeats 2000000 in
theorem insert_room {w : World} {B g vb n c i : Nat} {l : List Pc} {x : Pc} (h : w.ownsRow B 39 3 (.slice (some ⟨g, 0, none⟩) n c) n (fcells penc l))
    (hv : w.heap[vb]? = some (.cells (penc x).toArray 39 (0, 0))) (hvg : vb ≠ g) (hi : i < n) (hroom : n + 1 ≤ c) :
    Calls Try.prog 38 #[.slice (some ⟨g, 0, none⟩) n c, .int .i64 i, .slice (some ⟨vb, 0, none⟩) 1 1] w fun e w' => ∃ a' c', e = .returned (.slice a' (n + 1) c') ∧ w'.ownsRow B 39 3 (.slice a' (n + 1) c') (n + 1) (insC l i x) ∧ Chg (fun k => (Value.slice (some ⟨g, 0, none⟩) n c).ownBlock = some k) w w' := by
  obtain ⟨_, ⟨e, e2⟩ | ⟨g', cp, cur, e, hBg, hg, h5, h6, h7, h8⟩⟩ := id h
  · simp at e
  obtain ⟨rfl, rfl⟩ : g = g' ∧ c = cp := by simpa using e
  have hFL : (fcells penc l).length = n * 3 := h.1
  have hxl : (penc x).length = 3 := pflat.size x
  have hcs : ∀ j u, (fcells penc l)[j]? = some u → w.cell? ⟨g, j, none⟩ = some u := fun j u hu => by
    have hj := (List.getElem?_eq_some_iff.1 hu).1
    rw [h.cellAt j (by omega)]
    exact hu
  obtain ⟨A, eA⟩ : ∃ A, A = (fcells penc l).take (i * 3) := ⟨_, rfl⟩
  obtain ⟨C, eC⟩ : ∃ C, C = (fcells penc l).drop (i * 3) := ⟨_, rfl⟩
  have hA : A.length = i * 3 := by rw [eA, List.length_take, hFL]; omega
  have hC : C.length = (n - i) * 3 := by rw [eC, List.length_drop, hFL]; omega
  have hIC : Hid (insC l i x = A ++ penc x ++ C) := by show _ = _; rw [insC_eq, eA, eC]
  have hcl : cur.toList.length = c * 3 := by simpa using h7
  obtain ⟨R1, eR1⟩ : ∃ R1, R1 = cur.toList.take ((i + 1) * 3) ++ C ++ cur.toList.drop ((i + 1) * 3 + C.length) := ⟨_, rfl⟩
  have hR1l : R1.length = c * 3 := by rw [eR1]; simp [hC, h7]; omega
  have hR1t : R1.take (i * 3) = A := by
    rw [eR1, List.append_assoc, List.take_append_of_le_length (by simp [h7]; omega), List.take_take, Nat.min_eq_left (by omega), eA, ← h8, List.take_take, Nat.min_eq_left (by omega)]
  have hR1d : R1.drop (i * 3 + (penc x).length) = C ++ cur.toList.drop ((i + 1) * 3 + C.length) := by
    rw [eR1, List.append_assoc, List.drop_left' (by simp [h7, hxl]; omega)]
  have hcp1 : ∀ (W : World), W.heap = w.heap → ∀ ty dc sc, (Builtin.copy_ #[22, 22] ty #[.slice (some ⟨g, (i + 1) * 3, none⟩) (n - i) dc, .slice (some ⟨g, i * 3, none⟩) (n + 1 - i) sc]).run Try.prog W = .ok (goInt (Nat.min (n + 1 - i) (n - i))) (W.setRow g R1.toArray) := fun W hW ty dc sc => by
    have h := copy_run (P := Try.prog) W 22 22 ty 39 3 g ((i + 1) * 3) (n - i) dc ⟨g, i * 3, none⟩ (n + 1 - i) sc cur 39 C Try.underlying22 size_info (by rw [hW]; exact hg) (by rw [hC, show Nat.min (n + 1 - i) (n - i) = n - i from by simp only [Nat.min_def]; split <;> omega])
      (fun j u hu => by
        rw [Addr.add_lit]
        rw [World.cell?_of_block (w := w) (w' := W) (a := ⟨g, i * 3 + j, none⟩) (by rw [hW])]
        rw [eC, List.getElem?_drop] at hu
        exact hcs _ _ hu) (by rw [hC]; omega) (fun u hu => fcells_one pflat l u (List.mem_of_mem_drop (eC ▸ hu)))
    rw [eR1]
    exact h
  obtain ⟨W1, hW1⟩ : ∃ W1, W1 = w.drew.setRow g R1.toArray := ⟨_, rfl⟩
  have hg1 : W1.heap[g]? = some (.cells R1.toArray 39 (0, 0)) := by rw [hW1]; exact setRow_heap w.drew g cur _ _ _ hg
  have hold1 : ∀ k, k ≠ g → W1.heap[k]? = w.heap[k]? := fun k hk => by rw [hW1]; exact setRow_other w.drew g k _ hk
  obtain ⟨R2, eR2⟩ : ∃ R2, R2 = A ++ penc x ++ (C ++ cur.toList.drop ((i + 1) * 3 + C.length)) := ⟨_, rfl⟩
  have hcp2 : ∀ (W : World), W.heap = W1.heap → ∀ ty dc, (Builtin.copy_ #[22, 22] ty #[.slice (some ⟨g, i * 3, none⟩) (n + 1 - i) dc, .slice (some ⟨vb, 0, none⟩) 1 1]).run Try.prog W = .ok (goInt (Nat.min 1 (n + 1 - i))) (W.setRow g R2.toArray) := fun W hW ty dc => by
    have h := copy_run (P := Try.prog) W 22 22 ty 39 3 g (i * 3) (n + 1 - i) dc ⟨vb, 0, none⟩ 1 1 R1.toArray 39 (penc x) Try.underlying22 size_info (by rw [hW]; exact hg1) (by rw [hxl, show Nat.min 1 (n + 1 - i) = 1 from by simp only [Nat.min_def]; split <;> omega])
      (fun j u hu => by rw [Addr.add_lit, Nat.zero_add, cell_of_row _ _ _ _ _ _ (show W.heap[vb]? = _ from by rw [hW, hold1 vb hvg]; exact hv)]; simpa using hu) (by rw [hxl]; simp [hR1l]; omega) (pflat.one x)
    rw [List.toList_toArray, hR1t, hR1d] at h
    rw [eR2]
    exact h
  have hfin : Hid (∀ W : World, W.heap = W1.heap → (W.setRow g R2.toArray).ownsRow B 39 3 (.slice (some ⟨g, 0, none⟩) (n + 1) c) (n + 1) (insC l i x)) := fun W hW => by
    rw [hIC.out, eR2]
    refine ⟨by simp [hA, hxl, hC]; omega, .inr ⟨g, c, _, rfl, hBg, setRow_heap W _ R1.toArray _ _ _ (by rw [hW]; exact hg1), hroom, h6, by simp [hA, hxl, hC, h7]; omega, ?_⟩⟩
    rw [List.toList_toArray, ← List.append_assoc, List.take_left' (by simp [hA, hxl, hC]; omega)]
  have hchg : Hid (∀ W : World, W.os = W1.os → W.tape = W1.tape → W.output = W1.output → W.heap = W1.heap → ∀ cs, Chg (fun k => (Value.slice (some ⟨g, 0, none⟩) n c).ownBlock = some k) w (W.setRow g cs)) := fun W h1 h2 h3 h4 cs => by
    refine ⟨?_, ?_, ?_, ?_, fun k hk hn => ?_⟩
    · show W.os = _; rw [h1, hW1]; rfl
    · show W.tape = _; rw [h2, hW1]; rfl
    · show W.output = _; rw [h3, hW1]; rfl
    · simp only [World.setRow, Array.size_modify]; rw [h4, hW1]; simp [World.setRow]
    · have hkg : k ≠ g := fun e => hn (by rw [e]; rfl)
      rw [setRow_other _ _ _ _ hkg, h4]; exact hold1 k hkg
  have hov : ∀ lb cb, (callFunc 42 #[.slice (some ⟨vb, 0, none⟩) 1 1, .slice (some ⟨g, (i + 1) * 3, none⟩) lb cb]).run Try.prog w = .ok (.value (.bool false)) w := fun lb cb => by
    rw [run_callFunc_extern Try.func42 (by kernel_rfl) (by kernel_rfl) (by kernel_rfl) (e := Extern.SlicesOverlaps.overlaps #[22, 22] #[4]) (by kernel_rfl),
      Lib.run_overlaps_apart w 22 4 39 Try.underlying22 3 (fun w => by
        obtain ⟨i0, hi0, hz0, hz1, hz2⟩ := info_parts info
        simp [sizeOf, typeInfo, hi0, hz1]) ⟨vb, 0, none⟩ ⟨g, (i + 1) * 3, none⟩ 1 1 lb cb hvg 39 39 (penc x).toArray.size cur.size (by simp [World.shape?, hv]) (by simp [World.shape?, hg]) (by omega) (frozen_of_row _ _ _ _ _ hv) (frozen_of_row _ _ _ _ _ hv)]
    rfl
  have hwn : IntKind.i64.wrap ((n : Int) + 1) = (n : Int) + 1 := by rw [IntKind.wrap_i64]; unfold maxLen at h6; omega
  have hwi : IntKind.i64.wrap ((i : Int) + 1) = (i : Int) + 1 := by rw [IntKind.wrap_i64]; unfold maxLen at h6; omega
  have hti : ((i : Int) + 1).toNat = i + 1 := by omega
  have htn : ((n : Int) + 1).toNat = n + 1 := by omega
  have hb1 : (0 : Int) ≤ (i : Int) + 1 := by omega
  have hb2 : (i : Int) ≤ (n : Int) := by omega
  have hb3 : (i : Int) + 1 ≤ (n : Int) + 1 := by omega
  have hb4 : (0 : Int) ≤ (n : Int) + 1 := by omega
  have hb5 : (n : Int) + 1 ≤ (c : Int) := by omega
  have hb6 : (i : Int) ≤ (n : Int) + 1 := by omega
  have hne : ¬ ((i : Int) = (n : Int)) := by omega
  have hgt : ¬ ((c : Int) < (n : Int) + 1) := by omega
  have hci : ¬ (c = i) := by omega
  have hci1 : ¬ (c = i + 1) := by omega
  have hc63 : c ≤ 9223372036854775807 := by unfold maxLen at h6; omega
  have hin : i ≤ n + 1 := by omega
  have hH1 := hide hW1
  have mixed : Try.prog.follows .mixedOrders = true := by kernel_rfl
  clear hcl hR1l hR1t hR1d eR1 eR2 hg1 hold1 hA hC eA eC hcs hFL hxl h5 h6 h7 h8 hBg hg h hv hW1
  go_enter Try.func38, Try.ntmps38
  go_wp2_with (simp only [hov])
  go_region_law_o (refine st_copy_run rfl _ _ 22 22 rfl (.slice (some ⟨g, (i + 1) * 3, none⟩) (n - i) (c - (i + 1))) (.slice (some ⟨g, i * 3, none⟩) (n + 1 - i) (c - i)) (by simp [Act.eval, Act.put]) (by simp [Act.eval, Act.put]) (hcp1 w.drew rfl 3 (c - (i + 1)) (c - i)) ?_)
  all_goals
    rw [← hH1.out]
    go_wp2_with (first
      | (at_builtin; refine wpl_copy_run _ rfl _ _ 22 22 rfl _ _ rfl rfl (hcp2 _ rfl _ _) ?_))
    go_ret
    exact ⟨_, _, rfl, hfin.out W1 rfl, hchg.out W1 rfl rfl rfl rfl _⟩
theorem insert_any {w : World} {B vb : Nat} {a : Option Addr} {n c i : Nat} {l : List Pc} {x : Pc} (h : w.ownsRow B 39 3 (.slice a n c) n (fcells penc l)) (hB : B ≤ w.heap.size)
    (hv : w.heap[vb]? = some (.cells (penc x).toArray 39 (0, 0))) (hvg : ¬ (Value.slice a n c).ownBlock = some vb) (hi : i ≤ n) (hn : n * 32 ≤ 140737488355328) :
    Calls Try.prog 38 #[.slice a n c, .int .i64 i, .slice (some ⟨vb, 0, none⟩) 1 1] w fun e w' => ∃ a' c', e = .returned (.slice a' (n + 1) c') ∧ w'.ownsRow B 39 3 (.slice a' (n + 1) c') (n + 1) (insC l i x) ∧ Chg (fun k => (Value.slice a n c).ownBlock = some k) w w' := by
  by_cases e : i = n
  · subst e
    exact insert_end h hB hv hn
  · obtain ⟨_, ⟨e1, e2⟩ | ⟨g, cp, cur, e1, hBg, hg, _⟩⟩ := id h
    · omega
    · obtain ⟨rfl, rfl⟩ : a = some ⟨g, 0, none⟩ ∧ c = cp := by simpa using e1
      by_cases hr : c < n + 1
      · exact insert_grow h hB hv (by omega) hr hn
      · exact insert_room h hv (fun e => hvg (by rw [e]; rfl)) (by omega) (by omega)
end FnP
end Go.Proofs.Ythfjndlmihepbaa
