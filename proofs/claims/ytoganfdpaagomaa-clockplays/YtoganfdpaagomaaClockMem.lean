/- The clock's queue in memory: its list of timers, its map of places, its blocks. No condition. -/
import Derived.Test.YtoganfdpaagomaaChgMem
import Derived.Test.YtoganfdpaagomaaClockHeap
import Derived.Maps.OwnSet
import Derived.StringKeys
namespace Go.Proofs.Ytoganfdpaagomaa
open Go.ChangeShapes Go.WideShapes Go.ChangeAt Go.RowKit Cm
set_option linter.unusedVariables false

def Cm.Tm.cells (t : Tm) : List Value := [.string t.name, .int .i64 t.due, .int .i64 t.turn]
def tcells (l : List Tm) : List Value := l.flatMap Tm.cells
theorem tcells_append (l r : List Tm) : tcells (l ++ r) = tcells l ++ tcells r := by simp [tcells]
theorem tcells_length : ∀ (l : List Tm), (tcells l).length = l.length * 3
  | [] => rfl
  | p :: r => by show (p.cells ++ tcells r).length = _; rw [List.length_append, tcells_length r]; simp [Tm.cells]; omega
theorem tcells_at : ∀ (l : List Tm) (i : Nat) (p : Tm), l[i]? = some p → ∀ j, j < 3 → (tcells l)[i * 3 + j]? = p.cells[j]?
  | [], i, p, hx, _, _ => by simp at hx
  | y :: r, 0, p, hx, j, hj => by
    simp at hx
    subst hx
    show (y.cells ++ tcells r)[0 * 3 + j]? = _
    rw [List.getElem?_append_left (by simp [Tm.cells]; omega)]
    simp
  | y :: r, i + 1, p, hx, j, hj => by
    show (y.cells ++ tcells r)[(i + 1) * 3 + j]? = _
    rw [List.getElem?_append_right (by simp [Tm.cells]; omega), show (i + 1) * 3 + j - y.cells.length = i * 3 + j by simp [Tm.cells]; omega]
    exact tcells_at r i p (by simpa using hx) j hj
theorem tcells_one (l : List Tm) : ∀ v ∈ tcells l, v.oneCell' = true := by
  intro v hv
  obtain ⟨p, _, hp⟩ := List.mem_flatMap.1 hv
  simp [Tm.cells] at hp
  rcases hp with rfl | rfl | rfl <;> rfl
theorem tcells_set (l : List Tm) (i : Nat) (t : Tm) (hi : i < l.length) (j : Nat) : (tcells (l.set i t))[j]? = if i * 3 ≤ j ∧ j < i * 3 + 3 then t.cells[j - i * 3]? else (tcells l)[j]? := by
  by_cases hj : j < l.length * 3
  · have e : j = j / 3 * 3 + j % 3 := by omega
    have hq : j / 3 < l.length := by omega
    have h1 : (l.set i t)[j / 3]? = some (if j / 3 = i then t else g l (j / 3)) := by
      rw [List.getElem?_set]
      by_cases e2 : i = j / 3
      · rw [if_pos e2, if_pos hi, if_pos e2.symm]
      · rw [if_neg e2, if_neg (Ne.symm e2), g_some hq]
    have h2 := tcells_at _ _ _ h1 (j % 3) (by omega)
    have h3 := tcells_at _ _ _ (g_some hq) (j % 3) (by omega)
    rw [← e] at h2 h3
    rw [h2]
    by_cases e2 : j / 3 = i
    · rw [if_pos e2, if_pos (by omega), show j - i * 3 = j % 3 by omega]
    · rw [if_neg e2, if_neg (by omega), h3]
  · rw [List.getElem?_eq_none (by rw [tcells_length]; simp; omega), if_neg (by omega), List.getElem?_eq_none (by rw [tcells_length]; omega)]

/-! the map of places -/
def skey (s : ByteArray) : Lit := .string s.data.toList
theorem strKeyed : Maps.Keyed Try.prog 9 := Maps.string_keyed Try.underlying9
theorem keyOf_s {s : ByteArray} (hs : s.size ≤ maxLen) : keyOf Try.prog 9 (.string s) = some (skey s) := Go.WideMaps.keyOf_string_mk Try.underlying9 hs
theorem skey_inj {s t : ByteArray} (h : skey s = skey t) : s = t := by
  simp [skey] at h
  cases s; cases t
  simp at h
  simp [h]
theorem wf64 {a : Int} (h1 : -9223372036854775808 ≤ a) (h2 : a ≤ 9223372036854775807) : (Lit.int .i64 a).wf = true := WalkArith.wf_i64 ⟨h1, h2⟩
/-- the map at mb has n names, each with its place -/
def Mp (w : World) (mb n : Nat) (F : ByteArray → Option Nat) : Prop :=
  ∃ D : DataW Unit, w.ownsMap Try.prog 9 (plainElem Try.prog 3) mb n D ∧ Maps.size D = n ∧ ∀ s : ByteArray, s.size ≤ maxLen → Maps.has D (skey s) = (F s).isSome ∧ D.atKey (skey s) (.lit (.int .i64 0)) = .lit (.int .i64 (((F s).getD 0 : Nat) : Int))
theorem tight {w : World} {mb n : Nat} {D : DataW Unit} (h : w.ownsMap Try.prog 9 (plainElem Try.prog 3) mb n D) : w.ownsMap Try.prog 9 (plainElem Try.prog 3) mb (Maps.size D) D := by
  obtain ⟨es, clock, hb, F, hs, rfl⟩ := h
  exact ⟨es, clock, hb, F, by simp [Maps.size, length_sorted], rfl⟩
section
variable {w w' : World} {mb n : Nat} {F : ByteArray → Option Nat}
theorem Mp.lt (h : Mp w mb n F) : mb < w.heap.size := by obtain ⟨D, h, _⟩ := h; exact h.lt
theorem Mp.same (h : Mp w mb n F) (e : w'.heap[mb]? = w.heap[mb]?) : Mp w' mb n F := by
  obtain ⟨D, ⟨es, clock, hb, r⟩, h2⟩ := h
  exact ⟨D, ⟨es, clock, e.trans hb, r⟩, h2⟩
theorem Mp.isMap (h : Mp w mb n F) : ∃ es clock, w.heap[mb]? = some (.map es clock) := by
  obtain ⟨D, ⟨es, clock, hb, r⟩, h2⟩ := h
  exact ⟨es, clock, hb⟩
theorem mp_new (w : World) : Mp (w.alloc (.map #[] 0)) w.heap.size 0 (fun _ => none) :=
  ⟨.map [], World.ownsMap_made w _ _ _, rfl, fun s _ => ⟨rfl, rfl⟩⟩
theorem zero_int (w : World) : (zeroValue 3).run Try.prog w = .ok (.int .i64 0) w := by first | exact Try.zeroValue3 w | kernel_rfl
theorem mp_look (h : Mp w mb n F) {s : ByteArray} (hs : s.size ≤ maxLen) :
    (Instr.lookup 55 (.map (some mb)) (.string s) true).run Try.prog w = .ok (.tuple #[.int .i64 (((F s).getD 0 : Nat) : Int), .bool (F s).isSome]) w := by
  obtain ⟨D, hown, _, hD⟩ := h
  obtain ⟨v, ps, hr, hv⟩ := hown.look_ok strKeyed Try.underlying55 (zero_int w) (plainElem_int Try.underlying3 (by decide)) (keyOf_s hs)
  rw [(hD s hs).2] at hv
  obtain ⟨a, rfl, e, _⟩ := plainElem_int_inv Try.underlying3 hv
  simp at e
  rw [hr, (hD s hs).1, ← e.1]
theorem mp_put {s : ByteArray} (h : Mp w mb n F) (hn : n < maxLen) (hs : s.size ≤ maxLen) {i : Nat} (hi : i ≤ 9223372036854775807) :
    ∃ w', (Instr.mapUpdate 55 (.map (some mb)) (.string s) (.int .i64 (i : Int))).run Try.prog w = .ok () w' ∧ Mp w' mb (if (F s).isSome then n else n + 1) (upd F s i) ∧ w.grownBy w' (some mb) := by
  obtain ⟨D, hown, hsz, hD⟩ := h
  have hk := keyOf_s hs
  obtain ⟨w', hr, ho, hg⟩ := hown.update strKeyed Try.underlying55 hn hk (plainElem_int Try.underlying3 (wf64 (a := (i : Int)) (by omega) (by omega)))
  have hz := Maps.size_put (hown.tidy strKeyed) (k := skey s) (.lit (.int .i64 (i : Int)))
  rw [(hD s hs).1, hsz] at hz
  refine ⟨w', hr, ⟨_, by rw [← hz]; exact tight ho, hz, fun t ht => ?_⟩, hg⟩
  by_cases e : t = s
  · subst e
    rw [Maps.has_put_same hown.isMap (strKeyed.key hk), Maps.atKey_put_same hown.isMap (strKeyed.key hk)]
    simp [upd]
  · have e2 : skey t ≠ skey s := fun e2 => e (skey_inj e2)
    rw [Maps.has_put_other e2, Maps.atKey_put_other e2]
    simp [upd, e, hD t ht]
theorem mp_del {s : ByteArray} (h : Mp w mb (n + 1) F) (hs : s.size ≤ maxLen) (hF : (F s).isSome = true) (ty : TypeId) :
    ∃ w', (Builtin.delete_ #[55, 9] ty #[.map (some mb), .string s]).run Try.prog w = .ok (.tuple #[]) w' ∧ Mp w' mb n (cut F s) ∧ w.grownBy w' (some mb) := by
  obtain ⟨D, hown, hsz, hD⟩ := h
  have hk := keyOf_s hs
  obtain ⟨w', hr, ho, ht⟩ := hown.drop strKeyed Try.underlying55 hk ty
  have hz := Maps.size_del (hown.tidy strKeyed) (k := skey s)
  rw [(hD s hs).1, hsz, hF] at hz
  have hz2 : Maps.size (D.del (skey s)) = n := by simp at hz; omega
  refine ⟨w', hr, ⟨_, by rw [← hz2]; exact tight ho, hz2, fun t ht => ?_⟩, ht.grown⟩
  by_cases e : t = s
  · subst e
    rw [Maps.has_del_same, Maps.atKey_del_same]
    simp [cut]
  · have e2 : skey t ≠ skey s := fun e2 => e (skey_inj e2)
    rw [Maps.has_del_other e2, Maps.atKey_del_other e2]
    simp [cut, e, hD t ht]
end

/-- where a queue lies -/
structure Ql where
  Q : Nat
  mb : Nat
  av : Option Addr
  m : Nat
  cv : Nat
def Ql.v (L : Ql) : Value := .slice L.av L.m L.cv
/-- its blocks -/
def Ql.M (L : Ql) (k : Nat) : Prop := k = L.Q ∨ k = L.mb ∨ L.v.ownBlock = some k
/-- a queue: the timers of its list, the names of its map in the order of their places -/
structure Qu (w : World) (L : Ql) (l : List Tm) (ns : List ByteArray) : Prop where
  c0 : w.cell? ⟨L.Q, 0, none⟩ = some (.slice L.av L.m L.cv)
  c1 : w.cell? ⟨L.Q, 1, none⟩ = some (.map (some L.mb))
  f : ∀ o, w.frozen? ⟨L.Q, o, none⟩ = false
  row : w.ownsRow 0 54 3 (.slice L.av L.m L.cv) L.m (tcells l)
  len : L.m = l.length
  mp : ∃ F, Mp w L.mb ns.length F ∧ Ix ns F
  v1 : (Value.slice L.av L.m L.cv).ownBlock ≠ some L.Q
  sz : ∀ s ∈ ns, s.size ≤ maxLen
  most : l.length ≤ 65 ∧ ns.length ≤ 65
section
variable {w w' : World} {L : Ql} {l : List Tm} {ns : List ByteArray}
theorem Qu.ltQ (h : Qu w L l ns) : L.Q < w.heap.size := World.block_lt_of_cell? w _ h.c0
theorem Qu.ltM (h : Qu w L l ns) : L.mb < w.heap.size := by obtain ⟨F, h, _⟩ := h.mp; exact h.lt
theorem Qu.lt (h : Qu w L l ns) : ∀ k, L.M k → k < w.heap.size := fun k hk => by
  rcases hk with rfl | rfl | hk
  · exact h.ltQ
  · exact h.ltM
  · exact (h.row.lt k hk).2
theorem Qu.mQ (h : Qu w L l ns) : L.mb ≠ L.Q := fun e => by
  obtain ⟨F, hm, _⟩ := h.mp
  obtain ⟨es, clock, hb⟩ := hm.isMap
  have := h.c0
  rw [← e] at this
  simp [World.cell?, hb] at this
theorem Qu.vM (h : Qu w L l ns) : (Value.slice L.av L.m L.cv).ownBlock ≠ some L.mb := fun e => by
  obtain ⟨F, hm, _⟩ := h.mp
  obtain ⟨es, clock, hb⟩ := hm.isMap
  obtain ⟨_, ⟨h1, _⟩ | ⟨g, cp, cur, h1, _, h3, _⟩⟩ := h.row
  · rw [h1] at e
    simp [Value.ownBlock] at e
  · rw [h1] at e
    simp [Value.ownBlock] at e
    subst e
    rw [hb] at h3
    cases h3
theorem Qu.same (h : Qu w L l ns) (hb : ∀ k, L.M k → w'.heap[k]? = w.heap[k]?) : Qu w' L l ns := by
  have eQ := hb L.Q (.inl rfl)
  have c : ∀ o, w'.cell? ⟨L.Q, o, none⟩ = w.cell? ⟨L.Q, o, none⟩ := fun o => World.cell?_of_block (a := ⟨L.Q, o, none⟩) eQ
  obtain ⟨F, hm, hi⟩ := h.mp
  exact ⟨(c 0).trans h.c0, (c 1).trans h.c1, fun o => (World.frozen?_of_block (a := ⟨L.Q, o, none⟩) eQ).trans (h.f o), row_same h.row (fun k hk => hb k (.inr (.inr hk))), h.len, ⟨F, hm.same (hb _ (.inr (.inl rfl))), hi⟩, h.v1, h.sz, h.most⟩
theorem Qu.below (h : Qu w L l ns) (hb : Below w.heap.size w w') : Qu w' L l ns := h.same (fun k hk => hb.block k (h.lt k hk))
theorem Qu.drew (h : Qu w L l ns) : Qu w.drew L l ns := h.same (fun _ _ => rfl)
theorem Qu.drewN (h : Qu w L l ns) (n : Nat) : Qu (w.drewN n) L l ns := h.same (fun _ _ => rfl)
theorem Qu.far {M' : Nat → Prop} (h : Qu w L l ns) (hc : Chg M' w w') (hd : ∀ k, L.M k → ¬ M' k) : Qu w' L l ns := h.same (fun k hk => hc.block k (h.lt k hk) (hd k hk))
/-- the k-th timer's cells -/
theorem Qu.at (h : Qu w L l ns) {k : Nat} (hk : k < l.length) : ∃ b, L.av = some ⟨b, 0, none⟩ ∧ L.v.ownBlock = some b ∧ w.cell? ⟨b, k * 3, none⟩ = some (.string (g l k).name) ∧ w.cell? ⟨b, k * 3 + 1, none⟩ = some (.int .i64 (g l k).due) ∧ w.cell? ⟨b, k * 3 + 2, none⟩ = some (.int .i64 (g l k).turn) := by
  have hl := h.len
  obtain ⟨_, ⟨e1, e2⟩ | ⟨b, cp, cur, e1, _⟩⟩ := id h.row
  · omega
  · obtain ⟨e3, e4⟩ : L.av = some ⟨b, 0, none⟩ ∧ L.cv = cp := by simpa using e1
    have row := h.row
    rw [e3] at row
    have hc : ∀ j, j < 3 → w.cell? ⟨b, k * 3 + j, none⟩ = (g l k).cells[j]? := fun j hj => by
      rw [row.cellAt (k * 3 + j) (by omega)]
      exact tcells_at _ _ _ (g_some hk) j hj
    exact ⟨b, e3, by rw [Ql.v, e3]; rfl, (hc 0 (by omega)).trans rfl, (hc 1 (by omega)).trans rfl, (hc 2 (by omega)).trans rfl⟩
/-- only the map has turned -/
theorem Qu.remap (h : Qu w L l ns) {ns' : List ByteArray} {F : ByteArray → Option Nat} (hg : w.grownBy w' (some L.mb)) (hm : Mp w' L.mb ns'.length F) (hi : Ix ns' F) (hs : ∀ s ∈ ns', s.size ≤ maxLen) (hn : ns'.length ≤ 65) : Qu w' L l ns' := by
  have hb : ∀ k, k < w.heap.size → k ≠ L.mb → w'.heap[k]? = w.heap[k]? := fun k hk hn => hg.block k hk (fun e => hn (Option.some.inj e))
  have eQ := hb L.Q h.ltQ h.mQ.symm
  have c : ∀ o, w'.cell? ⟨L.Q, o, none⟩ = w.cell? ⟨L.Q, o, none⟩ := fun o => World.cell?_of_block (a := ⟨L.Q, o, none⟩) eQ
  exact ⟨(c 0).trans h.c0, (c 1).trans h.c1, fun o => (World.frozen?_of_block (a := ⟨L.Q, o, none⟩) eQ).trans (h.f o), row_same h.row (fun k hk => hb k (h.row.lt k hk).2 (fun e => h.vM (e ▸ hk))), h.len, ⟨F, hm, hi⟩, h.v1, hs, ⟨h.most.1, hn⟩⟩
/-- one timer has another in its place -/
theorem Qu.put {b : Nat} (h : Qu w L l ns) (ea : L.av = some ⟨b, 0, none⟩) {k : Nat} (hk : k < l.length) (t : Tm) : Qu (w.setCells b (k * 3) t.cells) L (l.set k t) ns ∧ w.grownBy (w.setCells b (k * 3) t.cells) (some b) := by
  have hg := setCells_grown b t.cells (k * 3) w
  refine ⟨?_, hg⟩
  have eo : (Value.slice L.av L.m L.cv).ownBlock = some b := by rw [ea]; rfl
  have hb : ∀ q, q < w.heap.size → q ≠ b → (w.setCells b (k * 3) t.cells).heap[q]? = w.heap[q]? := fun q hq hn => hg.block q hq (fun e => hn (Option.some.inj e))
  have eQ := hb L.Q h.ltQ (fun e => h.v1 (by rw [e]; exact eo))
  have c : ∀ o, (w.setCells b (k * 3) t.cells).cell? ⟨L.Q, o, none⟩ = w.cell? ⟨L.Q, o, none⟩ := fun o => World.cell?_of_block (a := ⟨L.Q, o, none⟩) eQ
  obtain ⟨F, hm, hi⟩ := h.mp
  have hl := h.len
  refine ⟨(c 0).trans h.c0, (c 1).trans h.c1, fun o => (World.frozen?_of_block (a := ⟨L.Q, o, none⟩) eQ).trans (h.f o), ?_, by simpa using h.len, ⟨F, hm.same (hb _ h.ltM (fun e => h.vM (by rw [e]; exact eo))), hi⟩, h.v1, h.sz, by simpa using h.most⟩
  obtain ⟨hx, ⟨e1, e2⟩ | ⟨g', cp, cur, e1, e2, e3, e4, e5, e6, e7⟩⟩ := h.row
  · rw [ea] at e1; cases e1
  · rw [ea] at e1 ⊢
    obtain ⟨rfl, rfl⟩ : b = g' ∧ L.cv = cp := by simpa using e1
    obtain ⟨c1, a1, a2, a3⟩ := setCells_at b 54 t.cells (k * 3) w cur e3 (by rw [e6]; simp [Tm.cells]; omega)
    refine ⟨by rw [tcells_length]; simp; omega, .inr ⟨b, L.cv, c1, rfl, e2, a1, e4, e5, by rw [a2, e6], ?_⟩⟩
    apply List.ext_getElem?
    intro j
    have hat : j < L.m * 3 → cur[j]? = (tcells l)[j]? := fun hj => by
      rw [← e7, List.getElem?_take, if_pos hj]; simp
    rw [List.getElem?_take, tcells_set l k t hk]
    by_cases hj : j < L.m * 3
    · rw [if_pos hj, Array.getElem?_toList, a3, show t.cells.length = 3 from rfl]
      by_cases h3 : k * 3 ≤ j ∧ j < k * 3 + 3
      · rw [if_pos h3, if_pos h3]
      · rw [if_neg h3, if_neg h3, hat hj]
    · rw [if_neg hj, if_neg (by omega), List.getElem?_eq_none (by rw [tcells_length]; omega)]
end
/-- what a call leaves that keeps the blocks -/
def QS (w : World) (L : Ql) (l : List Tm) (ns : List ByteArray) (w' : World) : Prop := Chg L.M w w' ∧ Qu w' L l ns
/-- what a call leaves: its blocks those of before, or new ones -/
def QMv (w : World) (L : Ql) (l : List Tm) (ns : List ByteArray) (w' : World) : Prop := Chg L.M w w' ∧ ∃ L', Qu w' L' l ns ∧ L'.Q = L.Q ∧ ∀ k, L'.M k → L.M k ∨ w.heap.size ≤ k
theorem QS.stay {w : World} {L : Ql} {l : List Tm} {ns : List ByteArray} (h : Qu w L l ns) : QS w L l ns w := ⟨Chg.refl _ _, h⟩
theorem QS.mv {w w' : World} {L : Ql} {l : List Tm} {ns : List ByteArray} (h : QS w L l ns w') : QMv w L l ns w' := ⟨h.1, L, h.2, rfl, fun k hk => .inl hk⟩
theorem QS.trans {w w1 w2 : World} {L : Ql} {l1 l2 : List Tm} {n1 n2 : List ByteArray} (h : QS w L l1 n1 w1) (h' : QS w1 L l2 n2 w2) : QS w L l2 n2 w2 := ⟨h.1.trans h'.1 (fun k _ hk => hk), h'.2⟩
theorem QS.below {w w' : World} {L : Ql} {l : List Tm} {ns : List ByteArray} (h : Qu w L l ns) (hb : Below w.heap.size w w') : QS w L l ns w' := ⟨Chg.of_below hb _, h.below hb⟩
theorem QMv.trans {w w1 w2 : World} {L : Ql} {l1 l2 : List Tm} {n1 n2 : List ByteArray} (h : QMv w L l1 n1 w1) (h' : ∀ L', Qu w1 L' l1 n1 → L'.Q = L.Q → QMv w1 L' l2 n2 w2) : QMv w L l2 n2 w2 := by
  obtain ⟨hc, L1, h1, e1, m1⟩ := h
  obtain ⟨hc2, L2, h2, e2, m2⟩ := h' L1 h1 e1
  refine ⟨hc.trans hc2 (fun k hk hm => by rcases m1 k hm with h | h; exact h; omega), L2, h2, e2.trans e1, fun k hk => ?_⟩
  rcases m2 k hk with h | h
  · exact m1 k h
  · exact .inr (Nat.le_trans hc.size h)
end Go.Proofs.Ytoganfdpaagomaa
