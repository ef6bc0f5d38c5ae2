/- A list of numbers of one kind that came in, or that the call made: what is known of it, and that it stays where nothing old is written. No condition. -/
import Derived.Test.YtanfmpeblhegpaaDoorBase
import Derived.Test.YtanfmpeblhegpaaDoorHeld
import Derived.ShutString
import Derived.ChangeOld
import Derived.Laws.OwnMore
import Derived.SizedLaws
import Derived.Laws.AppendOwnNone
namespace Go.Proofs.YtanfmpeblhegpaaDoor
namespace I8
open Go.ChangeShapes Go.WideShapes Go.ChangeAt Go.RowKit
set_option linter.unusedVariables false

theorem info : (Tryd.prog.info? 3).map (fun i => (i.zero, i.size, i.bytes)) = some (some (.int .i64 0), 1, 8) := by kernel_rfl

/-- the numbers are of the kind -/
def wfs (zs : List Int) : Prop := ∀ j : Nat, (Lit.int .i64 (zs[j]?.getD 0)).wf = true
/-- numbers as cells -/
def vals (zs : List Int) : List Value := zs.map (Value.int .i64)

/-- the slice at a, of so many elements, has the numbers zs in the world w -/
structure Sq (w : World) (a : Option Addr) (len cap : Nat) (zs : List Int) : Prop where
  length : zs.length = len
  lecap : len ≤ cap
  nil : a = none → cap = 0
  cells : 0 < len → ∃ b off, a = some ⟨b, off, none⟩ ∧ ∀ j, j < len → w.cell? ⟨b, off + j, none⟩ = some (.int .i64 (zs[j]?.getD 0))
  wf : wfs zs

theorem Sq.below {w w' : World} {a : Option Addr} {len cap : Nat} {zs : List Int} (h : Sq w a len cap zs) (hb : Below w.heap.size w w') : Sq w' a len cap zs :=
  ⟨h.length, h.lecap, h.nil, fun h0 => by
    obtain ⟨b, off, e, hc⟩ := h.cells h0
    exact ⟨b, off, e, fun j hj => (hb.cell (World.block_lt_of_cell? w _ (hc j hj))).trans (hc j hj)⟩, h.wf⟩
theorem Sq.drew {w : World} {a : Option Addr} {len cap : Nat} {zs : List Int} (h : Sq w a len cap zs) (n : Nat) : Sq (w.drewN n) a len cap zs :=
  ⟨h.length, h.lecap, h.nil, h.cells, h.wf⟩

set_option maxRecDepth 100000 in
theorem open_sq_sized {H : Type} {enc : TypeId × Value → H} {W : World} {r : Reach} {base b0 : Nat} {held : Bool} {v : Value} {d : DataW H} {p : List MemPlace}
    (hv : Value.okWide Tryd.prog W r base 40 v) (h : DataW.Trod enc Tryd.prog W b0 (fun _ => true) held 40 v d p)
    (hw : ∀ elems spare, d = .slice elems spare → (elems.length + spare.length) * Tryd.prog.bytesOf 3 ≤ reachBytes) :
    ∃ (a : Option Addr) (len cap : Nat) (zs : List Int), v = .slice a len cap ∧ Sq W a len cap zs ∧ cap * 8 ≤ 140737488351232 := by
  obtain ⟨a, len, cap, rfl⟩ := okWide_slice Tryd.underlying40 hv
  obtain ⟨fuel, hf⟩ := h
  rcases open_ints Tryd.underlying40 Tryd.underlying3 (by kernel_rfl) hf with ⟨hcs, _⟩ | ⟨x, l, c, zs, hcs, _, hl, hm, hz, hx, hcell, hwz⟩
  · simp [Value.cells] at hcs
    obtain ⟨rfl, rfl, rfl⟩ := hcs
    exact ⟨_, _, _, [], rfl, ⟨rfl, Nat.le_refl _, fun _ => rfl, fun h => absurd h (by omega), fun j => by simp; decide⟩, by omega⟩
  · simp [Value.cells] at hcs
    obtain ⟨rfl, rfl, rfl⟩ := hcs
    simp only [if_true] at hz
    simp only [Prod.mk.injEq] at hx
    have hw' := hw _ _ hx.1
    rw [show Tryd.prog.bytesOf 3 = 8 from by kernel_rfl] at hw'
    simp only [lits, List.length_map, List.length_take, List.length_drop, reachBytes] at hw'
    refine ⟨_, _, _, zs.take len, rfl, ⟨by simp; omega, hl, fun h => absurd h (by simp), fun h0 => ?_, ?_⟩, by omega⟩
    · obtain ⟨b, off, spot⟩ := x
      have hc0 := hcell 0 (by omega)
      have hspot : spot = none := by simpa [Addr.add] using World.cell?_spot hc0
      subst hspot
      refine ⟨b, off, rfl, fun j hj => ?_⟩
      have := hcell j (by omega)
      rw [Addr.add_lit] at this
      simpa [List.getElem?_take, hj, List.getD] using this
    · intro j
      by_cases hj : j < (zs.take len).length
      · have hm : (zs.take len)[j] ∈ zs := List.mem_of_mem_take (List.getElem_mem hj)
        rw [List.getElem?_eq_getElem hj]; exact hwz _ hm
      · rw [List.getElem?_eq_none (Nat.le_of_not_lt hj)]
        decide

/-- a row that the call itself made, as a list -/
theorem sq_row {w : World} {B len : Nat} {zs : List Int} {v : Value} (hl : zs.length = len) (h0 : 0 < len) (hi : wfs zs)
    (h : w.ownsRow B 3 1 v len (vals zs)) : ∃ g cp, v = .slice (some ⟨g, 0, none⟩) len cp ∧ B ≤ g ∧ Sq w (some ⟨g, 0, none⟩) len cp zs := by
  have h' := h
  obtain ⟨_, ⟨_, h2⟩ | ⟨g, cp, cur, rfl, h3, h4, h5, h6, h7, h8⟩⟩ := h
  · omega
  · refine ⟨g, cp, rfl, h3, hl, h5, fun h => absurd h (by simp), fun _ => ⟨g, 0, rfl, fun j hj => ?_⟩, hi⟩
    rw [Nat.zero_add, h'.cellAt j (by omega)]
    have hj' : j < zs.length := by omega
    simp [vals, hj']

/-- the same, whatever its length -/
theorem sq_of_row {w : World} {B len : Nat} {zs : List Int} {v : Value} (hl : zs.length = len) (hi : wfs zs)
    (h : w.ownsRow B 3 1 v len (vals zs)) : ∃ a cp, v = .slice a len cp ∧ Sq w a len cp zs := by
  have h' := h
  obtain ⟨_, ⟨h1, h2⟩ | ⟨g, cp, cur, rfl, h3, h4, h5, h6, h7, h8⟩⟩ := h
  · subst h2
    exact ⟨none, 0, h1, hl, Nat.le_refl _, fun _ => rfl, fun h => absurd h (by omega), hi⟩
  · refine ⟨_, cp, rfl, hl, h5, fun h => absurd h (by simp), fun _ => ⟨g, 0, rfl, fun j hj => ?_⟩, hi⟩
    rw [Nat.zero_add, h'.cellAt j (by omega)]
    have hj' : j < zs.length := by omega
    simp [vals, hj']
/-- a new block of cells, as a row of its own -/
theorem row_new (w : World) (B : Nat) (hB : B ≤ w.heap.size) (cs : Array Value) (hc : cs.size ≤ maxLen) :
    (w.alloc (.cells cs 3)).ownsRow B 3 1 (.slice (some ⟨w.heap.size, 0, none⟩) cs.size cs.size) cs.size cs.toList := by
  refine ⟨by simp, .inr ⟨w.heap.size, cs.size, cs, rfl, hB, heap_alloc_new w _, Nat.le_refl _, hc, by simp, by rw [Nat.mul_one, ← Array.length_toList]; exact List.take_length⟩⟩

theorem wfs_take {zs : List Int} (h : wfs zs) (k : Nat) : wfs (zs.take k) := by
  intro j
  by_cases hj : j < k
  · have := h j
    rw [List.getElem?_take, if_pos hj]
    exact this
  · rw [List.getElem?_take, if_neg hj]
    decide
theorem wfs_drop {zs : List Int} (h : wfs zs) (k : Nat) : wfs (zs.drop k) := by
  intro j
  rw [List.getElem?_drop]
  exact h (k + j)
theorem wfs_append {zs ys : List Int} (h : wfs zs) (h' : wfs ys) : wfs (zs ++ ys) := by
  intro j
  by_cases hj : j < zs.length
  · rw [List.getElem?_append_left hj]; exact h j
  · rw [List.getElem?_append_right (by omega)]; exact h' _
theorem wfs_cons {z : Int} {zs : List Int} (h : (Lit.int .i64 z).wf = true) (h' : wfs zs) : wfs (z :: zs) := by
  intro j
  match j with
  | 0 => exact h
  | j + 1 => exact h' j
theorem wfs_nil : wfs [] := fun j => by simp; decide

theorem Sq.take {w : World} {b off len cap : Nat} {zs : List Int} (h : Sq w (some ⟨b, off, none⟩) len cap zs) (kk : Nat) (hk : kk ≤ len) : Sq w (some ⟨b, off, none⟩) kk cap (zs.take kk) := by
  refine ⟨by have := h.length; simp; omega, by have := h.lecap; omega, fun h => absurd h (by simp), fun h0 => ?_, wfs_take h.wf kk⟩
  obtain ⟨b', off', e, hc⟩ := h.cells (by omega)
  refine ⟨b', off', e, fun j hj => ?_⟩
  rw [hc j (by omega), List.getElem?_take, if_pos hj]
theorem Sq.drop {w : World} {b off len cap : Nat} {zs : List Int} (h : Sq w (some ⟨b, off, none⟩) len cap zs) (kk : Nat) (hk : kk ≤ len) (a : Option Addr) (hn : a = none → cap - kk = 0) (ha : kk < len → a = some ⟨b, off + kk, none⟩) : Sq w a (len - kk) (cap - kk) (zs.drop kk) := by
  refine ⟨by have := h.length; simp; omega, by have := h.lecap; omega, hn, fun h0 => ⟨b, off + kk, ha (by omega), fun j hj => ?_⟩, wfs_drop h.wf kk⟩
  obtain ⟨b', off', e, hc⟩ := h.cells (by omega)
  obtain ⟨rfl, rfl⟩ : b = b' ∧ off = off' := by simpa using e
  rw [Nat.add_assoc, hc (kk + j) (by omega), List.getElem?_drop]

/-- what a list's cells are, as the laws on append ask -/
theorem Sq.news {w : World} {a : Option Addr} {len cap : Nat} {zs : List Int} (h : Sq w a len cap zs) : ∀ ad, a = some ad → ∀ j u, (vals zs)[j]? = some u → w.cell? (ad.add j) = some u := by
  intro ad e j u hu
  have hj : j < len := by
    have h1 := (List.getElem?_eq_some_iff.1 hu).1
    have h2 := h.length
    simp [vals] at h1
    omega
  obtain ⟨b, off, e2, hc⟩ := h.cells (by omega)
  rw [e] at e2
  obtain rfl := Option.some.inj e2
  rw [Addr.add_lit, hc j hj]
  have h2 := h.length
  have hj' : j < zs.length := by omega
  simpa [vals, hj'] using hu
theorem Sq.valsLength {w : World} {a : Option Addr} {len cap : Nat} {zs : List Int} (h : Sq w a len cap zs) : (vals zs).length = len * 1 := by have := h.length; simp [vals]; omega
theorem Sq.noAddr {w : World} {a : Option Addr} {len cap : Nat} {zs : List Int} (h : Sq w a len cap zs) : a = none → len = 0 ∧ cap = 0 := fun e => by have := h.nil e; have := h.lecap; omega
theorem vals_append (zs ys : List Int) : vals (zs ++ ys) = vals zs ++ vals ys := List.map_append
theorem vals_one (zs : List Int) : ∀ u ∈ vals zs, u.oneCell' = true := ints_oneCell _ _

theorem row_below {w w' : World} {B n : Nat} {v : Value} {xs : List Value} (h : w.ownsRow B 3 1 v n xs) (hb : Below w.heap.size w w') : w'.ownsRow B 3 1 v n xs := by
  obtain ⟨hl, h | ⟨g, cp, cur, h1, h2, h3, h4, h5, h6, h7⟩⟩ := h
  · exact ⟨hl, .inl h⟩
  · refine ⟨hl, .inr ⟨g, cp, cur, h1, h2, ?_, h4, h5, h6, h7⟩⟩
    rw [hb.block g (by rcases Nat.lt_or_ge g w.heap.size with h | h; exact h; rw [Array.getElem?_eq_none h] at h3; cases h3)]
    exact h3
theorem row_base {w : World} {B B' n : Nat} {v : Value} {xs : List Value} (h : w.ownsRow B 3 1 v n xs) (hB : B' ≤ B) : w.ownsRow B' 3 1 v n xs := by
  obtain ⟨hl, h | ⟨g, cp, cur, h1, h2, h3⟩⟩ := h
  · exact ⟨hl, .inl h⟩
  · exact ⟨hl, .inr ⟨g, cp, cur, h1, Nat.le_trans hB h2, h3⟩⟩
theorem below_grown {w W W' : World} {B n : Nat} {v : Value} {xs : List Value} (h : Below w.heap.size w W) (hown : W.ownsRow B 3 1 v n xs) (hB : w.heap.size ≤ B) (hg : W.grownBy W' v.ownBlock) : Below w.heap.size w W' :=
  h.grown hg h.size (fun k hk => Nat.le_trans hB (hown.lt k hk).1)

theorem grownBy_refl (w : World) (row : Option Nat) : w.grownBy w row := World.grownBy.refl w row

/-- append(s, x...): s a row of the call's own (or nil), x whatever list -/
theorem wp_append_sq {ops : Array Oper} {rest : List Oper} {o : Oper} {act : Act} {Q : Exit → Act → World → Prop} (w : World) (hg : o.guard = none) (s x : Operand)
    (hop : o.op = Op.call { callee := Callee.builtin Builtin.append, args := #[s, x], argTypes := #[40, 40] })
    (B : Nat) (v : Value) (n : Nat) (zs : List Int) (hs : act.eval s = v) (hown : w.ownsRow B 3 1 v n (vals zs))
    (a : Option Addr) (m c : Nat) (bs : List Int) (hx : act.eval x = .slice a m c) (hsq : Sq w a m c bs) (hr : (n + m) * 8 ≤ 140737488355328) (hB : B ≤ w.heap.size)
    (hK : ∀ v' w', w'.ownsRow B 3 1 v' (n + m) (vals (zs ++ bs)) → w.grownBy w' v.ownBlock → wpList Tryd.prog ops Q rest (act.put o.dst v') w') :
    wpList Tryd.prog ops Q (o :: rest) act w := by
  obtain ⟨i0, hi, hz0, hz1, hz2⟩ := info_parts info
  cases a with
  | none =>
    obtain ⟨rfl, rfl⟩ := hsq.noAddr rfl
    have hb : bs = [] := List.eq_nil_of_length_eq_zero hsq.length
    subst hb
    refine wpList_append_own_none hg s x 40 hop B 3 i0 1 Tryd.underlying40 hi v n (vals zs) hs hown hx ?_
    refine hK v w ?_ (grownBy_refl _ _)
    rw [List.append_nil]
    exact hown
  | some ad =>
    refine wpList_append_own w hg s x 40 hop B 3 i0 (.int .i64 0) 1 8 Tryd.underlying40 hi hz0 hz1 hz2 rfl (by decide) v n (vals zs) hs hown ad m c (vals bs) hx hsq.valsLength (hsq.news ad rfl) (vals_one _) (by unfold maxLen; omega) (by omega) hB ?_
    intro v' w' h1 h2 _
    refine hK v' w' ?_ h2
    rw [vals_append]
    exact h1
end I8
end Go.Proofs.YtanfmpeblhegpaaDoor
