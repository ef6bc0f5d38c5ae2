/- Promises and entries in memory: lists that can be read, lists of the call's own, one more appended. No condition. -/
import Derived.Test.YtjhkenmlaammnaaChoMath
import Derived.Test.YtjhkenmlaammnaaAccTell
import Derived.Test.YtjhkenmlaammnaaAccOps
namespace Go.Proofs.Ytjhkenmlaammnaa
open Go.ChangeShapes Go.WideShapes Go.ChangeAt Go.RowKit B8 Am Cz
set_option linter.unusedVariables false

/-- a row of structs of the call's own, one more: an append by its run, behind the block that the walk makes -/
theorem row_add {t ty T : TypeId} {i : TypeInfo} {z : Value} {size bytes : Nat} (ht : Try.prog.underlying t = some (.slice T)) (hi : Try.prog.info? T = some i) (hz : i.zero = some z) (hs : i.size = size) (hby : i.bytes = bytes) (hzs : z.cells.size = size) (h0 : 0 < size)
    {w : World} {B : Nat} {a : Option Addr} {m c : Nat} {xs : List Value} (h : w.ownsRow B T size (.slice a m c) m xs) (cs : Array Value) (hc : cs.size = size) (h1 : ∀ u ∈ cs, u.oneCell' = true) (hm : m ≤ 9000000000000) (hm2 : (m + 1 + (m + 1) / 4 + 192) * bytes ≤ 281474976710656) (hB : B ≤ w.heap.size) :
    ∃ g cp w', (Builtin.append_ #[t, t] ty #[.slice a m c, .slice (some ⟨w.heap.size, 0, none⟩) 1 1]).run Try.prog (w.alloc (.cells cs T)) = .ok (.slice (some ⟨g, 0, none⟩) (m + 1) cp) w'
      ∧ w'.ownsRow B T size (.slice (some ⟨g, 0, none⟩) (m + 1) cp) (m + 1) (xs ++ cs.toList) ∧ Chg (fun k => (Value.slice a m c).ownBlock = some k) w w' ∧ Below B w w' ∧ ((Value.slice a m c).ownBlock = some g ∨ w.heap.size ≤ g) := by
  have hnew := heap_alloc_new w (.cells cs T)
  have hrow := h.alloc (.cells cs T)
  have hch := (Chg.refl (fun k => (Value.slice a m c).ownBlock = some k) w).alloc (.cells cs T)
  generalize w.alloc (.cells cs T) = w1 at hnew hrow hch ⊢
  have hcell : ∀ j u, cs.toList[j]? = some u → w1.cell? ((⟨w.heap.size, 0, none⟩ : Addr).add j) = some u := fun j u hu => by
    rw [Addr.add_lit, Nat.zero_add, cell_of_row _ _ _ _ _ _ hnew]
    simpa using hu
  obtain ⟨g, cp, wn, hr, ho, hg, hloc⟩ := run_append_where (P := Try.prog) w1 B t ty T i z size bytes ht hi hz hs hby hzs h0 a m c xs hrow
    ⟨w.heap.size, 0, none⟩ 1 1 cs.toList (by simp [hc]) hcell (fun u hu => h1 u (by simpa using hu)) (by omega) (by unfold maxLen; omega) hm2 (Nat.le_trans hB hch.size)
  have hcg := hch.grown hg (fun k hk => .inl hk)
  refine ⟨g, cp, wn, hr, ho, hcg, hcg.below hB (fun k hk => (h.lt k hk).1), ?_⟩
  rcases hloc with e | e
  · exact .inl e
  · exact .inr (by rw [e]; exact hch.size)

/-- votes that can be read at a slice -/
structure Vs (w : World) (a : Option Addr) (m : Nat) (l : List Vv) : Prop where
  len : l.length = m
  cells : 0 < m → ∃ b off, a = some ⟨b, off, none⟩ ∧ b < w.heap.size ∧ ∀ j p, l[j]? = some p → w.rangeAt b (off + j * 4) p.cells
  each : ∀ p ∈ l, Sq w p.a p.m p.cp p.b ∧ p.m ≤ 140737488351232
  room : m * 48 ≤ 140737488351232
theorem vs_nil (w : World) : Vs w none 0 [] := ⟨rfl, fun h => absurd h (by omega), fun p hp => absurd hp (by simp), by omega⟩
theorem Vs.below {w w' : World} {a : Option Addr} {m : Nat} {l : List Vv} (h : Vs w a m l) (hb : Below w.heap.size w w') : Vs w' a m l :=
  ⟨h.len, fun h0 => by
    obtain ⟨b, off, e, hl, hc⟩ := h.cells h0
    exact ⟨b, off, e, Nat.lt_of_lt_of_le hl hb.size, fun j p hj => rangeAt_same (hc j p hj) (hb.block b hl)⟩, fun p hp => ⟨(h.each p hp).1.below hb, (h.each p hp).2⟩, h.room⟩
/-- the k-th vote's cells -/
theorem Vs.at {w : World} {a : Option Addr} {m : Nat} {l : List Vv} (h : Vs w a m l) {k : Nat} (hk : k < m) :
    ∃ b off p, a = some ⟨b, off, none⟩ ∧ b < w.heap.size ∧ l[k]? = some p ∧ p ∈ l ∧ w.cell? ⟨b, off + k * 4, none⟩ = some (.int .i64 p.s) ∧ w.cell? ⟨b, off + k * 4 + 1, none⟩ = some (.int .i64 p.r) ∧ w.cell? ⟨b, off + k * 4 + 2, none⟩ = some (.int .i64 p.n) ∧ w.cell? ⟨b, off + k * 4 + 3, none⟩ = some (.slice p.a p.m p.cp) := by
  obtain ⟨b, off, e, hb, hc⟩ := h.cells (by omega)
  have hl : k < l.length := by rw [h.len]; exact hk
  have hp : l[k]? = some l[k] := List.getElem?_eq_getElem hl
  have R := hc k _ hp
  have c0 := R 0 _ rfl
  simp only [Nat.add_zero] at c0
  exact ⟨b, off, l[k], e, hb, hp, List.getElem_mem hl, c0, R 1 _ rfl, R 2 _ rfl, R 3 _ rfl⟩
theorem Vl.vs {w : World} {B : Nat} {P : Nat → Prop} {a : Option Addr} {m c : Nat} {l : List Vv} (h : Vl w B P a m c l) (hm : ∀ p ∈ l, p.m ≤ 140737488351232) (hr : m * 48 ≤ 140737488351232) : Vs w a m l := by
  refine ⟨h.len, fun h0 => ?_, fun p hp => ⟨(h.ins p hp).1, hm p hp⟩, hr⟩
  have hl : 0 < l.length := by rw [h.len]; exact h0
  obtain ⟨b, e, _, hb, _⟩ := h.at (List.getElem?_eq_getElem hl)
  refine ⟨b, 0, e, hb, fun j p hj o v hv => ?_⟩
  obtain ⟨b', e', _, _, c0, c1, c2, c3⟩ := h.at hj
  rw [e] at e'
  obtain rfl : b = b' := by simpa using e'
  rw [Nat.zero_add]
  match o, hv with
  | 0, hv => rw [← hv]; exact c0
  | 1, hv => rw [← hv]; exact c1
  | 2, hv => rw [← hv]; exact c2
  | 3, hv => rw [← hv]; exact c3
/-- a promise as it lies -/
structure Pp where
  nd : Int
  a : Option Addr
  m : Nat
  c : Nat
  l : List Vv
def Pp.cells (p : Pp) : List Value := [.int .i64 p.nd, .slice p.a p.m p.c]
def Pp.pr (p : Pp) : Pr := ⟨p.nd, p.l.map Vv.vt⟩
/-- promises that can be read at a slice -/
structure Ps (w : World) (a : Option Addr) (m : Nat) (l : List Pp) : Prop where
  len : l.length = m
  cells : 0 < m → ∃ b off, a = some ⟨b, off, none⟩ ∧ b < w.heap.size ∧ ∀ j p, l[j]? = some p → w.rangeAt b (off + j * 2) p.cells
  each : ∀ p ∈ l, Vs w p.a p.m p.l ∧ (Lit.int .i64 p.nd).wf = true
  room : m * 32 ≤ 140737488351232
theorem ps_nil (w : World) : Ps w none 0 [] := ⟨rfl, fun h => absurd h (by omega), fun p hp => absurd hp (by simp), by omega⟩
theorem Ps.below {w w' : World} {a : Option Addr} {m : Nat} {l : List Pp} (h : Ps w a m l) (hb : Below w.heap.size w w') : Ps w' a m l :=
  ⟨h.len, fun h0 => by
    obtain ⟨b, off, e, hl, hc⟩ := h.cells h0
    exact ⟨b, off, e, Nat.lt_of_lt_of_le hl hb.size, fun j p hj => rangeAt_same (hc j p hj) (hb.block b hl)⟩, fun p hp => ⟨(h.each p hp).1.below hb, (h.each p hp).2⟩, h.room⟩
/-- the k-th promise's cells -/
theorem Ps.at {w : World} {a : Option Addr} {m : Nat} {l : List Pp} (h : Ps w a m l) {k : Nat} (hk : k < m) :
    ∃ b off p, a = some ⟨b, off, none⟩ ∧ b < w.heap.size ∧ l[k]? = some p ∧ p ∈ l ∧ w.cell? ⟨b, off + k * 2, none⟩ = some (.int .i64 p.nd) ∧ w.cell? ⟨b, off + k * 2 + 1, none⟩ = some (.slice p.a p.m p.c) := by
  obtain ⟨b, off, e, hb, hc⟩ := h.cells (by omega)
  have hl : k < l.length := by rw [h.len]; exact hk
  have hp : l[k]? = some l[k] := List.getElem?_eq_getElem hl
  have R := hc k _ hp
  have c0 := R 0 _ rfl
  simp only [Nat.add_zero] at c0
  exact ⟨b, off, l[k], e, hb, hp, List.getElem_mem hl, c0, R 1 _ rfl⟩
theorem take_snoc {α : Type} {l : List α} {k : Nat} {p : α} (h : l[k]? = some p) : l.take (k + 1) = l.take k ++ [p] := by
  rw [List.take_add_one, h]
  rfl

/-! entries -/
/-- an entry as it lies -/
structure Ev where
  s : Int
  a : Option Addr
  m : Nat
  cp : Nat
  b : List Int
def Ev.cells (p : Ev) : List Value := [.int .i64 p.s, .slice p.a p.m p.cp]
def Ev.ev (p : Ev) : Int × List Int := (p.s, p.b)
def ecells (l : List Ev) : List Value := l.flatMap Ev.cells
theorem ecells_append (l r : List Ev) : ecells (l ++ r) = ecells l ++ ecells r := by simp [ecells]
theorem ecells_length : ∀ (l : List Ev), (ecells l).length = l.length * 2
  | [] => rfl
  | p :: r => by show (p.cells ++ ecells r).length = _; rw [List.length_append, ecells_length r]; simp [Ev.cells]; omega
theorem ecells_at : ∀ (l : List Ev) (i : Nat) (p : Ev), l[i]? = some p → ∀ j, j < 2 → (ecells l)[i * 2 + j]? = p.cells[j]?
  | [], i, p, hx, _, _ => by simp at hx
  | y :: r, 0, p, hx, j, hj => by
    simp at hx
    subst hx
    show (y.cells ++ ecells r)[0 * 2 + j]? = _
    rw [List.getElem?_append_left (by simp [Ev.cells]; omega)]
    simp
  | y :: r, i + 1, p, hx, j, hj => by
    show (y.cells ++ ecells r)[(i + 1) * 2 + j]? = _
    rw [List.getElem?_append_right (by simp [Ev.cells]; omega), show (i + 1) * 2 + j - y.cells.length = i * 2 + j by simp [Ev.cells]; omega]
    exact ecells_at r i p (by simpa using hx) j hj
def zentry : Value := .agg #[.int .i64 0, .slice none 0 0]
theorem entryinfo : (Try.prog.info? 39).map (fun i => (i.zero, i.size, i.bytes)) = some (some zentry, 2, 32) := by kernel_rfl
theorem prominfo : (Try.prog.info? 36).map (fun i => (i.zero, i.size, i.bytes)) = some (some (.agg #[.int .i64 0, .slice none 0 0]), 2, 32) := by kernel_rfl
theorem intinfo : (Try.prog.info? 3).map (fun i => (i.zero, i.size, i.bytes)) = some (some (.int .i64 0), 1, 8) := by kernel_rfl
/-- a value of its own: bytes in a row from block B on -/
def Own (w : World) (B : Nat) (p : Ev) : Prop := (wfs p.b ∧ p.b.length = p.m ∧ p.m ≤ 140737488351232) ∧ w.ownsRow B 5 1 (.slice p.a p.m p.cp) p.m (B8.vals p.b)
theorem Own.below {w w' : World} {B : Nat} {p : Ev} (h : Own w B p) (hb : Below w.heap.size w w') : Own w' B p := ⟨h.1, row_same h.2 (fun k hk => hb.block k (h.2.lt k hk).2)⟩
theorem Own.base {w : World} {B B' : Nat} {p : Ev} (h : Own w B p) (hb : B' ≤ B) : Own w B' p := ⟨h.1, row_base h.2 hb⟩
theorem Own.sq {w : World} {B : Nat} {p : Ev} (h : Own w B p) : Sq w p.a p.m p.cp p.b := by
  obtain ⟨a2, c2, e, hq⟩ := sq_of_row h.1.2.1 h.1.1 h.2
  obtain ⟨rfl, rfl⟩ : p.a = a2 ∧ p.cp = c2 := by simpa using e
  exact hq
/-- a list of entries of its own, from block B on -/
structure Es (w : World) (B : Nat) (a : Option Addr) (m c : Nat) (l : List Ev) : Prop where
  row : w.ownsRow B 39 2 (.slice a m c) m (ecells l)
  len : l.length = m
  each : ∀ p ∈ l, Own w B p
theorem es_nil (w : World) (B : Nat) : Es w B none 0 0 [] := ⟨World.ownsRow_nil _ _ _ _, rfl, fun p hp => absurd hp (by simp)⟩
theorem isE {w : World} {B n k : Nat} {v : Value} {xs : List Value} (h : w.ownsRow B 39 2 v n xs) (hk : v.ownBlock = some k) : ∃ cs, w.heap[k]? = some (.cells cs 39 (0, 0)) := by
  obtain ⟨_, ⟨e, _⟩ | ⟨g, cp, cur, e, _, hg, _⟩⟩ := h
  · rw [e] at hk; cases hk
  · rw [e] at hk
    have : g = k := by simpa [Value.ownBlock] using hk
    exact ⟨_, this ▸ hg⟩
theorem not_eu {w : World} {B B' n n' k : Nat} {v v' : Value} {xs xs' : List Value} (h : w.ownsRow B 39 2 v n xs) (hk : v.ownBlock = some k) (h' : w.ownsRow B' 5 1 v' n' xs') (hk' : v'.ownBlock = some k) : False := by
  obtain ⟨cs, e⟩ := isE h hk
  obtain ⟨cs', e'⟩ := isU h' hk'
  rw [e] at e'
  simp at e'
section
variable {w w' : World} {B : Nat} {a : Option Addr} {m c : Nat} {l : List Ev}
theorem Es.below (h : Es w B a m c l) (hb : Below w.heap.size w w') : Es w' B a m c l := ⟨row_same h.row (fun k hk => hb.block k (h.row.lt k hk).2), h.len, fun p hp => (h.each p hp).below hb⟩
theorem Es.base {B' : Nat} (h : Es w B a m c l) (hb : B' ≤ B) : Es w B' a m c l := ⟨row_base h.row hb, h.len, fun p hp => (h.each p hp).base hb⟩
/-- the i-th entry's cells -/
theorem Es.at (h : Es w B a m c l) {i : Nat} {p : Ev} (hi : l[i]? = some p) :
    ∃ b, a = some ⟨b, 0, none⟩ ∧ B ≤ b ∧ b < w.heap.size ∧ w.cell? ⟨b, i * 2, none⟩ = some (.int .i64 p.s) ∧ w.cell? ⟨b, i * 2 + 1, none⟩ = some (.slice p.a p.m p.cp) := by
  have hl : i < l.length := (List.getElem?_eq_some_iff.1 hi).1
  have hlen := h.len
  obtain ⟨_, ⟨e, e2⟩ | ⟨g, cp, cur, e, hB, hg, _⟩⟩ := id h.row
  · omega
  · obtain ⟨e1, e3⟩ : a = some ⟨g, 0, none⟩ ∧ c = cp := by simpa using e
    have row := h.row
    rw [e1] at row
    have hc : ∀ j, j < 2 → w.cell? ⟨g, i * 2 + j, none⟩ = p.cells[j]? := fun j hj => by
      rw [row.cellAt (i * 2 + j) (by omega)]
      exact ecells_at _ _ _ hi j hj
    exact ⟨g, e1, hB, (Array.getElem?_eq_some_iff.1 hg).1, (hc 0 (by omega)).trans rfl, (hc 1 (by omega)).trans rfl⟩
theorem es_add (h : Es w B a m c l) (hm : m ≤ 4000000) (hB : B ≤ w.heap.size) {p : Ev} (hp : Own w B p) (ty : TypeId) :
    ∃ g cp w', (Builtin.append_ #[24, 24] ty #[.slice a m c, .slice (some ⟨w.heap.size, 0, none⟩) 1 1]).run Try.prog (w.alloc (.cells #[.int .i64 p.s, .slice p.a p.m p.cp] 39)) = .ok (.slice (some ⟨g, 0, none⟩) (m + 1) cp) w'
      ∧ Es w' B (some ⟨g, 0, none⟩) (m + 1) cp (l ++ [p]) ∧ Below B w w' := by
  obtain ⟨i0, hi, hz0, hz1, hz2⟩ := info_parts entryinfo
  obtain ⟨g, cp, w', hr, ho, hc, hb, _⟩ := row_add (ty := ty) Try.underlying24 hi hz0 hz1 hz2 rfl (by omega) h.row #[.int .i64 p.s, .slice p.a p.m p.cp] rfl (fun u hu => by simp at hu; rcases hu with rfl | rfl <;> rfl) (by omega) (by omega) hB
  refine ⟨g, cp, w', hr, ⟨?_, by simp [h.len], fun q hq => ?_⟩, hb⟩
  · rw [ecells_append]
    exact ho
  · have hq' : Own w B q := by
      have : q ∈ l ∨ q = p := by simpa using hq
      rcases this with hq | rfl
      · exact h.each q hq
      · exact hp
    exact ⟨hq'.1, row_same hq'.2 (fun k hk => hc.block k (hq'.2.lt k hk).2 (fun e2 => not_eu h.row e2 hq'.2 hk))⟩
end
end Go.Proofs.Ytjhkenmlaammnaa
