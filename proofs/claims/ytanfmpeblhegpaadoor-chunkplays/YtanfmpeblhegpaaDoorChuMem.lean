/- A box in memory: its three cells, its map of bytes; pieces, and lists of them. No condition. -/
import Derived.Test.YtanfmpeblhegpaaDoorChuMath
import Derived.Test.YtanfmpeblhegpaaDoorChgMem
import Derived.Test.YtanfmpeblhegpaaDoorSq8
import Derived.Test.YtanfmpeblhegpaaDoorSqI
import Derived.Maps.OwnSet
import Derived.Maps.RangeWalk
namespace Go.Proofs.YtanfmpeblhegpaaDoor
open Go.ChangeShapes Go.WideShapes Go.ChangeAt Go.RowKit B8 Ck
set_option linter.unusedVariables false

/-- no byte lies in this block -/
def NoB (w : World) (k : Nat) : Prop := ∀ o x, w.cell? ⟨k, o, none⟩ ≠ some (.int .u8 x)
/-- bytes that can be read, in a block of P -/
def Bi (w : World) (P : Nat → Prop) (a : Option Addr) (m cp : Nat) (b : List Int) : Prop := Sq w a m cp b ∧ (0 < m → ∀ ad, a = some ad → P ad.block)
section
variable {w w' : World} {P Q M : Nat → Prop} {a : Option Addr} {m cp : Nat} {b : List Int}
theorem Bi.same (h : Bi w P a m cp b) (hb : 0 < m → ∀ ad, a = some ad → w'.heap[ad.block]? = w.heap[ad.block]?) : Bi w' P a m cp b := by
  refine ⟨⟨h.1.length, h.1.lecap, h.1.nil, fun h0 => ?_, h.1.wf⟩, h.2⟩
  obtain ⟨g, off, e, hc⟩ := h.1.cells h0
  exact ⟨g, off, e, fun j hj => (World.cell?_of_block (w := w) (w' := w') (a := ⟨g, off + j, none⟩) (hb h0 ⟨g, off, none⟩ e)).trans (hc j hj)⟩
theorem Bi.lt (h : Bi w P a m cp b) : 0 < m → ∀ ad, a = some ad → ad.block < w.heap.size := fun h0 ad e => by
  obtain ⟨g, off, e2, hc⟩ := h.1.cells h0
  rw [e] at e2
  cases e2
  exact World.block_lt_of_cell? w _ (hc 0 h0)
theorem Bi.below (h : Bi w P a m cp b) (hb : Below w.heap.size w w') : Bi w' P a m cp b := ⟨h.1.below hb, h.2⟩
theorem Bi.mono (h : Bi w P a m cp b) (hq : ∀ k, P k → k < w.heap.size → Q k) : Bi w Q a m cp b := ⟨h.1, fun h0 ad e => hq _ (h.2 h0 ad e) (h.lt h0 ad e)⟩
theorem Bi.chg (h : Bi w P a m cp b) (hc : Chg M w w') (hM : ∀ k, M k → ¬ P k ∨ NoB w k) : Bi w' P a m cp b := h.same (fun h0 ad e => hc.block _ (h.lt h0 ad e) (fun hm => by
  rcases hM _ hm with hn | hn
  · exact hn (h.2 h0 ad e)
  · obtain ⟨g, off, e2, hb⟩ := h.1.cells h0
    rw [e] at e2
    cases e2
    exact hn _ _ (hb 0 h0)))
theorem bi_any (h : Sq w a m cp b) : Bi w (fun _ => True) a m cp b := ⟨h, fun _ _ _ => trivial⟩
theorem NoB.of_row {cs : Array Value} {t : TypeId} {k : Nat} (h : w.heap[k]? = some (.cells cs t (0, 0))) (hc : ∀ v ∈ cs, ∀ x, v ≠ .int .u8 x) : NoB w k := fun o x e => by
  rw [cell_of_row _ _ _ _ _ _ h] at e
  obtain ⟨h1, h2⟩ := Array.getElem?_eq_some_iff.1 e
  exact hc _ (Array.getElem_mem h1) x h2
theorem NoB.of_map {es : Array MapEntry} {c k : Nat} (h : w.heap[k]? = some (.map es c)) : NoB w k := fun o x e => by simp [World.cell?, h] at e
/-- a row of bytes of the call's own -/
theorem bi_row {B : Nat} (hl : b.length = m) (hw : wfs b) (h : w.ownsRow B 5 1 (.slice a m cp) m (B8.vals b)) (hP : ∀ k, B ≤ k → P k) : Bi w P a m cp b := by
  obtain ⟨a2, c2, e, hq⟩ := sq_of_row hl hw h
  obtain ⟨rfl, rfl⟩ : a = a2 ∧ cp = c2 := by simpa using e
  exact ⟨hq, fun _ ad e => by subst e; exact hP _ (h.lt _ rfl).1⟩
end

/-! the map of bytes -/
def held : Value → Option (DataW Value × List MemPlace) := fun v => some (.held v, [])
def ikey (s : Int) : Lit := .int .i64 s
theorem intKeyed : Maps.Keyed Tryd.prog 3 := Maps.int_keyed Tryd.underlying3
theorem wf64 {a : Int} (h1 : -9223372036854775808 ≤ a) (h2 : a ≤ 9223372036854775807) : (Lit.int .i64 a).wf = true := WalkArith.wf_i64 ⟨h1, h2⟩
theorem keyOf_i {s : Int} (h : (Lit.int .i64 s).wf = true) : keyOf Tryd.prog 3 (.int .i64 s) = some (ikey s) := Maps.keyOf_int_mk Tryd.underlying3 h
theorem ikey_inj {s t : Int} (h : ikey s = ikey t) : s = t := by simpa [ikey] using h
/-- some bytes by their number, as they lie -/
structure Qv where
  k : Int
  a : Option Addr
  m : Nat
  cp : Nat
  b : List Int
def Qv.val (q : Qv) : Value := .slice q.a q.m q.cp
def Qv.kb (q : Qv) : Int × List Int := (q.k, q.b)
def Qv.In (w : World) (P : Nat → Prop) (q : Qv) : Prop := Bi w P q.a q.m q.cp q.b
structure Has (D : DataW Value) (l : List Qv) : Prop where
  keys : ∀ kl, Maps.has D kl = true ↔ ∃ v ∈ l, kl = ikey v.k
  vals : ∀ v ∈ l, ∀ zd, D.atKey (ikey v.k) zd = .held v.val
theorem has_nil : Has (.map []) [] := ⟨fun kl => by simp [Maps.has], fun v hv => absurd hv (by simp)⟩
theorem Has.size {D : DataW Value} {l : List Qv} (h : Has D l) (ht : Maps.Tidy D) (hk : ∀ es, D = .map es → ∀ p ∈ es, WideAt.IsKeyLit p.1) (hl : l.Pairwise (fun a b => a.k < b.k)) : Maps.size D = l.length := by
  obtain ⟨es, rfl, hp⟩ := ht
  show es.length = l.length
  have e1 : es.length = (es.map (·.1)).length := by simp
  have e2 : l.length = (l.map (fun v => ikey v.k)).length := by simp
  rw [e1, e2]
  refine List.Perm.length_eq ((List.perm_ext_iff_of_nodup ?_ ?_).2 fun kl => ?_)
  · exact List.pairwise_map.2 hp
  · exact List.pairwise_map.2 (hl.imp fun {a b} h e => by have := ikey_inj e; omega)
  · have := h.keys kl
    rw [Maps.has_eq] at this
    simp only [List.mem_map]
    constructor
    · rintro ⟨p, hp, rfl⟩
      obtain ⟨v, hv, e⟩ := this.1 (List.any_eq_true.2 ⟨p, hp, WideAt.sameKey_self (hk es rfl p hp)⟩)
      exact ⟨v, hv, e.symm⟩
    · rintro ⟨v, hv, rfl⟩
      obtain ⟨p, hp, e⟩ := List.any_eq_true.1 (this.2 ⟨v, hv, rfl⟩)
      exact ⟨p, hp, WideAt.sameKey_eq e⟩
/-- the map at mb has just these bytes, by their numbers -/
def Mq (w : World) (mb : Nat) (l : List Qv) : Prop :=
  ∃ D : DataW Value, w.ownsMap Tryd.prog 3 held mb l.length D ∧ Maps.size D = l.length ∧ Has D l ∧ l.Pairwise (fun a b => a.k < b.k)
theorem tight {w : World} {mb n : Nat} {D : DataW Value} (h : w.ownsMap Tryd.prog 3 held mb n D) : w.ownsMap Tryd.prog 3 held mb (Maps.size D) D := by
  obtain ⟨es, clock, hb, F, hs, rfl⟩ := h
  exact ⟨es, clock, hb, F, by simp [Maps.size, length_sorted], rfl⟩
theorem mq_of {w : World} {mb n : Nat} {D : DataW Value} {l : List Qv} (h : w.ownsMap Tryd.prog 3 held mb n D) (hD : Has D l) (hl : l.Pairwise (fun a b => a.k < b.k)) : Mq w mb l := by
  have e := hD.size (h.tidy intKeyed) (fun es e p hp => by
    obtain ⟨es', e', _, hk⟩ := h.entries intKeyed
    rw [e] at e'
    cases e'
    exact hk p hp) hl
  exact ⟨D, e ▸ tight h, e, hD, hl⟩
theorem zero_bytes (w : World) : (zeroValue 30).run Tryd.prog w = .ok (.slice none 0 0) w := by first | exact Tryd.zeroValue30 w | kernel_rfl
section
variable {w w' : World} {mb : Nat} {l : List Qv}
theorem Mq.lt (h : Mq w mb l) : mb < w.heap.size := by obtain ⟨D, h, _⟩ := h; exact h.lt
theorem Mq.same (h : Mq w mb l) (e : w'.heap[mb]? = w.heap[mb]?) : Mq w' mb l := by
  obtain ⟨D, ⟨es, clock, hb, r⟩, h2⟩ := h
  exact ⟨D, ⟨es, clock, e.trans hb, r⟩, h2⟩
theorem Mq.isMap (h : Mq w mb l) : ∃ es clock, w.heap[mb]? = some (.map es clock) := by
  obtain ⟨D, ⟨es, clock, hb, r⟩, h2⟩ := h
  exact ⟨es, clock, hb⟩
theorem Mq.sorted (h : Mq w mb l) : l.Pairwise (fun a b => a.k < b.k) := by obtain ⟨D, _, _, _, h⟩ := h; exact h
theorem mq_new (w : World) : Mq (w.alloc (.map #[] 0)) w.heap.size [] := mq_of (World.ownsMap_made w _ _ _) has_nil List.Pairwise.nil
/-- the map, or none -/
def Mo (w : World) : Option Nat → List Qv → Prop
  | none, l => l = []
  | some mb, l => Mq w mb l
theorem Mo.same {mo : Option Nat} (h : Mo w mo l) (e : ∀ k, mo = some k → w'.heap[k]? = w.heap[k]?) : Mo w' mo l := by
  cases mo with
  | none => exact h
  | some mb => exact Mq.same h (e mb rfl)
theorem Mo.lt {mo : Option Nat} (h : Mo w mo l) : ∀ k, mo = some k → k < w.heap.size := fun k e => by subst e; exact Mq.lt h
theorem Mo.sorted {mo : Option Nat} (h : Mo w mo l) : l.Pairwise (fun a b => a.k < b.k) := by
  cases mo with
  | none => have : l = [] := h; rw [this]; exact List.Pairwise.nil
  | some mb => exact Mq.sorted h
theorem Mo.isMap {mo : Option Nat} (h : Mo w mo l) : ∀ k, mo = some k → ∃ es clock, w.heap[k]? = some (.map es clock) := fun k e => by subst e; exact Mq.isMap h
def lkV (l : List Qv) (k : Int) : Option Qv := l.find? (fun q => decide (q.k = k))
theorem lk_kb (l : List Qv) (k : Int) : (lkV l k).map (·.b) = lookP (l.map Qv.kb) k := by
  unfold lkV lookP
  induction l with
  | nil => rfl
  | cons q r ih =>
    rw [List.map_cons]
    by_cases e : q.k = k
    · rw [List.find?_cons_of_pos (by simp [e]), List.find?_cons_of_pos (by simp [Qv.kb, e])]
      rfl
    · rw [List.find?_cons_of_neg (by simp [e]), List.find?_cons_of_neg (by simp [Qv.kb, e])]
      exact ih
theorem lk_mem {k : Int} {q : Qv} (h : lkV l k = some q) : q ∈ l ∧ q.k = k := ⟨List.mem_of_find?_eq_some h, by simpa using List.find?_some h⟩
theorem lk_of (hs : l.Pairwise (fun a b => a.k < b.k)) {q : Qv} (h : q ∈ l) : lkV l q.k = some q := by
  induction l with
  | nil => simp at h
  | cons u r ih =>
    obtain ⟨h1, h2⟩ := List.pairwise_cons.1 hs
    unfold lkV
    rcases List.mem_cons.1 h with rfl | h
    · rw [List.find?_cons_of_pos (by simp)]
    · have := h1 _ h
      rw [List.find?_cons_of_neg (by simp; omega)]
      exact ih h2 h
theorem lk_none {k : Int} (h : lkV l k = none) : ∀ q ∈ l, q.k ≠ k := by
  unfold lkV at h
  rw [List.find?_eq_none] at h
  exact fun q hq e => h q hq (by simp [e])
def lkS (o : Option Qv) : Value := match o with | none => .slice none 0 0 | some q => q.val
theorem mq_look (h : Mq w mb l) {s : Int} (hs : (Lit.int .i64 s).wf = true) :
    (Instr.lookup 46 (.map (some mb)) (.int .i64 s) true).run Tryd.prog w = .ok (.tuple #[lkS (lkV l s), .bool (lkV l s).isSome]) w
    ∧ (Instr.lookup 46 (.map (some mb)) (.int .i64 s) false).run Tryd.prog w = .ok (lkS (lkV l s)) w := by
  obtain ⟨D, hown, _, hD, hl⟩ := h
  obtain ⟨v, ps, hr, hv⟩ := hown.look_ok intKeyed Tryd.underlying46 (zero_bytes w) (zd := .held (.slice none 0 0)) (zp := []) rfl (keyOf_i hs)
  obtain ⟨v', ps', hr', hv'⟩ := hown.lookup intKeyed Tryd.underlying46 (zero_bytes w) (zd := .held (.slice none 0 0)) (zp := []) rfl (keyOf_i hs)
  have hv2 : DataW.held v = D.atKey (ikey s) (.held (.slice none 0 0)) := by simp [held] at hv; exact hv.1
  have hv3 : DataW.held v' = D.atKey (ikey s) (.held (.slice none 0 0)) := by simp [held] at hv'; exact hv'.1
  cases hh : Maps.has D (ikey s)
  · rw [hh] at hr
    rw [Maps.atKey_of_not_has hh] at hv2 hv3
    cases hv2
    cases hv3
    have e : lkV l s = none := by
      cases e : lkV l s with
      | none => rfl
      | some q =>
        obtain ⟨h1, h2⟩ := lk_mem e
        rw [(hD.keys _).2 ⟨q, h1, by rw [h2]⟩] at hh
        cases hh
    rw [e]
    exact ⟨hr, hr'⟩
  · rw [hh] at hr
    obtain ⟨u, hu, e⟩ := (hD.keys _).1 hh
    have e := ikey_inj e
    subst e
    rw [hD.vals u hu] at hv2 hv3
    cases hv2
    cases hv3
    rw [lk_of hl hu]
    exact ⟨hr, hr'⟩
def vput (l : List Qv) (v : Qv) : List Qv := l.filter (fun u => decide (u.k < v.k)) ++ v :: l.filter (fun u => decide (v.k < u.k))
theorem vput_kb (l : List Qv) (v : Qv) : (vput l v).map Qv.kb = put (l.map Qv.kb) v.k v.b := by
  simp only [vput, put, List.map_append, List.map_cons, List.filter_map]
  rfl
theorem mem_vput {u v : Qv} : u ∈ vput l v ↔ u = v ∨ (u ∈ l ∧ u.k ≠ v.k) := by
  simp only [vput, List.mem_append, List.mem_cons, List.mem_filter, decide_eq_true_eq]
  constructor
  · rintro (⟨h1, h2⟩ | rfl | ⟨h1, h2⟩)
    · exact .inr ⟨h1, by omega⟩
    · exact .inl rfl
    · exact .inr ⟨h1, by omega⟩
  · rintro (rfl | ⟨h1, h2⟩)
    · exact .inr (.inl rfl)
    · rcases Int.lt_trichotomy u.k v.k with h | h | h
      · exact .inl ⟨h1, h⟩
      · exact absurd h h2
      · exact .inr (.inr ⟨h1, h⟩)
theorem vput_sorted (h : l.Pairwise (fun a b => a.k < b.k)) (v : Qv) : (vput l v).Pairwise (fun a b => a.k < b.k) := by
  unfold vput
  refine List.pairwise_append.2 ⟨h.filter _, List.pairwise_cons.2 ⟨fun u hu => ?_, h.filter _⟩, fun a ha b hb => ?_⟩
  · simpa using (List.mem_filter.1 hu).2
  · have h1 : a.k < v.k := by simpa using (List.mem_filter.1 ha).2
    rcases List.mem_cons.1 hb with rfl | hb
    · exact h1
    · have h2 : v.k < b.k := by simpa using (List.mem_filter.1 hb).2
      omega
theorem mq_put {v : Qv} (h : Mq w mb l) (hn : l.length < maxLen) (hs : (Lit.int .i64 v.k).wf = true) :
    ∃ w', (Instr.mapUpdate 46 (.map (some mb)) (.int .i64 v.k) (.slice v.a v.m v.cp)).run Tryd.prog w = .ok () w' ∧ Mq w' mb (vput l v) ∧ w.grownBy w' (some mb) := by
  obtain ⟨D, hown, hsz, hD, hl⟩ := h
  have hk := keyOf_i hs
  obtain ⟨w', hr, ho, hg⟩ := hown.update intKeyed Tryd.underlying46 hn hk (val := v.val) (d := .held v.val) (ps := []) rfl
  refine ⟨w', hr, mq_of ho ⟨fun kl => ?_, fun u hu zd => ?_⟩ (vput_sorted hl v), hg⟩
  · by_cases e : kl = ikey v.k
    · subst e
      rw [Maps.has_put_same hown.isMap (intKeyed.key hk)]
      simp only [true_iff]
      exact ⟨v, mem_vput.2 (.inl rfl), rfl⟩
    · rw [Maps.has_put_other e, hD.keys]
      constructor
      · rintro ⟨u, hu, rfl⟩
        exact ⟨u, mem_vput.2 (.inr ⟨hu, fun h => e (by rw [h])⟩), rfl⟩
      · rintro ⟨u, hu, rfl⟩
        rcases mem_vput.1 hu with rfl | ⟨hu, _⟩
        · exact absurd rfl e
        · exact ⟨u, hu, rfl⟩
  · rcases mem_vput.1 hu with rfl | ⟨hu, hne⟩
    · rw [Maps.atKey_put_same hown.isMap (intKeyed.key hk)]
    · rw [Maps.atKey_put_other (fun e => hne (ikey_inj e))]
      exact hD.vals u hu zd
theorem mq_len (h : Mq w mb l) (ty : TypeId) : (Builtin.len_ #[46] ty #[.map (some mb)]).run Tryd.prog w = .ok (.int .i64 l.length) w := by
  obtain ⟨D, hown, hsz, hD, hl⟩ := h
  have := World.ownsMap.len hown Tryd.underlying46 ty
  rw [hsz] at this
  exact this
theorem mq_clear (h : Mq w mb l) (ty : TypeId) : ∃ w', (Builtin.clear_ #[46] ty #[.map (some mb)]).run Tryd.prog w = .ok (.tuple #[]) w' ∧ Mq w' mb [] ∧ w.grownBy w' (some mb) := by
  obtain ⟨D, ⟨es, clock, hb, F, hs, hD0⟩, hD⟩ := h
  refine ⟨ChangeMaps.setBlock w mb (.map #[] clock), ?_, mq_of (n := 0) (D := .map []) ⟨#[], clock, ?_, ⟨by simp, MapKept.stamped_empty clock, by simp⟩, Nat.zero_le _, rfl⟩ has_nil List.Pairwise.nil, ⟨rfl, rfl, rfl, by simp [ChangeMaps.setBlock], fun i _ hi => ChangeMaps.heap_setBlock_other hb _ (fun e => hi (by rw [e]))⟩⟩
  · simp [Builtin.clear_, run_underlying Tryd.underlying46, MapKept.run_getObj_map hb, MapKept.run_setObj_map _ hb, Result.andThen, ChangeMaps.setBlock]
  · exact ChangeMaps.heap_setBlock_same hb _
theorem mo_look {mo : Option Nat} (h : Mo w mo l) {s : Int} (hs : (Lit.int .i64 s).wf = true) :
    (Instr.lookup 46 (.map mo) (.int .i64 s) true).run Tryd.prog w = .ok (.tuple #[lkS (lkV l s), .bool (lkV l s).isSome]) w
    ∧ (Instr.lookup 46 (.map mo) (.int .i64 s) false).run Tryd.prog w = .ok (lkS (lkV l s)) w := by
  cases mo with
  | some mb => exact mq_look h hs
  | none =>
    obtain rfl : l = [] := h
    have h1 := Maps.look_nil (w := w) (c := true) intKeyed Tryd.underlying46 (zero_bytes w) (keyOf_i hs)
    have h2 := Maps.look_nil (w := w) (c := false) intKeyed Tryd.underlying46 (zero_bytes w) (keyOf_i hs)
    exact ⟨h1, h2⟩
theorem mo_len {mo : Option Nat} (h : Mo w mo l) (ty : TypeId) : (Builtin.len_ #[46] ty #[.map mo]).run Tryd.prog w = .ok (.int .i64 l.length) w := by
  cases mo with
  | some mb => exact mq_len h ty
  | none =>
    obtain rfl : l = [] := h
    exact Maps.len_nil Tryd.underlying46 ty
theorem mo_clear {mo : Option Nat} (h : Mo w mo l) (ty : TypeId) : ∃ w', (Builtin.clear_ #[46] ty #[.map mo]).run Tryd.prog w = .ok (.tuple #[]) w' ∧ Mo w' mo [] ∧ Chg (fun k => mo = some k) w w' := by
  cases mo with
  | some mb =>
    obtain ⟨w', h1, h2, h3⟩ := mq_clear h ty
    exact ⟨w', h1, h2, (Chg.refl _ _).grown h3 (fun k hk => .inl hk)⟩
  | none => exact ⟨w, by simp [Builtin.clear_, run_underlying Tryd.underlying46, Result.andThen], rfl, Chg.refl _ _⟩
end
/-- the blocks that a box's calls may write -/
def BM (B : Nat) (mo : Option Nat) (k : Nat) : Prop := k = B ∨ mo = some k
def brow (s : Bx) (mo : Option Nat) : Array Value := #[.int .i64 s.of, .int .u32 s.sum, .map mo]
/-- a landed box at B, its map at mo, its bytes in blocks of P -/
structure Bm (w : World) (P : Nat → Prop) (B : Nat) (mo : Option Nat) (s : Bx) : Prop where
  row : w.heap[B]? = some (.cells (brow s mo) 48 (0, 0))
  ex : ∃ l, Mo w mo l ∧ s.ps = l.map Qv.kb ∧ ∀ q ∈ l, q.In w P
  ok : Ok s
section
variable {w w' : World} {P Q M : Nat → Prop} {B : Nat} {mo : Option Nat} {s : Bx}
theorem Bm.ltB (h : Bm w P B mo s) : B < w.heap.size := (Array.getElem?_eq_some_iff.1 h.row).1
theorem Bm.lt (h : Bm w P B mo s) : ∀ k, BM B mo k → k < w.heap.size := fun k hk => by
  obtain ⟨l, hm, _⟩ := h.ex
  rcases hk with rfl | hk
  · exact h.ltB
  · exact hm.lt k hk
theorem Bm.noB (h : Bm w P B mo s) : ∀ k, BM B mo k → NoB w k := fun k hk => by
  rcases hk with rfl | hk
  · refine NoB.of_row h.row (fun v hv x e => ?_)
    subst e
    simp [brow] at hv
  · obtain ⟨l, hm, _⟩ := h.ex
    obtain ⟨es, clock, hb⟩ := hm.isMap k hk
    exact NoB.of_map hb
theorem Bm.mB (h : Bm w P B mo s) : mo ≠ some B := fun e => by
  obtain ⟨l, hm, _⟩ := h.ex
  obtain ⟨es, clock, hb⟩ := hm.isMap B e
  have := h.row
  rw [hb] at this
  cases this
theorem Bm.c0 (h : Bm w P B mo s) : w.cell? ⟨B, 0, none⟩ = some (.int .i64 s.of) := by rw [cell_of_row _ _ _ _ _ _ h.row]; rfl
theorem Bm.c1 (h : Bm w P B mo s) : w.cell? ⟨B, 1, none⟩ = some (.int .u32 s.sum) := by rw [cell_of_row _ _ _ _ _ _ h.row]; rfl
theorem Bm.c2 (h : Bm w P B mo s) : w.cell? ⟨B, 2, none⟩ = some (.map mo) := by rw [cell_of_row _ _ _ _ _ _ h.row]; rfl
theorem Bm.f (h : Bm w P B mo s) (o : Nat) : w.frozen? ⟨B, o, none⟩ = false := by simp [World.frozen?, h.row]
theorem Bm.same (h : Bm w P B mo s) (e : ∀ k, BM B mo k → w'.heap[k]? = w.heap[k]?) (hb : ∀ q : Qv, q.In w P → q.In w' P) : Bm w' P B mo s := by
  obtain ⟨l, h1, h2, h3⟩ := h.ex
  exact ⟨(e B (.inl rfl)).trans h.row, ⟨l, h1.same (fun k hk => e k (.inr hk)), h2, fun p hp => hb p (h3 p hp)⟩, h.ok⟩
theorem Bm.below (h : Bm w P B mo s) (hb : Below w.heap.size w w') : Bm w' P B mo s := h.same (fun k hk => hb.block _ (h.lt k hk)) (fun p hp => Bi.below hp hb)
theorem Bm.drewN (h : Bm w P B mo s) (n : Nat) : Bm (w.drewN n) P B mo s := h.same (fun _ _ => rfl) (fun p hp => Bi.same hp (fun _ _ _ => rfl))
theorem Bm.drew (h : Bm w P B mo s) : Bm w.drew P B mo s := h.same (fun _ _ => rfl) (fun p hp => Bi.same hp (fun _ _ _ => rfl))
theorem Bm.chg (h : Bm w P B mo s) (hc : Chg M w w') (hM : ∀ k, M k → ¬ BM B mo k ∧ (¬ P k ∨ NoB w k)) : Bm w' P B mo s :=
  h.same (fun k hk => hc.block _ (h.lt k hk) (fun hm => (hM _ hm).1 hk)) (fun p hp => Bi.chg hp hc (fun k hk => (hM k hk).2))
theorem Bm.mono (h : Bm w P B mo s) (hq : ∀ k, P k → k < w.heap.size → Q k) : Bm w Q B mo s := by
  obtain ⟨l, h1, h2, h3⟩ := h.ex
  exact ⟨h.row, ⟨l, h1, h2, fun p hp => Bi.mono (h3 p hp) hq⟩, h.ok⟩
theorem Bm.known (h : Bm w P B mo s) : Bm w (fun k => k < w.heap.size) B mo s := h.mono (fun k _ hk => hk)
/-- the table stays where a box is written -/
theorem Tab.not (h : Tab w) (hb : Bm w P B mo s) : ¬ BM B mo 0 := fun hk => by
  have h0 := h 0 (by omega)
  rcases hk with rfl | hk
  · rw [hb.c0] at h0
    simp at h0
  · obtain ⟨l, hm, _⟩ := hb.ex
    obtain ⟨es, clock, hh⟩ := hm.isMap 0 hk
    simp [World.cell?, hh] at h0
theorem Tab.chg (h : Tab w) (hc : Chg M w w') (hM : ¬ M 0) : Tab w' := fun j hj =>
  (World.cell?_of_block (a := ⟨0, j, none⟩) (hc.block 0 (World.block_lt_of_cell? w _ (h 0 (by omega))) hM)).trans (h j hj)
end

/-! pieces and lists of them -/
theorem rangeAt_same {w w' : World} {b o : Nat} {cs : List Value} (h : w.rangeAt b o cs) (e : w'.heap[b]? = w.heap[b]?) : w'.rangeAt b o cs := fun j v hv => (World.cell?_of_block (w := w) (w' := w') (a := ⟨b, o + j, none⟩) e).trans (h j v hv)
structure Pv where
  k : Int
  of : Int
  sum : Int
  a : Option Addr
  m : Nat
  cp : Nat
  b : List Int
def Pv.cells (p : Pv) : List Value := [.int .i64 p.k, .int .i64 p.of, .int .u32 p.sum, .slice p.a p.m p.cp]
def Pv.pc (p : Pv) : Pc := ⟨p.k, p.of, p.sum, p.b⟩
def pcells (l : List Pv) : List Value := l.flatMap Pv.cells
theorem pcells_append (l r : List Pv) : pcells (l ++ r) = pcells l ++ pcells r := by simp [pcells]
theorem pcells_at : ∀ (l : List Pv) (i : Nat) (p : Pv), l[i]? = some p → ∀ j, j < 4 → (pcells l)[i * 4 + j]? = p.cells[j]?
  | [], i, p, hx, _, _ => by simp at hx
  | y :: r, 0, p, hx, j, hj => by
    simp at hx
    subst hx
    show (y.cells ++ pcells r)[0 * 4 + j]? = _
    rw [List.getElem?_append_left (by simp [Pv.cells]; omega)]
    simp
  | y :: r, i + 1, p, hx, j, hj => by
    show (y.cells ++ pcells r)[(i + 1) * 4 + j]? = _
    rw [List.getElem?_append_right (by simp [Pv.cells]; omega), show (i + 1) * 4 + j - y.cells.length = i * 4 + j by simp [Pv.cells]; omega]
    exact pcells_at r i p (by simpa using hx) j hj
/-- what is known of a piece's numbers and bytes -/
structure POk (w : World) (P : Nat → Prop) (p : Pv) : Prop where
  bi : Bi w P p.a p.m p.cp p.b
  room : p.m ≤ 140737488351232
  k : (Lit.int .i64 p.k).wf = true
  of : (Lit.int .i64 p.of).wf = true
  sum : 0 ≤ p.sum ∧ p.sum ≤ 4294967295
/-- pieces that can be read at a slice, all in blocks of P -/
structure Ls (w : World) (P : Nat → Prop) (a : Option Addr) (m : Nat) (l : List Pv) : Prop where
  len : l.length = m
  cells : 0 < m → ∃ b off, a = some ⟨b, off, none⟩ ∧ b < w.heap.size ∧ P b ∧ ∀ j p, l[j]? = some p → w.rangeAt b (off + j * 4) p.cells
  each : ∀ p ∈ l, POk w P p
  room : m * 48 ≤ 140737488351232
section
variable {w w' : World} {P Q M : Nat → Prop} {a : Option Addr} {m : Nat} {l : List Pv} {p : Pv}
theorem POk.below (h : POk w P p) (hb : Below w.heap.size w w') : POk w' P p := ⟨h.bi.below hb, h.room, h.k, h.of, h.sum⟩
theorem POk.mono (h : POk w P p) (hq : ∀ k, P k → k < w.heap.size → Q k) : POk w Q p := ⟨h.bi.mono hq, h.room, h.k, h.of, h.sum⟩
theorem Ls.below (h : Ls w P a m l) (hb : Below w.heap.size w w') : Ls w' P a m l :=
  ⟨h.len, fun h0 => by
    obtain ⟨b, off, e, hl, hp, hc⟩ := h.cells h0
    exact ⟨b, off, e, Nat.lt_of_lt_of_le hl hb.size, hp, fun j p hj => rangeAt_same (hc j p hj) (hb.block b hl)⟩, fun p hp => (h.each p hp).below hb, h.room⟩
theorem Ls.mono (h : Ls w P a m l) (hq : ∀ k, P k → k < w.heap.size → Q k) : Ls w Q a m l :=
  ⟨h.len, fun h0 => by
    obtain ⟨b, off, e, hl, hp, hc⟩ := h.cells h0
    exact ⟨b, off, e, hl, hq b hp hl, hc⟩, fun p hp => (h.each p hp).mono hq, h.room⟩
theorem Ls.chg (h : Ls w P a m l) (hc : Chg M w w') (hM : ∀ k, M k → ¬ P k) : Ls w' P a m l :=
  ⟨h.len, fun h0 => by
    obtain ⟨b, off, e, hl, hp, hcc⟩ := h.cells h0
    exact ⟨b, off, e, Nat.lt_of_lt_of_le hl hc.size, hp, fun j p hj => rangeAt_same (hcc j p hj) (hc.block b hl (fun hm => hM b hm hp))⟩, fun p hp => ⟨(h.each p hp).bi.chg hc (fun k hk => .inl (hM k hk)), (h.each p hp).room, (h.each p hp).k, (h.each p hp).of, (h.each p hp).sum⟩, h.room⟩
theorem Ls.at (h : Ls w P a m l) {k : Nat} (hk : k < m) :
    ∃ b off p, a = some ⟨b, off, none⟩ ∧ b < w.heap.size ∧ l[k]? = some p ∧ p ∈ l ∧ w.cell? ⟨b, off + k * 4, none⟩ = some (.int .i64 p.k) ∧ w.cell? ⟨b, off + k * 4 + 1, none⟩ = some (.int .i64 p.of) ∧ w.cell? ⟨b, off + k * 4 + 2, none⟩ = some (.int .u32 p.sum) ∧ w.cell? ⟨b, off + k * 4 + 3, none⟩ = some (.slice p.a p.m p.cp) := by
  obtain ⟨b, off, e, hb, _, hc⟩ := h.cells (by omega)
  have hl : k < l.length := by rw [h.len]; exact hk
  have hp : l[k]? = some l[k] := List.getElem?_eq_getElem hl
  have R := hc k _ hp
  have c0 := R 0 _ rfl
  simp only [Nat.add_zero] at c0
  exact ⟨b, off, l[k], e, hb, hp, List.getElem_mem hl, c0, R 1 _ rfl, R 2 _ rfl, R 3 _ rfl⟩
/-- a list of pieces of the call's own, from block B on -/
structure Lw (w : World) (B : Nat) (a : Option Addr) (m c : Nat) (l : List Pv) : Prop where
  row : w.ownsRow B 32 4 (.slice a m c) m (pcells l)
  len : l.length = m
  each : ∀ p ∈ l, w.ownsRow B 5 1 (.slice p.a p.m p.cp) p.m (B8.vals p.b) ∧ p.b.length = p.m ∧ wfs p.b ∧ p.m ≤ 140737488351232 ∧ (Lit.int .i64 p.k).wf = true ∧ (Lit.int .i64 p.of).wf = true ∧ 0 ≤ p.sum ∧ p.sum ≤ 4294967295
theorem lw_nil (w : World) (B : Nat) : Lw w B none 0 0 [] := ⟨World.ownsRow_nil _ _ _ _, rfl, fun p hp => absurd hp (by simp)⟩
theorem Lw.below {B c : Nat} (h : Lw w B a m c l) (hb : Below w.heap.size w w') : Lw w' B a m c l :=
  ⟨row_same h.row (fun k hk => hb.block k (h.row.lt k hk).2), h.len, fun p hp => ⟨row_same (h.each p hp).1 (fun k hk => hb.block k ((h.each p hp).1.lt k hk).2), (h.each p hp).2⟩⟩
theorem Lw.ls {B c : Nat} (h : Lw w B a m c l) (hr : m * 48 ≤ 140737488351232) (hP : ∀ k, B ≤ k → P k) : Ls w P a m l := by
  refine ⟨h.len, fun h0 => ?_, fun p hp => ?_, hr⟩
  · have row := h.row
    obtain ⟨_, ⟨e, e2⟩ | ⟨g, cp, cur, e, hB, hg, _⟩⟩ := id h.row
    · omega
    · obtain ⟨rfl, rfl⟩ : a = some ⟨g, 0, none⟩ ∧ c = cp := by simpa using e
      refine ⟨g, 0, rfl, (Array.getElem?_eq_some_iff.1 hg).1, hP g hB, fun j p hj o v hv => ?_⟩
      have hjl : j < l.length := (List.getElem?_eq_some_iff.1 hj).1
      have ho : o < 4 := by have := (List.getElem?_eq_some_iff.1 hv).1; simpa [Pv.cells] using this
      have hlen := h.len
      rw [show 0 + j * 4 + o = j * 4 + o by omega, row.cellAt (j * 4 + o) (by omega), pcells_at _ _ _ hj o ho, hv]
  · obtain ⟨h1, h2, h3, h4, h5, h6, h7⟩ := h.each p hp
    exact ⟨bi_row h2 h3 h1 hP, h4, h5, h6, h7⟩
end
end Go.Proofs.YtanfmpeblhegpaaDoor
