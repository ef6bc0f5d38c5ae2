/- An acceptor in memory: its four cells, its map of votes, the bytes of their values; lists of votes. No condition. -/
import Derived.Test.YtjhkenmlaammnaaAccMath
import Derived.Test.YtjhkenmlaammnaaChgMem
import Derived.Test.YtjhkenmlaammnaaSq8
import Derived.Maps.OwnSet
import Derived.Maps.RangeWalk
namespace Go.Proofs.Ytjhkenmlaammnaa
open Go.ChangeShapes Go.WideShapes Go.ChangeAt Go.RowKit B8 Am
set_option linter.unusedVariables false

/-- a vote as it lies -/
structure Vv where
  s : Int
  r : Int
  n : Int
  a : Option Addr
  m : Nat
  cp : Nat
  b : List Int
def Vv.cells (p : Vv) : List Value := [.int .i64 p.s, .int .i64 p.r, .int .i64 p.n, .slice p.a p.m p.cp]
def Vv.val (p : Vv) : Value := .agg #[.int .i64 p.s, .int .i64 p.r, .int .i64 p.n, .slice p.a p.m p.cp]
def Vv.vt (p : Vv) : Vt := ⟨p.s, p.r, p.n, p.b⟩
def vcells (l : List Vv) : List Value := l.flatMap Vv.cells
theorem vcells_append (l r : List Vv) : vcells (l ++ r) = vcells l ++ vcells r := by simp [vcells]
theorem vcells_length : ∀ (l : List Vv), (vcells l).length = l.length * 4
  | [] => rfl
  | p :: r => by show (p.cells ++ vcells r).length = _; rw [List.length_append, vcells_length r]; simp [Vv.cells]; omega
theorem vcells_at : ∀ (l : List Vv) (i : Nat) (p : Vv), l[i]? = some p → ∀ j, j < 4 → (vcells l)[i * 4 + j]? = p.cells[j]?
  | [], i, p, hx, _, _ => by simp at hx
  | y :: r, 0, p, hx, j, hj => by
    simp at hx
    subst hx
    show (y.cells ++ vcells r)[0 * 4 + j]? = _
    rw [List.getElem?_append_left (by simp [Vv.cells]; omega)]
    simp
  | y :: r, i + 1, p, hx, j, hj => by
    show (y.cells ++ vcells r)[(i + 1) * 4 + j]? = _
    rw [List.getElem?_append_right (by simp [Vv.cells]; omega), show (i + 1) * 4 + j - y.cells.length = i * 4 + j by simp [Vv.cells]; omega]
    exact vcells_at r i p (by simpa using hx) j hj
theorem cells_one (p : Vv) : ∀ v ∈ p.cells, v.oneCell' = true := by
  intro v hp
  simp [Vv.cells] at hp
  rcases hp with rfl | rfl | rfl | rfl <;> rfl
theorem vcells_one (l : List Vv) : ∀ v ∈ vcells l, v.oneCell' = true := by
  intro v hv
  obtain ⟨p, _, hp⟩ := List.mem_flatMap.1 hv
  exact cells_one p v hp
/-- no byte lies in this block -/
def NoB (w : World) (k : Nat) : Prop := ∀ o x, w.cell? ⟨k, o, none⟩ ≠ some (.int .u8 x)
/-- this block is no list of votes -/
def NoV (w : World) (k : Nat) : Prop := ∀ cs, w.heap[k]? ≠ some (.cells cs 45 (0, 0))
/-- its value's bytes are there, in a block of P -/
def Vv.In (w : World) (P : Nat → Prop) (p : Vv) : Prop := Sq w p.a p.m p.cp p.b ∧ (0 < p.m → ∀ ad, p.a = some ad → P ad.block)
section
variable {w w' : World} {P Q M : Nat → Prop} {p : Vv}
theorem Vv.In.same (h : p.In w P) (hb : 0 < p.m → ∀ ad, p.a = some ad → w'.heap[ad.block]? = w.heap[ad.block]?) : p.In w' P := by
  refine ⟨⟨h.1.length, h.1.lecap, h.1.nil, fun h0 => ?_, h.1.wf⟩, h.2⟩
  obtain ⟨b, off, e, hc⟩ := h.1.cells h0
  exact ⟨b, off, e, fun j hj => (World.cell?_of_block (w := w) (w' := w') (a := ⟨b, off + j, none⟩) (hb h0 ⟨b, off, none⟩ e)).trans (hc j hj)⟩
theorem Vv.In.lt (h : p.In w P) : 0 < p.m → ∀ ad, p.a = some ad → ad.block < w.heap.size := fun h0 ad e => by
  obtain ⟨b, off, e2, hc⟩ := h.1.cells h0
  rw [e] at e2
  cases e2
  exact World.block_lt_of_cell? w _ (hc 0 h0)
theorem Vv.In.below (h : p.In w P) (hb : Below w.heap.size w w') : p.In w' P := ⟨h.1.below hb, h.2⟩
theorem Vv.In.mono (h : p.In w P) (hq : ∀ k, P k → k < w.heap.size → Q k) : p.In w Q := ⟨h.1, fun h0 ad e => hq _ (h.2 h0 ad e) (h.lt h0 ad e)⟩
theorem Vv.In.chg (h : p.In w P) (hc : Chg M w w') (hM : ∀ k, M k → ¬ P k ∨ NoB w k) : p.In w' P := h.same (fun h0 ad e => hc.block _ (h.lt h0 ad e) (fun hm => by
  rcases hM _ hm with hn | hn
  · exact hn (h.2 h0 ad e)
  · obtain ⟨b, off, e2, hb⟩ := h.1.cells h0
    rw [e] at e2
    cases e2
    exact hn _ _ (hb 0 h0)))
theorem NoB.of_row {cs : Array Value} {t : TypeId} {k : Nat} (h : w.heap[k]? = some (.cells cs t (0, 0))) (hc : ∀ v ∈ cs, ∀ x, v ≠ .int .u8 x) : NoB w k := fun o x e => by
  rw [cell_of_row _ _ _ _ _ _ h] at e
  obtain ⟨h1, h2⟩ := Array.getElem?_eq_some_iff.1 e
  exact hc _ (Array.getElem_mem h1) x h2
theorem NoB.of_map {es : Array MapEntry} {c k : Nat} (h : w.heap[k]? = some (.map es c)) : NoB w k := fun o x e => by simp [World.cell?, h] at e
theorem NoV.of_map {es : Array MapEntry} {c k : Nat} (h : w.heap[k]? = some (.map es c)) : NoV w k := fun cs e => by rw [h] at e; cases e
theorem NoV.of_row {cs : Array Value} {t : TypeId} {k : Nat} (h : w.heap[k]? = some (.cells cs t (0, 0))) (ht : t ≠ 45) : NoV w k := fun cs e => by rw [h] at e; cases e; exact ht rfl
end

/-! the map of votes -/
/-- each element is held as it lies -/
def held : Value → Option (DataW Value × List MemPlace) := fun v => some (.held v, [])
def ikey (s : Int) : Lit := .int .i64 s
theorem intKeyed : Maps.Keyed Try.prog 3 := Maps.int_keyed Try.underlying3
theorem wf64 {a : Int} (h1 : -9223372036854775808 ≤ a) (h2 : a ≤ 9223372036854775807) : (Lit.int .i64 a).wf = true := WalkArith.wf_i64 ⟨h1, h2⟩
theorem keyOf_i {s : Int} (h : (Lit.int .i64 s).wf = true) : keyOf Try.prog 3 (.int .i64 s) = some (ikey s) := Maps.keyOf_int_mk Try.underlying3 h
theorem ikey_inj {s t : Int} (h : ikey s = ikey t) : s = t := by simpa [ikey] using h
/-- the datum D has just these votes -/
structure Has (D : DataW Value) (l : List Vv) : Prop where
  keys : ∀ kl, Maps.has D kl = true ↔ ∃ v ∈ l, kl = ikey v.s
  vals : ∀ v ∈ l, ∀ zd, D.atKey (ikey v.s) zd = .held v.val
theorem has_nil : Has (.map []) [] := ⟨fun kl => by simp [Maps.has], fun v hv => absurd hv (by simp)⟩
theorem Has.size {D : DataW Value} {l : List Vv} (h : Has D l) (ht : Maps.Tidy D) (hk : ∀ es, D = .map es → ∀ p ∈ es, WideAt.IsKeyLit p.1) (hl : l.Pairwise (fun a b => a.s < b.s)) : Maps.size D = l.length := by
  obtain ⟨es, rfl, hp⟩ := ht
  show es.length = l.length
  have e1 : es.length = (es.map (·.1)).length := by simp
  have e2 : l.length = (l.map (fun v => ikey v.s)).length := by simp
  rw [e1, e2]
  refine List.Perm.length_eq ((List.perm_ext_iff_of_nodup ?_ ?_).2 fun kl => ?_)
  · exact List.pairwise_map.2 hp
  · exact List.pairwise_map.2 (hl.imp fun {a b} h e => by have := ikey_inj e; omega)
  · have := h.keys kl
    rw [Maps.has_eq] at this
    simp only [List.mem_map]
    constructor
    · rintro ⟨p, hp, rfl⟩
      obtain ⟨v, hv, e⟩ := this.1 (List.any_eq_true.2 ⟨p, hp, WideAt.sameKey_self (hk es rfl p hp)⟩)
      exact ⟨v, hv, e.symm⟩
    · rintro ⟨v, hv, rfl⟩
      obtain ⟨p, hp, e⟩ := List.any_eq_true.1 (this.2 ⟨v, hv, rfl⟩)
      exact ⟨p, hp, WideAt.sameKey_eq e⟩
/-- the map at mb has just these votes, by their slots -/
def Mp (w : World) (mb : Nat) (l : List Vv) : Prop :=
  ∃ D : DataW Value, w.ownsMap Try.prog 3 held mb l.length D ∧ Maps.size D = l.length ∧ Has D l ∧ l.Pairwise (fun a b => a.s < b.s)
theorem tight {w : World} {mb n : Nat} {D : DataW Value} (h : w.ownsMap Try.prog 3 held mb n D) : w.ownsMap Try.prog 3 held mb (Maps.size D) D := by
  obtain ⟨es, clock, hb, F, hs, rfl⟩ := h
  exact ⟨es, clock, hb, F, by simp [Maps.size, length_sorted], rfl⟩
theorem mp_of {w : World} {mb n : Nat} {D : DataW Value} {l : List Vv} (h : w.ownsMap Try.prog 3 held mb n D) (hD : Has D l) (hl : l.Pairwise (fun a b => a.s < b.s)) : Mp w mb l := by
  have e := hD.size (h.tidy intKeyed) (fun es e p hp => by
    obtain ⟨es', e', _, hk⟩ := h.entries intKeyed
    rw [e] at e'
    cases e'
    exact hk p hp) hl
  exact ⟨D, e ▸ tight h, e, hD, hl⟩
section
variable {w w' : World} {mb : Nat} {l : List Vv}
theorem Mp.lt (h : Mp w mb l) : mb < w.heap.size := by obtain ⟨D, h, _⟩ := h; exact h.lt
theorem Mp.same (h : Mp w mb l) (e : w'.heap[mb]? = w.heap[mb]?) : Mp w' mb l := by
  obtain ⟨D, ⟨es, clock, hb, r⟩, h2⟩ := h
  exact ⟨D, ⟨es, clock, e.trans hb, r⟩, h2⟩
theorem Mp.isMap (h : Mp w mb l) : ∃ es clock, w.heap[mb]? = some (.map es clock) := by
  obtain ⟨D, ⟨es, clock, hb, r⟩, h2⟩ := h
  exact ⟨es, clock, hb⟩
theorem mp_new (w : World) : Mp (w.alloc (.map #[] 0)) w.heap.size [] :=
  mp_of (World.ownsMap_made w _ _ _) has_nil List.Pairwise.nil
/-- the zero vote -/
def zvote : Value := .agg #[.int .i64 0, .int .i64 0, .int .i64 0, .slice none 0 0]
theorem zero_vote (w : World) : (zeroValue 45).run Try.prog w = .ok zvote w := by first | exact Try.zeroValue45 w | kernel_rfl
theorem mp_look (h : Mp w mb l) {s : Int} (hs : (Lit.int .i64 s).wf = true) :
    (∃ v ∈ l, v.s = s ∧ (Instr.lookup 94 (.map (some mb)) (.int .i64 s) true).run Try.prog w = .ok (.tuple #[v.val, .bool true]) w)
    ∨ ((∀ v ∈ l, v.s ≠ s) ∧ (Instr.lookup 94 (.map (some mb)) (.int .i64 s) true).run Try.prog w = .ok (.tuple #[zvote, .bool false]) w) := by
  obtain ⟨D, hown, _, hD, _⟩ := h
  obtain ⟨v, ps, hr, hv⟩ := hown.look_ok intKeyed Try.underlying94 (zero_vote w) (zd := .held zvote) (zp := []) rfl (keyOf_i hs)
  have hv2 : DataW.held v = D.atKey (ikey s) (.held zvote) := by simp [held] at hv; exact hv.1
  cases hh : Maps.has D (ikey s)
  · rw [hh] at hr
    rw [Maps.atKey_of_not_has hh] at hv2
    cases hv2
    refine .inr ⟨fun u hu e => ?_, hr⟩
    rw [(hD.keys _).2 ⟨u, hu, by rw [e]⟩] at hh
    cases hh
  · rw [hh] at hr
    obtain ⟨u, hu, e⟩ := (hD.keys _).1 hh
    have e := ikey_inj e
    subst e
    rw [hD.vals u hu] at hv2
    cases hv2
    exact .inl ⟨u, hu, rfl, hr⟩
/-- a vote in the place of an earlier one -/
def vput (l : List Vv) (v : Vv) : List Vv := l.filter (fun u => decide (u.s < v.s)) ++ v :: l.filter (fun u => decide (v.s < u.s))
theorem vput_vt (l : List Vv) (v : Vv) : (vput l v).map Vv.vt = put (l.map Vv.vt) v.vt := by
  simp only [vput, put, List.map_append, List.map_cons, List.filter_map]
  rfl
theorem mem_vput {u v : Vv} : u ∈ vput l v ↔ u = v ∨ (u ∈ l ∧ u.s ≠ v.s) := by
  simp only [vput, List.mem_append, List.mem_cons, List.mem_filter, decide_eq_true_eq]
  constructor
  · rintro (⟨h1, h2⟩ | rfl | ⟨h1, h2⟩)
    · exact .inr ⟨h1, by omega⟩
    · exact .inl rfl
    · exact .inr ⟨h1, by omega⟩
  · rintro (rfl | ⟨h1, h2⟩)
    · exact .inr (.inl rfl)
    · rcases Int.lt_trichotomy u.s v.s with h | h | h
      · exact .inl ⟨h1, h⟩
      · exact absurd h h2
      · exact .inr (.inr ⟨h1, h⟩)
theorem vput_sorted (h : l.Pairwise (fun a b => a.s < b.s)) (v : Vv) : (vput l v).Pairwise (fun a b => a.s < b.s) := by
  unfold vput
  refine List.pairwise_append.2 ⟨h.filter _, List.pairwise_cons.2 ⟨fun u hu => ?_, h.filter _⟩, fun a ha b hb => ?_⟩
  · simpa using (List.mem_filter.1 hu).2
  · have h1 : a.s < v.s := by simpa using (List.mem_filter.1 ha).2
    rcases List.mem_cons.1 hb with rfl | hb
    · exact h1
    · have h2 : v.s < b.s := by simpa using (List.mem_filter.1 hb).2
      omega
theorem mp_put {v : Vv} (h : Mp w mb l) (hn : l.length < maxLen) (hs : (Lit.int .i64 v.s).wf = true) :
    ∃ w', (Instr.mapUpdate 94 (.map (some mb)) (.int .i64 v.s) v.val).run Try.prog w = .ok () w' ∧ Mp w' mb (vput l v) ∧ w.grownBy w' (some mb) := by
  obtain ⟨D, hown, hsz, hD, hl⟩ := h
  have hk := keyOf_i hs
  obtain ⟨w', hr, ho, hg⟩ := hown.update intKeyed Try.underlying94 hn hk (val := v.val) (d := .held v.val) (ps := []) rfl
  refine ⟨w', hr, mp_of ho ⟨fun kl => ?_, fun u hu zd => ?_⟩ (vput_sorted hl v), hg⟩
  · by_cases e : kl = ikey v.s
    · subst e
      rw [Maps.has_put_same hown.isMap (intKeyed.key hk)]
      simp only [true_iff]
      exact ⟨v, mem_vput.2 (.inl rfl), rfl⟩
    · rw [Maps.has_put_other e, hD.keys]
      constructor
      · rintro ⟨u, hu, rfl⟩
        exact ⟨u, mem_vput.2 (.inr ⟨hu, fun h => e (by rw [h])⟩), rfl⟩
      · rintro ⟨u, hu, rfl⟩
        rcases mem_vput.1 hu with rfl | ⟨hu, _⟩
        · exact absurd rfl e
        · exact ⟨u, hu, rfl⟩
  · rcases mem_vput.1 hu with rfl | ⟨hu, hne⟩
    · rw [Maps.atKey_put_same hown.isMap (intKeyed.key hk)]
    · rw [Maps.atKey_put_other (fun e => hne (ikey_inj e))]
      exact hD.vals u hu zd
end
/-- the blocks that an acceptor's calls may write -/
def AM (A mb k : Nat) : Prop := k = A ∨ k = mb
def arow (s : As) (mb : Nat) : Array Value := #[.int .i64 s.pr, .int .i64 s.pn, .int .i64 s.first, .map (some mb)]
/-- a landed acceptor at A, its map at mb, its values in blocks of P -/
structure Ac (w : World) (P : Nat → Prop) (A mb : Nat) (s : As) : Prop where
  row : w.heap[A]? = some (.cells (arow s mb) 96 (0, 0))
  ex : ∃ l, Mp w mb l ∧ s.vs = l.map Vv.vt ∧ ∀ p ∈ l, p.In w P
  ok : Ok s
section
variable {w w' : World} {P Q M : Nat → Prop} {A mb : Nat} {s : As}
theorem Ac.ltA (h : Ac w P A mb s) : A < w.heap.size := (Array.getElem?_eq_some_iff.1 h.row).1
theorem Ac.isMap (h : Ac w P A mb s) : ∃ es clock, w.heap[mb]? = some (.map es clock) := by obtain ⟨l, hm, _⟩ := h.ex; exact hm.isMap
theorem Ac.ltM (h : Ac w P A mb s) : mb < w.heap.size := by obtain ⟨l, hm, _⟩ := h.ex; exact hm.lt
theorem Ac.lt (h : Ac w P A mb s) : ∀ k, AM A mb k → k < w.heap.size := fun k hk => by
  rcases hk with rfl | rfl
  · exact h.ltA
  · exact h.ltM
theorem Ac.mA (h : Ac w P A mb s) : mb ≠ A := fun e => by
  obtain ⟨es, clock, hb⟩ := h.isMap
  have := h.row
  rw [← e, hb] at this
  cases this
theorem Ac.noB (h : Ac w P A mb s) : ∀ k, AM A mb k → NoB w k := fun k hk => by
  rcases hk with rfl | rfl
  · refine NoB.of_row h.row (fun v hv x e => ?_)
    subst e
    simp [arow] at hv
  · obtain ⟨es, clock, hb⟩ := h.isMap
    exact NoB.of_map hb
theorem Ac.noV (h : Ac w P A mb s) : ∀ k, AM A mb k → NoV w k := fun k hk => by
  rcases hk with rfl | rfl
  · exact NoV.of_row h.row (by decide)
  · obtain ⟨es, clock, hb⟩ := h.isMap
    exact NoV.of_map hb
theorem Ac.c0 (h : Ac w P A mb s) : w.cell? ⟨A, 0, none⟩ = some (.int .i64 s.pr) := by rw [cell_of_row _ _ _ _ _ _ h.row]; rfl
theorem Ac.c1 (h : Ac w P A mb s) : w.cell? ⟨A, 1, none⟩ = some (.int .i64 s.pn) := by rw [cell_of_row _ _ _ _ _ _ h.row]; rfl
theorem Ac.c2 (h : Ac w P A mb s) : w.cell? ⟨A, 2, none⟩ = some (.int .i64 s.first) := by rw [cell_of_row _ _ _ _ _ _ h.row]; rfl
theorem Ac.c3 (h : Ac w P A mb s) : w.cell? ⟨A, 3, none⟩ = some (.map (some mb)) := by rw [cell_of_row _ _ _ _ _ _ h.row]; rfl
theorem Ac.f (h : Ac w P A mb s) (o : Nat) : w.frozen? ⟨A, o, none⟩ = false := by simp [World.frozen?, h.row]
theorem Ac.same (h : Ac w P A mb s) (eA : w'.heap[A]? = w.heap[A]?) (eM : w'.heap[mb]? = w.heap[mb]?) (hb : ∀ p : Vv, p.In w P → p.In w' P) : Ac w' P A mb s := by
  obtain ⟨l, h1, h2, h3⟩ := h.ex
  exact ⟨eA.trans h.row, ⟨l, h1.same eM, h2, fun p hp => hb p (h3 p hp)⟩, h.ok⟩
theorem Ac.below (h : Ac w P A mb s) (hb : Below w.heap.size w w') : Ac w' P A mb s := h.same (hb.block _ h.ltA) (hb.block _ h.ltM) (fun p hp => hp.below hb)
theorem Ac.drewN (h : Ac w P A mb s) (n : Nat) : Ac (w.drewN n) P A mb s := h.same rfl rfl (fun p hp => hp.same (fun _ _ _ => rfl))
theorem Ac.drew (h : Ac w P A mb s) : Ac w.drew P A mb s := h.same rfl rfl (fun p hp => hp.same (fun _ _ _ => rfl))
theorem Ac.chg (h : Ac w P A mb s) (hc : Chg M w w') (hM : ∀ k, M k → k ≠ A ∧ k ≠ mb ∧ (¬ P k ∨ NoB w k)) : Ac w' P A mb s :=
  h.same (hc.block _ h.ltA (fun hm => (hM _ hm).1 rfl)) (hc.block _ h.ltM (fun hm => (hM _ hm).2.1 rfl)) (fun p hp => hp.chg hc (fun k hk => (hM k hk).2.2))
theorem Ac.mono (h : Ac w P A mb s) (hq : ∀ k, P k → k < w.heap.size → Q k) : Ac w Q A mb s := by
  obtain ⟨l, h1, h2, h3⟩ := h.ex
  exact ⟨h.row, ⟨l, h1, h2, fun p hp => (h3 p hp).mono hq⟩, h.ok⟩
end
/-- a list of votes in a row of its own, from block B on, the values in blocks of P -/
structure Vl (w : World) (B : Nat) (P : Nat → Prop) (a : Option Addr) (m c : Nat) (l : List Vv) : Prop where
  row : w.ownsRow B 45 4 (.slice a m c) m (vcells l)
  len : l.length = m
  ins : ∀ p ∈ l, p.In w P
theorem vl_nil (w : World) (B : Nat) (P : Nat → Prop) : Vl w B P none 0 0 [] := ⟨World.ownsRow_nil _ _ _ _, rfl, fun p hp => absurd hp (by simp)⟩
theorem own_isV {w : World} {B n k : Nat} {v : Value} {xs : List Value} (h : w.ownsRow B 45 4 v n xs) (hk : v.ownBlock = some k) : ¬ NoV w k := fun hn => by
  obtain ⟨_, ⟨e, _⟩ | ⟨g, cp, cur, e, _, hg, _⟩⟩ := h
  · rw [e] at hk; cases hk
  · rw [e] at hk
    have : g = k := by simpa [Value.ownBlock] using hk
    exact hn _ (this ▸ hg)
section
variable {w w' : World} {B : Nat} {P Q M : Nat → Prop} {a : Option Addr} {m c : Nat} {l : List Vv}
theorem Vl.below (h : Vl w B P a m c l) (hb : Below w.heap.size w w') : Vl w' B P a m c l :=
  ⟨row_same h.row (fun k hk => hb.block k (h.row.lt k hk).2), h.len, fun p hp => (h.ins p hp).below hb⟩
theorem Vl.chg (h : Vl w B P a m c l) (hc : Chg M w w') (hM : ∀ k, M k → NoV w k ∧ (¬ P k ∨ NoB w k)) : Vl w' B P a m c l :=
  ⟨row_same h.row (fun k hk => hc.block k (h.row.lt k hk).2 (fun hm => own_isV h.row hk (hM k hm).1)), h.len, fun p hp => (h.ins p hp).chg hc (fun k hk => (hM k hk).2)⟩
theorem Vl.mono (h : Vl w B P a m c l) (hq : ∀ k, P k → k < w.heap.size → Q k) : Vl w B Q a m c l := ⟨h.row, h.len, fun p hp => (h.ins p hp).mono hq⟩
/-- the i-th vote's cells -/
theorem Vl.at (h : Vl w B P a m c l) {i : Nat} {p : Vv} (hi : l[i]? = some p) :
    ∃ b, a = some ⟨b, 0, none⟩ ∧ B ≤ b ∧ b < w.heap.size ∧ w.cell? ⟨b, i * 4, none⟩ = some (.int .i64 p.s) ∧ w.cell? ⟨b, i * 4 + 1, none⟩ = some (.int .i64 p.r) ∧ w.cell? ⟨b, i * 4 + 2, none⟩ = some (.int .i64 p.n) ∧ w.cell? ⟨b, i * 4 + 3, none⟩ = some (.slice p.a p.m p.cp) := by
  have hl : i < l.length := (List.getElem?_eq_some_iff.1 hi).1
  have hlen := h.len
  obtain ⟨_, ⟨e, e2⟩ | ⟨g, cp, cur, e, hB, hg, _⟩⟩ := id h.row
  · omega
  · obtain ⟨e1, e3⟩ : a = some ⟨g, 0, none⟩ ∧ c = cp := by simpa using e
    have row := h.row
    rw [e1] at row
    have hc : ∀ j, j < 4 → w.cell? ⟨g, i * 4 + j, none⟩ = p.cells[j]? := fun j hj => by
      rw [row.cellAt (i * 4 + j) (by omega)]
      exact vcells_at _ _ _ hi j hj
    exact ⟨g, e1, hB, (Array.getElem?_eq_some_iff.1 hg).1, (hc 0 (by omega)).trans rfl, (hc 1 (by omega)).trans rfl, (hc 2 (by omega)).trans rfl, (hc 3 (by omega)).trans rfl⟩
end
/-- each value's bytes are in a row of their own, from block B on -/
def Fresh (w : World) (B : Nat) (l : List Vv) : Prop := ∀ p ∈ l, w.ownsRow B 5 1 (.slice p.a p.m p.cp) p.m (B8.vals p.b)
theorem Fresh.below {w w' : World} {B : Nat} {l : List Vv} (h : Fresh w B l) (hb : Below w.heap.size w w') : Fresh w' B l :=
  fun p hp => row_same (h p hp) (fun k hk => hb.block k ((h p hp).lt k hk).2)
end Go.Proofs.Ytjhkenmlaammnaa
