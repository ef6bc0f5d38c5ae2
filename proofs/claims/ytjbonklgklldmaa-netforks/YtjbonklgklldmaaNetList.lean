/- The law folder's list: the packets of a landed net, with memory of their own. No condition. -/
import Derived.Test.YtjbonklgklldmaaNetIter
import Derived.Test.YtjbonklgklldmaaNetDouble
import Derived.Deep.RegionWith
namespace Go.Proofs.Ytjbonklgklldmaa
open Go.ChangeShapes Go.WideShapes Go.ChangeAt Go.RowKit Go.Shelf B8 Nm
set_option linter.unusedVariables false
attribute [local go_sem] Oper.semAt_some

/-- a packet with a body in a block of its own, from B0 on -/
def Own1 (W : World) (B0 : Nat) (p : Pv) : Prop := ∃ g, p.a = some ⟨g, 0, none⟩ ∧ p.cp = p.n ∧ Owned W g p.n p.b ∧ B0 ≤ g
theorem Own1.lt {W : World} {B0 : Nat} {p : Pv} (h : Own1 W B0 p) : ∀ ad, p.a = some ad → ad.block < W.heap.size := by
  obtain ⟨g, e, _, ho, _⟩ := h
  intro ad e2
  rw [e] at e2
  obtain rfl := Option.some.inj e2
  exact (Array.getElem?_eq_some_iff.1 ho.row).1
theorem Own1.ins {W : World} {B0 : Nat} {p : Pv} (h : Own1 W B0 p) : p.In W := by
  refine ⟨?_, h.lt⟩
  obtain ⟨g, e, e2, ho, _⟩ := h
  rw [e, e2]
  exact ho.sq
theorem Own1.same {W W' : World} {B0 : Nat} {p : Pv} (h : Own1 W B0 p) (hs : ∀ (k : Nat) (cs : Array Value), W.heap[k]? = some (.cells cs 5 (0, 0)) → W'.heap[k]? = some (.cells cs 5 (0, 0))) : Own1 W' B0 p := by
  obtain ⟨g, e, e2, ho, hg⟩ := h
  exact ⟨g, e, e2, ⟨hs _ _ ho.row, ho.len, ho.wf⟩, hg⟩
/-- what has been gathered: the box B holds a list of k packets, from N1 on -/
structure Gath (W : World) (B N1 B0 k : Nat) (C : List Pv) : Prop where
  ex : ∃ a c l', Boxed W B 27 (.slice a k c) ∧ W.ownsRow N1 33 3 (.slice a k c) k (pcells l') ∧ l'.map Pv.pk = (C.take k).map Pv.pk ∧ ∀ p ∈ l', Own1 W B0 p
theorem row_soft {W W' : World} {B N T sz n : Nat} {v : Value} {xs : List Value} (h : W.ownsRow B T sz v n xs) (hs : ∀ (k : Nat) (cs : Array Value) (t : TypeId), W.heap[k]? = some (.cells cs t (0, 0)) → W'.heap[k]? = some (.cells cs t (0, 0))) : W'.ownsRow B T sz v n xs := by
  obtain ⟨hl, h | ⟨g, cp, cur, h1, h2, h3, h4, h5, h6, h7⟩⟩ := h
  · exact ⟨hl, .inl h⟩
  · exact ⟨hl, .inr ⟨g, cp, cur, h1, h2, hs _ _ _ h3, h4, h5, h6, h7⟩⟩
theorem Gath.soft {W W' : World} {B N1 B0 k X : Nat} {C : List Pv} (h : Gath W B N1 B0 k C) (hs : Soft X W W') : Gath W' B N1 B0 k C := by
  obtain ⟨a, c, l', h1, h2, h3, h4⟩ := h.ex
  exact ⟨a, c, l', hs.same _ _ h1 (.inr rfl), row_soft (N := 0) h2 (fun k cs t hk => hs.same _ _ hk (.inr rfl)), h3, fun p hp => (h4 p hp).same (fun k cs hk => hs.same _ _ hk (.inr rfl))⟩
/-- the invariant of list's loop -/
structure ListI (w w1 : World) (C : List Pv) (k : Nat) (W : World) : Prop where
  b0 : Boxed W w.heap.size 27 (.slice none 0 0)
  b1 : Boxed W (w.heap.size + 1) 4 (.bool false)
  g : Gath W (w.heap.size + 1 + 1) w1.heap.size w.heap.size k C
  below : Below w.heap.size w W
  big : w1.heap.size ≤ W.heap.size
theorem ListI.soft {w w1 W W' : World} {C : List Pv} {k : Nat} (h : ListI w w1 C k W) (hs : Soft w1.heap.size W W') (hw : w.heap.size ≤ w1.heap.size) : ListI w w1 C k W' :=
  ⟨hs.same _ _ h.b0 (.inr rfl), hs.same _ _ h.b1 (.inr rfl), h.g.soft hs, h.below.trans ⟨hs.os, hs.tape, hs.output, hs.size, fun j hj => by
    have hj' : j < W.heap.size := Nat.lt_of_lt_of_le hj h.below.size
    rw [Array.getElem?_eq_getElem hj']
    exact hs.same j _ (Array.getElem?_eq_getElem hj') (.inl (by omega))⟩, Nat.le_trans h.big hs.size⟩

theorem Kept.below {w w' : World} {N0 Bs m : Nat} {v : Value} {C : List Pv} (h : Kept w N0 Bs v m C) (hb : Below w.heap.size w w') : Kept w' N0 Bs v m C :=
  ⟨(hb.block _ h.box.lt).trans h.box, row_same h.row (fun k hk => hb.block k (h.row.lt k hk).2), h.shape, fun p hp => (h.ins p hp).below hb, h.len, h.lo⟩
theorem own_cells {W : World} {N T sz n : Nat} {v : Value} {xs : List Value} (h : W.ownsRow N T sz v n xs) {k : Nat} (hk : v.ownBlock = some k) : ∃ cs, W.heap[k]? = some (.cells cs T (0, 0)) := by
  obtain ⟨_, ⟨rfl, _⟩ | ⟨g, cp, cur, rfl, _, h3, _⟩⟩ := h
  · simp [Value.ownBlock] at hk
  · simp [Value.ownBlock] at hk
    subst hk
    exact ⟨cur, h3⟩
/-- one packet more is gathered -/
theorem gath_step {W w4 : World} {B N1 B0 k : Nat} {a : Option Addr} {c g' cap' : Nat} {l' C : List Pv} {p q : Pv} {tmp : Obj} (hbox : Boxed W B 27 (.slice a k c)) (hrow : W.ownsRow N1 33 3 (.slice a k c) k (pcells l'))
    (hmap : l'.map Pv.pk = (C.take k).map Pv.pk) (hall : ∀ p ∈ l', Own1 W B0 p) (hq : Own1 W B0 q) (hqp : q.pk = p.pk) (hp : C[k]? = some p)
    (hown' : w4.ownsRow N1 33 3 (.slice (some ⟨g', 0, none⟩) (k + 1) cap') (k + 1) (pcells l' ++ q.cells)) (hgrow : (W.alloc tmp).grownBy w4 (Value.slice a k c).ownBlock) :
    Boxed w4 B 27 (.slice a k c) ∧ Gath (w4.setCell ⟨B, 0, none⟩ (.slice (some ⟨g', 0, none⟩) (k + 1) cap')) B N1 B0 (k + 1) C ∧
    (∀ (j : Nat) (o : Obj), W.heap[j]? = some o → j ≠ B → (Value.slice a k c).ownBlock ≠ some j → (w4.setCell ⟨B, 0, none⟩ (.slice (some ⟨g', 0, none⟩) (k + 1) cap')).heap[j]? = some o) ∧
    Chg (fun j => j = B ∨ (Value.slice a k c).ownBlock = some j) W (w4.setCell ⟨B, 0, none⟩ (.slice (some ⟨g', 0, none⟩) (k + 1) cap')) := by
  have hch : Chg (fun j => j = B ∨ (Value.slice a k c).ownBlock = some j) W (w4.setCell ⟨B, 0, none⟩ (.slice (some ⟨g', 0, none⟩) (k + 1) cap')) :=
    (((Chg.refl _ W).alloc tmp).grown hgrow (fun j hj => .inl (.inr hj))).setCell (p := ⟨B, 0, none⟩) (.inl (.inl rfl)) _
  have hv1 : Boxed w4 B 27 (.slice a k c) := (hbox.alloc tmp).kept hgrow (hbox.not_row (by decide) hrow)
  have oth : ∀ (j : Nat) (o : Obj), W.heap[j]? = some o → j ≠ B → (Value.slice a k c).ownBlock ≠ some j → (w4.setCell ⟨B, 0, none⟩ (.slice (some ⟨g', 0, none⟩) (k + 1) cap')).heap[j]? = some o := fun j o hj h1 h2 =>
    (hch.block j (Array.getElem?_eq_some_iff.1 hj).1 (fun h => h.elim h1 h2)).trans hj
  have bytes : ∀ (j : Nat) (cs : Array Value), W.heap[j]? = some (.cells cs 5 (0, 0)) → (w4.setCell ⟨B, 0, none⟩ (.slice (some ⟨g', 0, none⟩) (k + 1) cap')).heap[j]? = some (.cells cs 5 (0, 0)) := fun j cs hj => oth j _ hj
    (fun e => by rw [e, show W.heap[B]? = _ from hbox] at hj; simp at hj) (fun e => by
      obtain ⟨cs2, h2⟩ := own_cells hrow e
      rw [h2] at hj
      simp at hj)
  refine ⟨hv1, ⟨some ⟨g', 0, none⟩, cap', l' ++ [q], hv1.set _, ?_, ?_, fun r hr => ?_⟩, oth, hch⟩
  · rw [pcells_append, show pcells [q] = q.cells by simp [pcells]]
    refine row_same hown' (fun j hj => Below.heap_setCell _ _ _ _ (fun e => ?_))
    obtain ⟨cs2, h2⟩ := own_cells hown' hj
    rw [e, show w4.heap[B]? = _ from hv1] at h2
    simp at h2
  · have hk : k < C.length := (List.getElem?_eq_some_iff.1 hp).1
    have ep : C[k] = p := (List.getElem?_eq_some_iff.1 hp).2
    rw [List.map_append, hmap, List.take_succ_eq_append_getElem hk, List.map_append, ep]
    simp [hqp]
  · rcases List.mem_append.1 hr with hr | hr
    · exact (hall r hr).same bytes
    · rw [List.mem_singleton.1 hr]
      exact hq.same bytes
theorem run_loadVar_box {P : Program} {w : World} {B : Nat} {t : TypeId} {v : Value} (h : Boxed w B t v) {ty : TypeId} {d : TypeDesc} (hu : P.underlying ty = some d) (hd : (match d with | .struct _ | .array _ _ => false | _ => true) = true) : (loadVar ty ⟨B, 0, none⟩).run P w = .ok v w := by
  have hc := h.cell
  cases d <;> simp at hd <;> simp [loadVar, isAgg, run_underlying hu, hc]
theorem results_cell_cell {P : Program} {fn : Func} {p q : Tmp} {t u : TypeId} (h : fn.results = #[.cell p t, .cell q u]) (tmps : Array Value) (w : World) (g k : Nat) (v x : Value)
    (hp : tmps.getD p undef = .pointer (some ⟨g, 0, none⟩)) (hq : tmps.getD q undef = .pointer (some ⟨k, 0, none⟩)) (h1 : (loadVar t ⟨g, 0, none⟩).run P w = .ok v w) (h2 : (loadVar u ⟨k, 0, none⟩).run P w = .ok x w) :
    (results fn tmps).run P w = .ok (.tuple #[v, x]) w := by
  have hp' : tmps[p]?.getD undef = .pointer (some ⟨g, 0, none⟩) := by simpa using hp
  have hq' : tmps[q]?.getD undef = .pointer (some ⟨k, 0, none⟩) := by simpa using hq
  simp [results, h, hp', hq', asAddr, h1, h2]
theorem boxed_put {W : World} {B l : Nat} {t : TypeId} {v : Value} {o : Obj} (h : Boxed W B t v) (hl : W.heap[l]? = some o) (ho : o.isCells = false) (o' : Obj) : Boxed (W.putObj l o') B t v :=
  (World.putObj_heap_other (fun e => by rw [← e, show W.heap[B]? = _ from h] at hl; cases hl; cases ho)).trans h
/-- a statement that never ends otherwise than by going on -/
theorem wp_nopanic {P : Program} {s : Code} {K : Act → World → Prop} {Q' : Exit → Act → World → Prop} {a : Act} {w : World} (h : s.wp P (Exit.then K (fun _ _ _ => False)) a w) : s.wp P (Exit.then K Q') a w := by
  refine wp_mono h ?_
  intro e a' w' hq
  cases e with
  | normal => exact hq
  | exit id => exact hq.elim
  | goto l => exact hq.elim
  | ret => exact hq.elim
  | panic ch => exact hq.elim
  | outgrown => exact hq.elim
theorem equalIn_func_nil (w : World) (d : Nat) (f : Fn) (x y : Array Value) : (Op.equalIn (d + 1) 36 (.func f x y) .nilFunc).run Try.prog w = .ok false w := by
  simp [Op.equalIn, run_underlying Try.underlying36]
theorem eql_func_nil (w : World) (f : Fn) (x y : Array Value) : (binOp .eql 36 (.func f x y) .nilFunc).run Try.prog w = .ok (.bool false) w := by
  simp only [binOp]
  simp [Op.equal, Op.maxDepth, equalIn_func_nil w 9999 f x y]
set_option maxRecDepth 100000 in
set_option maxHeartbeats 2000000 in
theorem list_net {w : World} {L : Lay} {kk : Nat} {s : Ns} (h : Nt w L kk s) :
    Calls Try.prog 7 #[.pointer (some ⟨L.N, 0, none⟩)] w fun e w' => ∃ a c l', e = .returned (.tuple #[.slice a L.m c, .bool true]) ∧ w'.ownsRow w.heap.size 33 3 (.slice a L.m c) L.m (pcells l') ∧ l'.map Pv.pk = s.ps ∧ (∀ p ∈ l', Own1 w' w.heap.size p) ∧ Below w.heap.size w w' := by
  obtain ⟨i0, hi, hz0, hz1, hz2⟩ := info_parts pkinfo
  have hm : L.m ≤ 256 := by have := h.ok.most; rw [h.ps, List.length_map, ← h.len] at this; exact this
  have hbd : Hid (∀ p ∈ L.l, p.n ≤ 16384) := fun p hp => by
    have h1 := h.ok.body p.pk (by rw [h.ps]; exact List.mem_map.2 ⟨p, hp, rfl⟩)
    have h2 := (h.ins p hp).1.length
    have h3 : p.b.length ≤ 16384 := h1
    omega
  obtain ⟨u, eu⟩ : ∃ u, u = ((w.alloc (.cells #[.slice none 0 0] 27)).alloc (.cells #[.bool false] 4)).alloc (.cells #[.slice none 0 0] 27) := ⟨_, rfl⟩
  have BU : Hid (Below w.heap.size w u) := by rw [eu]; exact below_alloc (below_alloc (below_alloc (Below.refl _ _) _) _) _
  have SU : Hid (u.heap.size = w.heap.size + 3) := by rw [eu]; show _ = _; simp
  have X0 : Hid (Boxed u w.heap.size 27 (.slice none 0 0)) := by rw [eu]; exact ((Boxed.new w _ _).alloc _).alloc _
  have X1 : Hid (Boxed u (w.heap.size + 1) 4 (.bool false)) := by
    rw [eu]
    have := (Boxed.new (w.alloc (.cells #[.slice none 0 0] 27)) 4 (.bool false)).alloc (.cells #[.slice none 0 0] 27)
    rw [World.size_alloc] at this
    exact this
  have X2 : Hid (Boxed u (w.heap.size + 1 + 1) 27 (.slice none 0 0)) := by
    rw [eu]
    have := Boxed.new ((w.alloc (.cells #[.slice none 0 0] 27)).alloc (.cells #[.bool false] 4)) 27 (.slice none 0 0)
    rw [World.size_alloc, World.size_alloc] at this
    exact this
  have NU := hide (h.below BU.out)
  have CA := hide (all_net NU.out)
  rw [eu] at CA
  have EU := hide eu
  have H := hide h
  clear h eu
  refine (callsIn_wide (n := 9)).1 (callsIn_of_wp_marks Try.func7 rfl trivial (wpIn_wide.2 ?_) rfl)
  simp only [Try.ntmps7, List.size_toArray, List.length_cons, List.length_nil, Nat.reduceAdd, Nat.reduceSub, Array.replicate_succ, Array.replicate_zero, List.push_toArray, List.append_toArray, List.nil_append, List.cons_append]
  go_wp2_with fail
  refine CA.out.mono ?_
  rintro e w1 ⟨Bs, v, rfl, hb1, hk1⟩
  rw [← EU.out] at hb1 hk1
  have B1 := hide (below_step BU.out hb1)
  have HK1 := hide hk1
  have BU1 := hide hb1
  clear hb1 hk1
  have hqf := eql_func_nil w1
  go_wp2_with fail
  clear hqf
  have hw1 : Hid (w.heap.size ≤ w1.heap.size) := B1.out.size
  refine (wpIn_wide (n := 9)).1 (range_own (gf := 23) (lb := #[.pointer (some ⟨Bs, 0, none⟩)]) rfl (enters_of Try.func23 (by kernel_rfl) rfl) L.m (IterK Bs v L.l) (fun k hk => HK1.out.ltK hk) (ListI w w1 L.l) (Comes w.heap.size L.l)
    (fun k W W' h hs => h.soft hs hw1.out)
    (fun l J hJ hY W hW hj => all2_in (9 - 1) l u.heap.size w.heap.size Bs L.m hm hbd.out J hJ hY W (HK1.out.below hW) (Nat.le_trans hw1.out hW.size) hj)
    ⟨(BU1.out.block _ X0.out.lt).trans X0.out, (BU1.out.block _ X1.out.lt).trans X1.out, ⟨none, 0, [], (BU1.out.block _ X2.out.lt).trans X2.out, World.ownsRow_nil _ _ _ _, rfl, by simp⟩, B1.out, Nat.le_refl _⟩ ?round ?done)
  case round =>
    rintro l k args W hl hk hi2 ⟨p, g0, hp, rfl, ho, hg⟩
    refine ⟨rfl, ?_⟩
    gi_wp2
    have lt0 : ∀ j, IterK Bs v L.l j → j < W.heap.size := fun j hj => Nat.lt_of_lt_of_le (HK1.out.ltK hj) hi2.big
    refine ⟨(KeepsOthers.alloc _ _).from _, keepK_below lt0 (below_alloc (Below.refl _ _) _), fun W2 hs => ?_⟩
    have S1 : Soft w1.heap.size W W2 := (Soft.of_below (below_alloc (Below.refl _ _) _)).trans hs
    have P2 := hide (hs.same _ _ (heap_alloc_new W _) (.inr rfl))
    have i2 := hi2.soft S1 hw1.out
    obtain ⟨a, c, l', hbox, hrow, hmap, hall⟩ := i2.g.ex
    have Q2 : Hid (Own1 W2 w.heap.size ⟨p.f, p.t, some ⟨g0, 0, none⟩, p.n, p.n, p.b⟩) := ⟨g0, rfl, rfl, ⟨S1.same _ _ ho.row (.inr rfl), ho.len, ho.wf⟩, hg⟩
    have c4 := hbox.cell
    have p0 : W2.cell? ⟨W.heap.size, 0, none⟩ = some (.int .i64 p.f) := by rw [cell_of_row W2 _ 0 _ _ _ P2.out]; rfl
    have p1 : W2.cell? ⟨W.heap.size, 1, none⟩ = some (.int .i64 p.t) := by rw [cell_of_row W2 _ 1 _ _ _ P2.out]; rfl
    have p2 : W2.cell? ⟨W.heap.size, 2, none⟩ = some (.slice (some ⟨g0, 0, none⟩) p.n p.n) := by rw [cell_of_row W2 _ 2 _ _ _ P2.out]; rfl
    have k1 : (k : Int) < 256 := by omega
    have hbig : w1.heap.size ≤ W2.heap.size := i2.big
    have HB := hide hbox
    have HR := hide hrow
    have HM := hide hmap
    have HA := hide hall
    have I2 := hide i2
    have HP := hide hp
    have KM := hide hk
    clear hbox hrow hmap hall i2 hi2 hp ho hg hs S1 P2 hk
    gi_wp2_with (gi_at_builtin; refine wpListIn_append_own _ rfl (.tmp 24) (.tmp 26) 27 rfl w1.heap.size 33 i0 (.agg zpk) 3 40 Try.underlying27 hi hz0 hz1 hz2 rfl (by omega) (.slice a k c) k (pcells l') rfl (HR.out.alloc _) ⟨W2.heap.size, 0, none⟩ 1 1 [.int .i64 p.f, .int .i64 p.t, .slice (some ⟨g0, 0, none⟩) p.n p.n] rfl rfl cells3 (by intro u hu; simp at hu; rcases hu with rfl | rfl | rfl <;> rfl) (by unfold maxLen; omega) (by omega) (by simp; omega) ?_; intro v' w4 hown' hgrow _; obtain ⟨g', cap', rfl⟩ := ownsRow_succ hown'; obtain ⟨t1, t2, t3, t4⟩ := gath_step HB.out HR.out HM.out HA.out Q2.out (show Pv.pk _ = p.pk from rfl) HP.out hown' hgrow; have hc1 := t1.cell; have hf1 := t1.frozen; have T2 := hide t2; have T3 := hide t3; have T4 := hide t4; clear hown' hgrow t1 t2 t3 t4)
    have OW : ∀ j, (Value.slice a k c).ownBlock = some j → w1.heap.size ≤ j := fun j hj => (HR.out.lt j hj).1
    have hsu := SU.out
    have hu1 := BU1.out.size
    refine ⟨⟨T4.out.size, fun j o _ hj ho => T3.out j o hj (fun e => ?_) (fun e => ?_)⟩, ⟨T4.out.size, fun j hj => T4.out.block j (Nat.lt_of_lt_of_le (HK1.out.ltK hj) hbig) (fun hx => ?_)⟩, T3.out _ _ I2.out.b0 (by omega) (fun e => by have := OW _ e; omega), T3.out _ _ I2.out.b1 (by omega) (fun e => by have := OW _ e; omega), T2.out, I2.out.below.trans (T4.out.below I2.out.below.size (fun j hj => ?_)), Nat.le_trans hbig T4.out.size⟩
    · rw [e, show W2.heap[w.heap.size + 1 + 1]? = _ from HB.out] at hj
      cases hj
      cases ho
    · obtain ⟨cs, h2⟩ := own_cells HR.out e
      rw [h2] at hj
      cases hj
      cases ho
    · have h1 := HK1.out.ltK hj
      rcases hx with hx | hx
      · rcases hj with hj | hj | ⟨q, hq, ad, e, hj⟩
        · have := HK1.out.lo; omega
        · have := (HK1.out.row.lt j hj).1; omega
        · have := (H.out.ins q hq).2 ad e; omega
      · have := OW j hx; omega
    · rcases hj with hj | hj
      · omega
      · have := OW j hj; omega
  case done =>
    intro D W hD hi2 hK
    obtain ⟨a, c, l', hbox, hrow, hmap, hall⟩ := hi2.g.ex
    have NW := hide (H.out.below hi2.below)
    have CL := hide (len_net NW.out.drew)
    rw [show s.ps.length = L.m by rw [H.out.ps, List.length_map]; exact H.out.len.symm] at CL
    have c0 := hi2.b0.cell
    have f0 := hi2.b0.frozen
    have c1 := hi2.b1.cell
    have f1 := hi2.b1.frozen
    have c2 := hbox.cell
    have HI := hide hi2
    have HB := hide hbox
    have HR := hide hrow
    have HM := hide hmap
    have HA := hide hall
    have HD := hide hD
    have HKK := hide hK
    clear hbox hrow hmap hall hi2 hK hD
    dsimp only
    go_wp2_with fail
    go_cut [] from 28 (fun w5 => w5 = ((W.setCell ⟨w.heap.size, 0, none⟩ (.slice a L.m c)).setCell ⟨w.heap.size + 1, 0, none⟩ (.bool true)).drew)
    case first =>
      refine wp_nopanic ?_
      go_region_with (go_at_call 18; refine CL.out.mono ?_; rintro e w5 ⟨rfl, rfl⟩)
      all_goals (go_wp2_with fail; go_meet; case rel => rfl)
    case rest =>
      subst hcut
      have K5 : Hid (((W.setCell ⟨w.heap.size, 0, none⟩ (.slice a L.m c)).setCell ⟨w.heap.size + 1, 0, none⟩ (.bool true)).drew.heap[D]? = some (.deferred (some []))) := by
        have n0 : D ≠ w.heap.size := fun e => by have := HKK.out; rw [e, show W.heap[w.heap.size]? = _ from HI.out.b0] at this; cases this
        have n1 : D ≠ w.heap.size + 1 := fun e => by have := HKK.out; rw [e, show W.heap[w.heap.size + 1]? = _ from HI.out.b1] at this; cases this
        exact (Below.heap_setCell _ _ _ _ n1).trans ((Below.heap_setCell _ _ _ _ n0).trans HKK.out)
      have b0' : Hid (Boxed ((W.setCell ⟨w.heap.size, 0, none⟩ (.slice a L.m c)).setCell ⟨w.heap.size + 1, 0, none⟩ (.bool true)).drew w.heap.size 27 (.slice a L.m c)) := (HI.out.b0.set _).other (by omega) _
      have b1' : Hid (Boxed ((W.setCell ⟨w.heap.size, 0, none⟩ (.slice a L.m c)).setCell ⟨w.heap.size + 1, 0, none⟩ (.bool true)).drew (w.heap.size + 1) 4 (.bool true)) := (HI.out.b1.other (by omega) _).set _
      go_wp2_with fail
      have b2' : Hid (Below w.heap.size W ((W.setCell ⟨w.heap.size, 0, none⟩ (.slice a L.m c)).setCell ⟨w.heap.size + 1, 0, none⟩ (.bool true)).drew) := (((Below.refl w.heap.size W).setCell (p := ⟨w.heap.size, 0, none⟩) (Nat.le_refl _) _).setCell (p := ⟨w.heap.size + 1, 0, none⟩) (Nat.le_succ _) _).drew
      have oth : Hid (∀ (j : Nat) (cs : Array Value) (t : TypeId), j ≠ w.heap.size → j ≠ w.heap.size + 1 → W.heap[j]? = some (.cells cs t (0, 0)) → (((W.setCell ⟨w.heap.size, 0, none⟩ (.slice a L.m c)).setCell ⟨w.heap.size + 1, 0, none⟩ (.bool true)).drew.putObj D (.deferred none)).heap[j]? = some (.cells cs t (0, 0))) := fun j cs t h1 h2 hj =>
        (World.putObj_heap_other (fun e => by
          have := HKK.out
          rw [← e, hj] at this
          cases this)).trans ((Below.heap_setCell _ _ _ _ h2).trans ((Below.heap_setCell _ _ _ _ h1).trans hj))
      refine ⟨by simp, .inl ⟨_, _, rfl, run_takeDeferred K5.out, ?_⟩⟩
      refine ⟨_, results_cell_cell rfl _ _ w.heap.size (w.heap.size + 1) (.slice a L.m c) (.bool true) rfl rfl (run_loadVar_box (boxed_put b0'.out K5.out rfl _) Try.underlying27 rfl) (run_loadVar_box (boxed_put b1'.out K5.out rfl _) Try.underlying4 rfl), a, c, l', rfl, ?_, ?_, fun p hp => ?_, ?_⟩
      · obtain ⟨hl, h | ⟨g, cp, cur, h1, h2, h3, h4, h5, h6, h7⟩⟩ := HR.out
        · exact ⟨hl, .inl h⟩
        · have hw := hw1.out
          have hs := SU.out
          have hu := BU1.out.size
          exact ⟨hl, .inr ⟨g, cp, cur, h1, by omega, oth.out _ _ _ (by omega) (by omega) h3, h4, h5, h6, h7⟩⟩
      · rw [HM.out, H.out.ps, H.out.len, List.take_length]
      · obtain ⟨g, e1, e2, ho, hg⟩ := HA.out p hp
        refine ⟨g, e1, e2, ⟨oth.out _ _ _ (fun e => ?_) (fun e => ?_) ho.row, ho.len, ho.wf⟩, hg⟩
        · have h1 := ho.row
          rw [e, show W.heap[w.heap.size]? = _ from HI.out.b0] at h1
          simp at h1
        · have h1 := ho.row
          rw [e, show W.heap[w.heap.size + 1]? = _ from HI.out.b1] at h1
          simp at h1
      · have hd := HD.out
        have hw := hw1.out
        exact (HI.out.below.trans b2'.out).trans ((Below.refl _ _).grown (grownBy_putObj' _ D _) (by have := (Array.getElem?_eq_some_iff.1 K5.out).1; have := HI.out.below.size; have := b2'.out.size; omega) (fun k e => by cases e; omega))
end Go.Proofs.Ytjbonklgklldmaa
