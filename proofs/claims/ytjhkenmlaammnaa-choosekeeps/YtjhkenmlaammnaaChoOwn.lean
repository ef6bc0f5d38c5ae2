/- The law folder's CopyVotes and own: promises of their own. No condition. -/
import Derived.Test.YtjhkenmlaammnaaChoSort
import Derived.Deep.RegionHeld3
import Derived.Deep.Cut
namespace Go.Proofs.Ytjhkenmlaammnaa
open Go.ChangeShapes Go.WideShapes Go.ChangeAt Go.RowKit B8 Am Cz
set_option linter.unusedVariables false

set_option maxRecDepth 100000 in
set_option maxHeartbeats 1000000 in
theorem copyv_any {w : World} {a : Option Addr} {m cap : Nat} {l : List Vv} (h : Vs w a m l) :
    Calls Try.prog 27 #[.slice a m cap] w fun e w' => ∃ a' c' l', e = .returned (.slice a' m c') ∧ Below w.heap.size w w' ∧ Told w' w.heap.size a' m c' l' ∧ l'.map Vv.vt = l.map Vv.vt := by
  have H := hide h
  have RM := h.room
  clear h
  go_enter Try.func27, Try.ntmps27
  go_wp2_with fail
  go_loopw [3, 4] (fun t i wr => ∃ (k : Nat) (a1 : Option Addr) (c1 : Nat) (l1 : List Vv), k ≤ m ∧ i = .int .i64 k ∧ t = .slice a1 k c1 ∧ Hid (Below w.heap.size w wr) ∧ Hid (Told wr w.heap.size a1 k c1 l1) ∧ Hid (l1.map Vv.vt = (l.take k).map Vv.vt)) (fun _ i _ => m - (intOf i).toNat)
  case atStart => exact ⟨0, none, 0, [], Nat.zero_le _, rfl, rfl, Below.refl _ _, told_nil _ _, rfl⟩
  case round =>
    obtain ⟨k, a1, c1, l1, hk, rfl, rfl, HB, HT, HE⟩ := hrel
    by_cases hlt : k < m
    · have i1 : (k : Int) < (m : Int) := by omega
      have i2 : (0 : Int) ≤ (k : Int) := by omega
      obtain ⟨ob, off, p, rfl, oblt, hp, hpl, d0, d1, d2, d3⟩ := (H.out.below HB.out).at hlt
      have VO := hide (H.out.each p hpl)
      have EK : Hid ((l.take (k + 1)).map Vv.vt = (l.take k).map Vv.vt ++ [p.vt]) := by show _ = _; rw [take_snoc hp]; simp
      obtain ⟨V, eV⟩ : ∃ V, V = wr.heap.size := ⟨_, rfl⟩
      obtain ⟨u, eu⟩ : ∃ u, u = wr.alloc (.cells #[.int .i64 p.s, .int .i64 p.r, .int .i64 p.n, .slice p.a p.m p.cp] 45) := ⟨_, rfl⟩
      have BU : Hid (Below wr.heap.size wr u) := by rw [eu]; exact below_alloc (Below.refl _ _) _
      have RV : Hid (u.heap[V]? = some (.cells #[.int .i64 p.s, .int .i64 p.r, .int .i64 p.n, .slice p.a p.m p.cp] 45 (0, 0))) := by rw [eu, eV]; exact heap_alloc_new wr _
      have EU := hide eu
      have EV := hide eV
      have QU : Hid (Sq u p.a p.m p.cp p.b) := (VO.out.1.below HB.out).below BU.out
      have SV : Hid (V < u.heap.size) := (Array.getElem?_eq_some_iff.1 RV.out).1
      have PM : Hid (p.m ≤ 140737488351232) := VO.out.2
      clear oblt eu eV hp hpl
      go_upto_region 6 with fail
      rw [← EU.out, ← EV.out]
      clear d0 d1 d2 d3
      have x3 : u.cell? ⟨V, 3, none⟩ = some (.slice p.a p.m p.cp) := by rw [cell_of_row _ _ _ _ _ _ RV.out]; rfl
      go_upto_region 7 with (at_builtin; refine wp_append_sq _ rfl _ _ rfl u.heap.size (.slice none 0 0) 0 [] rfl (World.ownsRow_nil _ _ _ _) p.a p.m p.cp p.b rfl QU.out (by have := PM.out; omega) (Nat.le_refl _) ?_; intro v2 w2 ho2 hg2; simp only [Nat.zero_add, List.nil_append] at ho2; obtain ⟨a2, c2, rfl, hq2⟩ := sq_of_row VO.out.1.length VO.out.1.wf ho2; have O2 := hide ho2; have G2 := hide hg2; have RV2 : Hid (w2.heap[V]? = some (.cells #[.int .i64 p.s, .int .i64 p.r, .int .i64 p.n, .slice p.a p.m p.cp] 45 (0, 0))) := (hg2.block V SV.out (by simp [Value.ownBlock])).trans RV.out; have y3 : w2.cell? ⟨V, 3, none⟩ = some (.slice p.a p.m p.cp) := by { rw [cell_of_row _ _ _ _ _ _ RV2.out]; rfl }; have fz : ∀ o, w2.frozen? ⟨V, o, none⟩ = false := fun o => by { simp [World.frozen?, RV2.out] }; clear ho2 hg2 hq2 x3)
      obtain ⟨w3, e3⟩ : ∃ w3, w3 = w2.setCell ⟨V, 3, none⟩ (.slice a2 p.m c2) := ⟨_, rfl⟩
      rw [← e3]
      have RV3 : Hid (w3.heap[V]? = some (.cells #[.int .i64 p.s, .int .i64 p.r, .int .i64 p.n, .slice a2 p.m c2] 45 (0, 0))) := by rw [e3]; exact put_row RV2.out
      have B2 : Hid (Below u.heap.size u w2) := (Below.refl _ _).grown G2.out (Nat.le_refl _) (fun j hj => by simp [Value.ownBlock] at hj)
      have B3 : Hid (Below wr.heap.size wr w3) := by rw [e3]; exact (below_step BU.out B2.out).setCell (p := ⟨V, 3, none⟩) (by rw [EV.out]; exact Nat.le_refl _) _
      have O3 : Hid (w3.ownsRow w.heap.size 5 1 (.slice a2 p.m c2) p.m (B8.vals p.b)) := by
        refine row_base (row_same O2.out (fun k hk => ?_)) (Nat.le_trans HB.out.size BU.out.size)
        have h1 := (O2.out.lt k hk).1
        have h2 := SV.out
        rw [e3]
        exact Below.heap_setCell _ _ _ _ (by show k ≠ V; omega)
      have T3 := hide (HT.out.below B3.out)
      have BW3 := hide (below_step HB.out B3.out)
      have y0 : w3.cell? ⟨V, 0, none⟩ = some (.int .i64 p.s) := by rw [cell_of_row _ _ _ _ _ _ RV3.out]; rfl
      have y1 : w3.cell? ⟨V, 1, none⟩ = some (.int .i64 p.r) := by rw [cell_of_row _ _ _ _ _ _ RV3.out]; rfl
      have y2 : w3.cell? ⟨V, 2, none⟩ = some (.int .i64 p.n) := by rw [cell_of_row _ _ _ _ _ _ RV3.out]; rfl
      have y4 : w3.cell? ⟨V, 3, none⟩ = some (.slice a2 p.m c2) := by rw [cell_of_row _ _ _ _ _ _ RV3.out]; rfl
      clear e3 y3 fz
      obtain ⟨g, cq, w4, hr4, ht4, hb4⟩ := told_add (p := { p with a := a2, cp := c2 }) T3.out (by omega) BW3.out.size VO.out.1.wf VO.out.1.length O3.out 34
      have T4 := hide ht4
      have B4 : Hid (Below w.heap.size w w4) := BW3.out.trans hb4
      have E4 : Hid ((l1 ++ [{ p with a := a2, cp := c2 }]).map Vv.vt = (l.take (k + 1)).map Vv.vt) := by show _ = _; rw [EK.out, List.map_append, HE.out]; rfl
      clear ht4 hb4
      go_wp2_with (at_builtin; refine wp_append_run _ rfl _ _ 34 rfl _ _ hr4 ?_)
      go_roundw
      case rel => exact ⟨k + 1, _, _, _, by omega, by go_num, rfl, B4, T4, E4⟩
      case measure => simp [intOf]; omega
    · obtain rfl : k = m := by omega
      go_wp2_with fail
      go_ret
      exact ⟨a1, c1, l1, rfl, HB.out, HT.out, by rw [HE.out, List.take_of_length_le (by rw [H.out.len]; exact Nat.le_refl _)]⟩
theorem isP {w : World} {B n k : Nat} {v : Value} {xs : List Value} (h : w.ownsRow B 36 2 v n xs) (hk : v.ownBlock = some k) : ∃ cs, w.heap[k]? = some (.cells cs 36 (0, 0)) := by
  obtain ⟨_, ⟨e, _⟩ | ⟨g, cp, cur, e, _, hg, _⟩⟩ := h
  · rw [e] at hk; cases hk
  · rw [e] at hk
    have : g = k := by simpa [Value.ownBlock] using hk
    exact ⟨_, this ▸ hg⟩
/-- votes with values of their own stay where a list of promises alone is written -/
theorem Told.chgP {w w' : World} {B : Nat} {a : Option Addr} {m c : Nat} {l : List Vv} {M : Nat → Prop} (h : Told w B a m c l) (hc : Chg M w w') (hM : ∀ k, M k → ∃ cs, w.heap[k]? = some (.cells cs 36 (0, 0))) : Told w' B a m c l := by
  have nu : ∀ p ∈ l, ∀ k, (Value.slice p.a p.m p.cp).ownBlock = some k → ¬ M k := fun p hp k hk hm => by
    obtain ⟨cs, e⟩ := hM k hm
    obtain ⟨cs', e'⟩ := isU (h.fresh p hp) hk
    rw [e] at e'
    simp at e'
  have nv : ∀ k, (Value.slice a m c).ownBlock = some k → ¬ M k := fun k hk hm => by
    obtain ⟨cs, e⟩ := hM k hm
    obtain ⟨cs', e'⟩ := isV h.vl.row hk
    rw [e] at e'
    simp at e'
  refine ⟨⟨row_same h.vl.row (fun k hk => hc.block k (h.vl.row.lt k hk).2 (nv k hk)), h.vl.len, fun p hp => (h.vl.ins p hp).same (fun h0 ad e => hc.block _ ((h.vl.ins p hp).lt h0 ad e) (nu p hp _ (own_blk (h.fresh p hp) e)))⟩, fun p hp => row_same (h.fresh p hp) (fun k hk => hc.block k ((h.fresh p hp).lt k hk).2 (nu p hp k hk))⟩
/-- a list of promises of its own, from block B on -/
structure Pw (w : World) (B : Nat) (a : Option Addr) (m c : Nat) (l : List Pp) : Prop where
  row : w.ownsRow B 36 2 (.slice a m c) m (pcells l)
  len : l.length = m
  each : ∀ p ∈ l, Told w B p.a p.m p.c p.l ∧ (∀ v ∈ p.l, v.m ≤ 140737488351232) ∧ p.m * 48 ≤ 140737488351232 ∧ (Lit.int .i64 p.nd).wf = true
theorem pw_nil (w : World) (B : Nat) : Pw w B none 0 0 [] := ⟨World.ownsRow_nil _ _ _ _, rfl, fun p hp => absurd hp (by simp)⟩
theorem Pw.ps {w : World} {B : Nat} {a : Option Addr} {m c : Nat} {l : List Pp} (h : Pw w B a m c l) (hr : m * 32 ≤ 140737488351232) : Ps w a m l :=
  ps_of_row h.row h.len (fun p hp => ⟨(h.each p hp).1.vl.vs (h.each p hp).2.1 (h.each p hp).2.2.1, (h.each p hp).2.2.2⟩) hr
theorem Pw.below {w w' : World} {B : Nat} {a : Option Addr} {m c : Nat} {l : List Pp} (h : Pw w B a m c l) (hb : Below w.heap.size w w') : Pw w' B a m c l :=
  ⟨row_same h.row (fun k hk => hb.block k (h.row.lt k hk).2), h.len, fun p hp => ⟨(h.each p hp).1.below hb, (h.each p hp).2⟩⟩
theorem Told.base {w : World} {B B' : Nat} {a : Option Addr} {m c : Nat} {l : List Vv} (h : Told w B a m c l) (hb : B' ≤ B) : Told w B' a m c l :=
  ⟨⟨row_base h.vl.row hb, h.vl.len, fun p hp => (h.vl.ins p hp).mono (fun k hk _ => Nat.le_trans hb hk)⟩, fun p hp => row_base (h.fresh p hp) hb⟩
theorem pw_add {w : World} {B : Nat} {a : Option Addr} {m c : Nat} {l : List Pp} (h : Pw w B a m c l) (hm : m ≤ 4398046510976) (hB : B ≤ w.heap.size) {p : Pp} (hp : Told w B p.a p.m p.c p.l ∧ (∀ v ∈ p.l, v.m ≤ 140737488351232) ∧ p.m * 48 ≤ 140737488351232 ∧ (Lit.int .i64 p.nd).wf = true) (ty : TypeId) :
    ∃ g cp w', (Builtin.append_ #[22, 22] ty #[.slice a m c, .slice (some ⟨w.heap.size, 0, none⟩) 1 1]).run Try.prog (w.alloc (.cells #[.int .i64 p.nd, .slice p.a p.m p.c] 36)) = .ok (.slice (some ⟨g, 0, none⟩) (m + 1) cp) w'
      ∧ Pw w' B (some ⟨g, 0, none⟩) (m + 1) cp (l ++ [p]) ∧ Below B w w' ∧ Chg (fun k => (Value.slice a m c).ownBlock = some k) w w' := by
  obtain ⟨i0, hi, hz0, hz1, hz2⟩ := info_parts prominfo
  obtain ⟨g, cp, w', hr, ho, hc, hb, _⟩ := row_add (ty := ty) Try.underlying22 hi hz0 hz1 hz2 rfl (by omega) h.row #[.int .i64 p.nd, .slice p.a p.m p.c] rfl (fun u hu => by simp at hu; rcases hu with rfl | rfl <;> rfl) (by omega) (by omega) hB
  refine ⟨g, cp, w', hr, ⟨?_, by simp [h.len], fun q hq => ?_⟩, hb, hc⟩
  · rw [pcells_append]
    exact ho
  · have hq' : Told w B q.a q.m q.c q.l ∧ (∀ v ∈ q.l, v.m ≤ 140737488351232) ∧ q.m * 48 ≤ 140737488351232 ∧ (Lit.int .i64 q.nd).wf = true := by
      have : q ∈ l ∨ q = p := by simpa using hq
      rcases this with hq | rfl
      · exact h.each q hq
      · exact hp
    exact ⟨hq'.1.chgP hc (fun k hk => isP h.row hk), hq'.2⟩
theorem step_append_runs {P : Program} {ops : Array Oper} {o : Oper} {act : Act} {K : Act → World → Prop} {Q : Exit → Act → World → Prop} {E : Prop} (w : World) (hg : o.guard = none) (s x : Operand) (t : TypeId)
    (hop : o.op = Op.call { callee := Callee.builtin Builtin.append, args := #[s, x], argTypes := #[t, t] }) {v : Value} {w' : World} (hr : (Builtin.append_ #[t, t] o.type #[act.eval s, act.eval x]).run P w = .ok v w') (hK : K (act.put o.dst v) w') :
    if Region.wanted o (yielded ops act.tmps) = true then Oper.wp P o act w K Q else E := by
  have hw : Region.wanted o (yielded ops act.tmps) = true := by simp [Region.wanted, hg]
  rw [if_pos hw]
  unfold Oper.wp execOp
  simp only [hop, resolve, invoke, builtin, Sem.run_bind, Sem.run_pure, Result.andThen_ok, List.map_toArray, List.map_cons, List.map_nil, hr]
  exact hK
theorem told_bound {w w' : World} {B : Nat} {a a' : Option Addr} {m m' c' : Nat} {l l' : List Vv} (ht : Told w' B a' m' c' l') (he : l'.map Vv.vt = l.map Vv.vt) (hv : Vs w a m l) : ∀ v ∈ l', v.m ≤ 140737488351232 := fun v hx => by
  have h1 : v.vt ∈ l.map Vv.vt := by rw [← he]; exact List.mem_map.2 ⟨v, hx, rfl⟩
  obtain ⟨u, hu, e⟩ := List.mem_map.1 h1
  have h2 := (hv.each u hu).1.length
  have h3 := (hv.each u hu).2
  have h4 := (ht.vl.ins v hx).1.length
  have h5 : u.b = v.b := by have := congrArg Vt.b e; exact this
  rw [h5] at h2
  omega
set_option maxRecDepth 100000 in
set_option maxHeartbeats 2000000 in
theorem ownp_any {w : World} {a : Option Addr} {m c : Nat} {l : List Pp} (h : Ps w a m l) :
    Calls Try.prog 7 #[.slice a m c] w fun e w' => ∃ a' c' l', e = .returned (.slice a' m c') ∧ Below w.heap.size w w' ∧ Pw w' w.heap.size a' m c' l' ∧ Ps w' a' m l' ∧ l'.map Pp.pr = l.map Pp.pr := by
  have H := hide h
  have rm := h.room
  clear h
  go_enter Try.func7, Try.ntmps7
  go_wp2_with fail
  go_loopw [3, 4] (fun t iv wr => ∃ (k : Nat) (a1 : Option Addr) (c1 : Nat) (l1 : List Pp), k ≤ m ∧ iv = .int .i64 k ∧ t = .slice a1 k c1 ∧ Hid (Below w.heap.size w wr) ∧ Hid (Pw wr w.heap.size a1 k c1 l1) ∧ Hid (l1.map Pp.pr = (l.take k).map Pp.pr)) (fun _ iv _ => m - (intOf iv).toNat)
  case atStart => exact ⟨0, none, 0, [], Nat.zero_le _, rfl, rfl, Below.refl _ _, pw_nil _ _, rfl⟩
  case round =>
    obtain ⟨k, a1, c1, l1, hk, rfl, rfl, HB, HP, HE⟩ := hrel
    by_cases hlt : k < m
    · obtain ⟨b, off, p, rfl, hb, hp, hpl, e0, e1⟩ := H.out.at hlt
      have d0 := (HB.out.cell (p := ⟨b, off + k * 2, none⟩) hb).trans e0
      have d1 := (HB.out.cell (p := ⟨b, off + k * 2 + 1, none⟩) hb).trans e1
      have E0 := hide e0
      have E1 := hide e1
      have TS : Hid ((l.take (k + 1)).map Pp.pr = (l.take k).map Pp.pr ++ [p.pr]) := by show _ = _; rw [take_snoc hp]; simp
      have VW := hide (H.out.each p hpl)
      have CC := hide (copyv_any (cap := p.c) ((VW.out.1.below HB.out).below (Below.refl _ _).drew))
      have LB := hide hb
      have i1 : (k : Int) < (m : Int) := by omega
      have i2 : (0 : Int) ≤ (k : Int) := by omega
      clear hp hpl hb e0 e1
      go_wp2_with fail
      go_region_held3 (fun v => v.cell? ⟨b, off + k * 2, none⟩ = some (.int .i64 p.nd) ∧ v.cell? ⟨b, off + k * 2 + 1, none⟩ = some (.slice p.a p.m p.c)) (first | go_keep | exact ⟨d0, d1⟩ | exact ⟨x0, x1⟩ | exact ⟨y0, y1⟩) ((first | (go_at_call 27; refine CC.out.mono ?_; rintro e w2 ⟨a2, c2, l2, rfl, hb2, ht2, he2⟩; have B2 : Hid (Below w.heap.size w w2) := below_step HB.out.drew hb2; have P2 : Hid (Pw w2 w.heap.size a1 k c1 l1) := HP.out.below (by exact (Below.refl _ _).drew.trans hb2); obtain ⟨g, cp, w3, hr3, hp3, hb3, hc3⟩ := pw_add P2.out (by omega) B2.out.size (p := ⟨p.nd, a2, p.m, c2, l2⟩) ⟨ht2.base HB.out.size, told_bound ht2 he2 VW.out.1, VW.out.1.room, VW.out.2⟩ 22; have P3 := hide hp3; have B3 := hide (B2.out.trans hb3); have E3 : Hid ((l1 ++ [(⟨p.nd, a2, p.m, c2, l2⟩ : Pp)]).map Pp.pr = (l.take (k + 1)).map Pp.pr) := (by show _ = _; rw [TS.out, List.map_append, HE.out]; simp [Pp.pr, he2]); have x0 := (B2.out.cell (p := ⟨b, off + k * 2, none⟩) LB.out).trans E0.out; have x1 := (B2.out.cell (p := ⟨b, off + k * 2 + 1, none⟩) LB.out).trans E1.out; have y0 := (B3.out.cell (p := ⟨b, off + k * 2, none⟩) LB.out).trans E0.out; have y1 := (B3.out.cell (p := ⟨b, off + k * 2 + 1, none⟩) LB.out).trans E1.out; clear hb2 ht2 he2 hp3 hb3 hc3) | (refine step_append_runs _ (by rfl) (.tmp 11) (.tmp 24) 22 (by rfl) hr3 ?_)))
      all_goals
        go_wp2_with fail
        go_roundw
        case rel => exact ⟨k + 1, _, _, _, by omega, by go_num, rfl, B3, P3, E3⟩
        case measure => simp [intOf]; omega
    · obtain rfl : k = m := by omega
      have E4 : Hid (l1.map Pp.pr = l.map Pp.pr) := by show _ = _; rw [HE.out, List.take_of_length_le (by rw [H.out.len]; exact Nat.le_refl _)]
      go_wp2_with fail
      go_ret
      exact ⟨a1, c1, l1, rfl, HB.out, HP.out, HP.out.ps rm, E4.out⟩
end Go.Proofs.Ytjhkenmlaammnaa
