/- bySlots of package choose: the votes by their slots, in the order of their nodes. No condition but that the promises are right. -/
import Derived.Test.YtjhkenmlaammnaaChoBuck
import Derived.Test.YtjhkenmlaammnaaChoSort
import Derived.Test.YtjhkenmlaammnaaChoSortNil
import Derived.Deep.RegionHeld3
namespace Go.Proofs.Ytjhkenmlaammnaa
open Go.ChangeShapes Go.WideShapes Go.ChangeAt Go.RowKit Go.Shelf B8 Am Cz
set_option linter.unusedVariables false

theorem step_append_run {P : Program} {ops : Array Oper} {o : Oper} {act : Act} {K : Act → World → Prop} {Q : Exit → Act → World → Prop} {E : Prop} (w : World) (hg : o.guard = none) (s x : Operand) (t : TypeId)
    (hop : o.op = Op.call { callee := Callee.builtin Builtin.append, args := #[s, x], argTypes := #[t, t] }) {v : Value} {w' : World} (hr : (Builtin.append_ #[t, t] o.type #[act.eval s, act.eval x]).run P w = .ok v w') (hK : K (act.put o.dst v) w') :
    if Region.wanted o (yielded ops act.tmps) = true then Oper.wp P o act w K Q else E := by
  have hw : Region.wanted o (yielded ops act.tmps) = true := by simp [Region.wanted, hg]
  rw [if_pos hw]
  unfold Oper.wp execOp
  simp only [hop, resolve, invoke, builtin, Sem.run_bind, Sem.run_pure, Result.andThen_ok, List.map_toArray, List.map_cons, List.map_nil, hr]
  exact hK
/-- the votes that were met so far are in the map, by their slots -/
structure Seen (u wr : World) (mb : Nat) (seen : List Vv) : Prop where
  below : Below u.heap.size u wr
  ex : ∃ N ks f, Mb wr u.heap.size (fun k => k < u.heap.size) N mb ks f ∧ N = seen.length ∧ (∀ s, (f s).l = seen.filter (fun v => decide (v.s = s))) ∧ (∀ s, s ∈ ks ↔ ∃ v ∈ seen, v.s = s)
theorem Seen.later {u wr w' : World} {mb : Nat} {seen : List Vv} (h : Seen u wr mb seen) (hb : Below wr.heap.size wr w') : Seen u w' mb seen := by
  obtain ⟨N, ks, f, h1, h2⟩ := h.ex
  exact ⟨below_step h.below hb, ⟨N, ks, f, h1.below hb, h2⟩⟩
theorem inn_of {u wr : World} {p : Vv} (h : Sq u p.a p.m p.cp p.b) (hb : Below u.heap.size u wr) : p.In wr (fun k => k < u.heap.size) :=
  ⟨h.below hb, fun h0 ad e => by
    obtain ⟨b, off, e2, hc⟩ := h.cells h0
    rw [e] at e2
    cases e2
    exact World.block_lt_of_cell? u _ (hc 0 h0)⟩
/-- one vote more -/
theorem seen_add {u wr wr0 : World} {mb : Nat} {seen : List Vv} (h0 : Seen u wr0 mb seen) (hbb : Below wr0.heap.size wr0 wr) {p : Vv} (hq : Sq u p.a p.m p.cp p.b) (hs : (Lit.int .i64 p.s).wf = true) (hl : seen.length < 1000) (ty : TypeId) :
    ∃ (a0 : Option Addr) (m0 c0 : Nat) (g cp : Nat) (w1 w2 : World), (∀ W, Below wr.heap.size wr W → (Instr.lookup 76 (.map (some mb)) (.int .i64 p.s) false).run Try.prog W = .ok (.slice a0 m0 c0) W)
      ∧ (Builtin.append_ #[34, 34] ty #[.slice a0 m0 c0, .slice (some ⟨wr.heap.size, 0, none⟩) 1 1]).run Try.prog (wr.alloc (.cells #[.int .i64 p.s, .int .i64 p.r, .int .i64 p.n, .slice p.a p.m p.cp] 45)) = .ok (.slice (some ⟨g, 0, none⟩) (m0 + 1) cp) w1
      ∧ (Instr.mapUpdate 76 (.map (some mb)) (.int .i64 p.s) (.slice (some ⟨g, 0, none⟩) (m0 + 1) cp)).run Try.prog w1 = .ok () w2
      ∧ Chg (fun k => (Value.slice a0 m0 c0).ownBlock = some k) wr w1 ∧ (∀ k, (Value.slice a0 m0 c0).ownBlock = some k → k < wr0.heap.size) ∧ u.heap.size ≤ mb ∧ w1.grownBy w2 (some mb) ∧ Seen u w2 mb (seen ++ [p]) := by
  have h := h0.later hbb
  obtain ⟨N, ks, f, h1', h2, h3, h4⟩ := h0.ex
  have h1 := h1'.below hbb
  have hlen : (f p.s).m ≤ 1000 := by
    have e1 := (h1.rows p.s).len
    rw [h3] at e1
    have e2 := List.length_filter_le (fun v : Vv => decide (v.s = p.s)) seen
    omega
  obtain ⟨g, cp, w1, w2, hr1, hr2, hc, hg, hm, hb⟩ := mb_add h1 (by omega) h.below.size (fun k hk => hk) (inn_of hq h.below) hs hlen ty
  refine ⟨(f p.s).a, (f p.s).m, (f p.s).c, g, cp, w1, w2, fun W hW => mb_look (h1.below hW) hs, hr1, hr2, hc, fun k hk => ((h1'.rows p.s).row.lt k hk).2, h1.base, hg, ⟨h.below.trans hb, ⟨N + 1, _, _, hm, by simp [h2], fun s => ?_, fun s => ?_⟩⟩⟩
  · by_cases e : s = p.s
    · subst e
      simp [upd, h3, List.filter_append]
    · have e' : ¬ p.s = s := fun x => e x.symm
      simp [upd, e, h3, List.filter_append, e']
  · rw [mem_addk, h4]
    constructor
    · rintro (⟨v, hv, rfl⟩ | rfl)
      · exact ⟨v, by simp [hv], rfl⟩
      · exact ⟨p, by simp, rfl⟩
    · rintro ⟨v, hv, rfl⟩
      have : v ∈ seen ∨ v = p := by simpa using hv
      rcases this with hv | rfl
      · exact .inl ⟨v, hv, rfl⟩
      · exact .inr rfl
/-- the map of the votes by their slots -/
structure ByP (w w' : World) (l : List Pp) (mb : Nat) : Prop where
  below : Below w.heap.size w w'
  ex : ∃ B P N ks f, Mb w' B P N mb ks f ∧ w.heap.size ≤ B ∧ N ≤ 80 ∧ (∀ s, (f s).l.map Vv.vt = forV (l.map Pp.pr) s) ∧ (∀ s, s ∈ ks ↔ ∃ v ∈ all (l.map Pp.pr), v.s = s) ∧ (∀ s, Vs w' (f s).a (f s).m (f s).l)
theorem ByP.later {w w1 w2 : World} {l : List Pp} {mb : Nat} (h : ByP w w1 l mb) (hb : Below w1.heap.size w1 w2) : ByP w w2 l mb := by
  obtain ⟨B, P, N, ks, f, h1, h2, h3, h4, h5, h6⟩ := h.ex
  exact ⟨below_step h.below hb, ⟨B, P, N, ks, f, h1.below hb, h2, h3, h4, h5, fun s => (h6 s).below hb⟩⟩
theorem pr_flat (l : List Pp) : (l.flatMap (·.l)).map Vv.vt = (l.map Pp.pr).flatMap (·.vs) := by
  induction l with
  | nil => rfl
  | cons p r ih => simp only [List.flatMap_cons, List.map_append, List.map_cons, ih]; rfl
theorem by_done {w u w' : World} {n : Int} {l l' : List Pp} {mb : Nat} (hu : Below w.heap.size w u) (hr : rightB n (l.map Pp.pr) = true) (hp : l'.Perm l) (hs : l'.Pairwise (fun x y => x.nd ≤ y.nd)) (h : Seen u w' mb (l'.flatMap (·.l))) (hm : ∀ p ∈ l'.flatMap (·.l), p.m ≤ 140737488351232) : ByP w w' l mb := by
  obtain ⟨N, ks, f, h1, h2, h3, h4⟩ := h.ex
  have e1 : l'.map Pp.pr = byN (l.map Pp.pr) := byN_unique hr (hp.map _) (List.pairwise_map.2 (hs.imp (fun {a b} h => h)))
  have e2 : (l'.flatMap (·.l)).map Vv.vt = all (l.map Pp.pr) := by rw [pr_flat, e1]; rfl
  have e3 : (l'.flatMap (·.l)).length ≤ 80 := by rw [← List.length_map (f := Vv.vt), e2]; exact all_len hr
  refine ⟨below_step hu h.below, ⟨_, _, N, ks, f, h1, hu.size, by omega, fun s => ?_, fun s => ?_, fun s => ?_⟩⟩
  · rw [h3]
    unfold forV
    rw [← e2, List.filter_map]
    rfl
  · rw [h4, ← e2]
    constructor
    · rintro ⟨v, hv, rfl⟩
      exact ⟨v.vt, List.mem_map.2 ⟨v, hv, rfl⟩, rfl⟩
    · rintro ⟨v, hv, rfl⟩
      obtain ⟨q, hq, rfl⟩ := List.mem_map.1 hv
      exact ⟨q, hq, rfl⟩
  · have e5 := (h1.rows s).len
    rw [h3 s] at e5
    have e6 := List.length_filter_le (fun v : Vv => decide (v.s = s)) (l'.flatMap (·.l))
    exact (h1.rows s).vs (fun p hp => hm p (by rw [h3] at hp; exact (List.mem_filter.1 hp).1)) (by omega)
theorem sortA_any {w w1 : World} {a a' : Option Addr} {m c' : Nat} {l : List Pp} (h : Ps w a m l) (hb : Below w.heap.size w w1) (hr : w1.ownsRow w.heap.size 36 2 (.slice a' m c') m (pcells l)) (hm : m ≤ 1000) :
    Calls Try.prog 55 #[.slice a' m c', .func (.func 56) #[] #[]] w1 fun e w' => e = .returned (.tuple #[]) ∧ Below w.heap.size w w' ∧ ∃ l', l'.Perm l ∧ l'.Pairwise (fun x y => x.nd ≤ y.nd) ∧ Ps w' a' m l' := by
  have hl : l.length = m := h.len
  rcases Nat.eq_zero_or_pos m with rfl | h0
  · refine (sort_none _ _ _ _).mono ?_
    rintro e w' ⟨rfl, rfl⟩
    obtain rfl : l = [] := List.eq_nil_of_length_eq_zero hl
    exact ⟨rfl, hb, [], List.Perm.refl _, List.Pairwise.nil, ⟨rfl, fun h => absurd h (by omega), fun p hp => absurd hp (by simp), by omega⟩⟩
  · have hr' := hr
    obtain ⟨_, ⟨e, e2⟩ | ⟨g, cp, cur, e, hB, hg, _⟩⟩ := hr
    · omega
    · obtain ⟨rfl, rfl⟩ : a' = some ⟨g, 0, none⟩ ∧ c' = cp := by simpa using e
      refine (sort_pr hr' hm).mono ?_
      rintro e w' ⟨rfl, hc, l', hp, hs, hrow⟩
      have hb' : Below w.heap.size w w' := hb.trans (hc.below hb.size (fun k hk => by rw [hk]; exact hB))
      refine ⟨rfl, hb', l', hp, hs, ⟨by rw [hp.length_eq, hl], fun _ => ⟨g, 0, rfl, Nat.lt_of_lt_of_le (Array.getElem?_eq_some_iff.1 hg).1 hc.size, fun j p hj => by rw [Nat.zero_add]; exact hrow j p hj⟩, fun p hp' => ?_, h.room⟩⟩
      have := h.each p (hp.mem_iff.1 hp')
      exact ⟨this.1.below hb', this.2⟩
set_option maxRecDepth 100000 in
set_option maxHeartbeats 4000000 in
theorem bySlots_any {w : World} {a : Option Addr} {m c : Nat} {l : List Pp} (h : Ps w a m l) {n : Int} (hr : rightB n (l.map Pp.pr) = true) :
    Calls Try.prog 30 #[.slice a m c] w fun e w' => ∃ mb, e = .returned (.map (some mb)) ∧ ByP w w' l mb := by
  have mk : ∀ W : World, (Instr.makeMap 76 none).run Try.prog W = .ok (.map (some W.heap.size)) (W.alloc (.map #[] 0)) := fun W => by first | exact run_makeMap W | (simp [Instr.makeMap]; done)
  have cc : ∀ (args : Array Value) (w : World), (callFunc 56 args).run Try.prog w = .ok (.enter 56 args) w := enters_of Try.func56 (by kernel_rfl) rfl
  have hm5 : m ≤ 5 := by rw [← h.len, ← List.length_map (f := Pp.pr)]; exact right_len hr
  have H := hide h
  have HR := hide hr
  have C := hide (clone_pr (cv := c) h (by omega))
  clear h hr
  go_enter Try.func30, Try.ntmps30
  go_wp2_with fail
  refine C.out.mono ?_
  rintro e w1 ⟨a', c', rfl, hb1, hr1⟩
  have S := hide (sortA_any H.out hb1 hr1 (by omega))
  clear hb1 hr1 C
  go_wp2_with fail
  refine S.out.mono ?_
  rintro e u ⟨rfl, hbu, l', hp, hs, hps⟩
  have BU := hide hbu
  have HP := hide hp
  have HS := hide hs
  have PS := hide hps
  have MB : Hid (∀ p ∈ l'.flatMap (·.l), (Sq u p.a p.m p.cp p.b ∧ p.m ≤ 140737488351232) ∧ (Lit.int .i64 p.s).wf = true) := fun p hp' => by
    obtain ⟨q, hq, hpq⟩ := List.mem_flatMap.1 hp'
    refine ⟨(PS.out.each q hq).1.each p hpq, ?_⟩
    have hv := (right_iff.1 HR.out).2.1 q.pr (List.mem_map.2 ⟨q, HP.out.mem_iff.1 hq, rfl⟩)
    have := (vote_mem hv).2.2 p.vt (List.mem_map.2 ⟨p, hpq, rfl⟩)
    have e : p.vt.s = p.s := rfl
    rw [e] at this
    exact wf64 (by omega) (by omega)
  have LN : Hid ((l'.flatMap (·.l)).length ≤ 80) := by
    have e1 : l'.map Pp.pr = byN (l.map Pp.pr) := byN_unique HR.out (hp.map _) (List.pairwise_map.2 (hs.imp (fun {a b} h => h)))
    have e2 : (l'.flatMap (·.l)).map Vv.vt = all (l.map Pp.pr) := by rw [pr_flat, e1]; rfl
    show _ ≤ _
    rw [← List.length_map (f := Vv.vt), e2]
    exact all_len HR.out
  have S0 : Hid (Seen u (u.alloc (.map #[] 0)) u.heap.size []) := ⟨below_alloc (Below.refl _ _) _, ⟨0, [], fun _ => bk0, mb_new u _ _ (Nat.le_refl _), rfl, fun s => rfl, fun s => by simp⟩⟩
  have FIN : Hid (∀ w', Seen u w' u.heap.size (l'.flatMap (·.l)) → ByP w w' l u.heap.size) := fun w' hse => by_done BU.out HR.out HP.out HS.out hse (fun p hp' => (MB.out p hp').1.2)
  clear hbu hp hs hps S H HP HS HR BU
  go_wp2_with fail
  go_loopw [6, 8, 16] (fun _ _ iv wr => ∃ (k : Nat), k ≤ m ∧ iv = .int .i64 k ∧ Hid (Seen u wr u.heap.size ((l'.take k).flatMap (·.l)))) (fun _ _ iv _ => m - (intOf iv).toNat)
  case atStart => exact ⟨0, Nat.zero_le _, rfl, S0⟩
  case round =>
    obtain ⟨k, hk, rfl, HB⟩ := hrel
    by_cases hlt : k < m
    · obtain ⟨b, off, p, rfl, hb, hp, hpl, c0, c1⟩ := (PS.out.below HB.out.below).at hlt
      have TS : Hid ((l'.take (k + 1)).flatMap (·.l) = (l'.take k).flatMap (·.l) ++ p.l) := by show _ = _; rw [take_snoc hp]; simp
      have LE : Hid (((l'.take k).flatMap (·.l)).length + p.l.length ≤ 80) := by
        show _ ≤ _
        rw [← List.length_append, ← TS.out]
        refine Nat.le_trans ?_ LN.out
        conv => rhs; rw [← List.take_append_drop (k + 1) l']
        rw [List.flatMap_append, List.length_append]
        omega
      have PL := hide hpl
      obtain ⟨sn, esn⟩ : ∃ sn, sn = (l'.take k).flatMap (·.l) := ⟨_, rfl⟩
      rw [← esn] at HB TS LE
      obtain ⟨uu, eu⟩ : ∃ uu, uu = wr.alloc (.cells #[.int .i64 p.nd, .slice p.a p.m p.c] 36) := ⟨_, rfl⟩
      have SU : Hid (Seen u uu u.heap.size sn) := by rw [eu]; exact HB.out.later (below_alloc (Below.refl _ _) _)
      have RU : Hid (uu.heap[wr.heap.size]? = some (.cells #[.int .i64 p.nd, .slice p.a p.m p.c] 36 (0, 0))) := by rw [eu]; exact heap_alloc_new wr _
      have EU := hide eu
      have VP := hide (PS.out.each p hpl).1
      have rv := VP.out.room
      clear hp hpl hb eu S0 esn
      go_upto_region 7 with fail
      rw [← EU.out]
      clear c0 c1 EU
      have x1 : uu.cell? ⟨wr.heap.size, 1, none⟩ = some (.slice p.a p.m p.c) := by rw [cell_of_row _ _ _ _ _ _ RU.out]; rfl
      go_wp2_with fail
      go_loopw [8, 23] (fun _ iv wr => ∃ (j : Nat), j ≤ p.m ∧ iv = .int .i64 j ∧ Hid (Seen u wr u.heap.size (sn ++ p.l.take j))) (fun _ iv _ => p.m - (intOf iv).toNat)
      case atStart => exact ⟨0, Nat.zero_le _, rfl, by show Seen _ _ _ _; simpa using SU.out⟩
      case round =>
        obtain ⟨j, hj, rfl, HJ⟩ := hrel
        by_cases hlj : j < p.m
        · obtain ⟨b', off', q, e', hb', hq, hql, d0, d1, d2, d3⟩ := (VP.out.below HJ.out.below).at hlj
          have TJ : Hid (sn ++ p.l.take (j + 1) = (sn ++ p.l.take j) ++ [q]) := by show _ = _; rw [take_snoc hq, List.append_assoc]
          have LJ : Hid ((sn ++ p.l.take j).length < 1000) := by
            show _ < _
            have h1 := LE.out
            have h2 : (p.l.take j).length ≤ p.l.length := by simp; omega
            rw [List.length_append]
            omega
          have MQ := hide (MB.out q (List.mem_flatMap.2 ⟨p, PL.out, hql⟩))
          obtain ⟨V, eV⟩ : ∃ V, V = wr.heap.size := ⟨_, rfl⟩
          obtain ⟨wq, ew⟩ : ∃ wq, wq = wr.alloc (.cells #[.int .i64 q.s, .int .i64 q.r, .int .i64 q.n, .slice q.a q.m q.cp] 45) := ⟨_, rfl⟩
          have BQ : Hid (Below wr.heap.size wr wq.drew) := by rw [ew]; exact (below_alloc (Below.refl _ _) _).drew
          have RV : Hid (wq.heap[V]? = some (.cells #[.int .i64 q.s, .int .i64 q.r, .int .i64 q.n, .slice q.a q.m q.cp] 45 (0, 0))) := by rw [ew, eV]; exact heap_alloc_new wr _
          have EW := hide ew
          have EV := hide eV
          rw [e'] at *
          clear hb' hq hql ew eV
          go_upto_region 10 with fail
          rw [← EW.out, ← EV.out]
          clear d0 d1 d2 d3
          obtain ⟨a0, m0, c0, g, cp, w3, w4, hlk, hr3, hr4, hc3, hown, hmb, hg4, hse⟩ := seen_add HJ.out BQ.out MQ.out.1.1 MQ.out.2 LJ.out 34
          have lk1 := hlk wq.drew (Below.refl _ _)
          have lk2 := hlk (wq.alloc (.cells #[.int .i64 q.s, .int .i64 q.r, .int .i64 q.n, .slice q.a q.m q.cp] 45)).drew (show Below wq.drew.heap.size wq.drew (wq.drew.alloc (.cells #[.int .i64 q.s, .int .i64 q.r, .int .i64 q.n, .slice q.a q.m q.cp] 45)) from below_alloc (Below.refl _ _) _)
          have hr5 : (Builtin.append_ #[34, 34] 34 #[.slice a0 m0 c0, .slice (some ⟨wq.heap.size, 0, none⟩) 1 1]).run Try.prog (wq.alloc (.cells #[.int .i64 q.s, .int .i64 q.r, .int .i64 q.n, .slice q.a q.m q.cp] 45)).drew = .ok (.slice (some ⟨g, 0, none⟩) (m0 + 1) cp) w3 := hr3
          have SF : Hid (Seen u w4 u.heap.size (sn ++ p.l.take (j + 1))) := by rw [TJ.out]; exact hse
          have y0 : wq.cell? ⟨V, 0, none⟩ = some (.int .i64 q.s) := by rw [cell_of_row _ _ _ _ _ _ RV.out]; rfl
          have y1 : wq.cell? ⟨V, 1, none⟩ = some (.int .i64 q.r) := by rw [cell_of_row _ _ _ _ _ _ RV.out]; rfl
          have y2 : wq.cell? ⟨V, 2, none⟩ = some (.int .i64 q.n) := by rw [cell_of_row _ _ _ _ _ _ RV.out]; rfl
          have y3 : wq.cell? ⟨V, 3, none⟩ = some (.slice q.a q.m q.cp) := by rw [cell_of_row _ _ _ _ _ _ RV.out]; rfl
          have oc : ∀ o, w3.cell? ⟨V, o, none⟩ = wq.cell? ⟨V, o, none⟩ := fun o => World.cell?_of_block (a := ⟨V, o, none⟩) (hc3.block V (Array.getElem?_eq_some_iff.1 RV.out).1 (fun e => by have := hown V e; have := EV.out; omega))
          have z0 : w3.cell? ⟨V, 0, none⟩ = some (.int .i64 q.s) := (oc 0).trans y0
          have z1 : w3.cell? ⟨V, 1, none⟩ = some (.int .i64 q.r) := (oc 1).trans y1
          have z2 : w3.cell? ⟨V, 2, none⟩ = some (.int .i64 q.n) := (oc 2).trans y2
          have z3 : w3.cell? ⟨V, 3, none⟩ = some (.slice q.a q.m q.cp) := (oc 3).trans y3
          have hVm : V ≠ u.heap.size := fun e => by
            have h1 := World.cell?_of_block (w := wq.drew) (w' := wq.drew) (a := ⟨V, 0, none⟩) rfl
            have := hmb
            obtain ⟨N, ks, f, hM, _⟩ := HJ.out.ex
            have := hM.lt
            have := EV.out
            omega
          have oc4 : ∀ o, w4.cell? ⟨V, o, none⟩ = w3.cell? ⟨V, o, none⟩ := fun o => World.cell?_of_block (a := ⟨V, o, none⟩) (hg4.block V (Nat.lt_of_lt_of_le (Array.getElem?_eq_some_iff.1 RV.out).1 hc3.size) (fun e => hVm (by injection e)))
          have x0 := (oc4 0).trans z0
          have x1' := (oc4 1).trans z1
          have x2 := (oc4 2).trans z2
          have x3 := (oc4 3).trans z3
          have v0 : (wq.alloc (.cells #[.int .i64 q.s, .int .i64 q.r, .int .i64 q.n, .slice q.a q.m q.cp] 45)).cell? ⟨V, 0, none⟩ = some (.int .i64 q.s) := (World.cell?_alloc_lt wq _ _ (Array.getElem?_eq_some_iff.1 RV.out).1).trans y0
          clear hlk hse oc oc4 hVm
          go_region_held3 (fun v => v.cell? ⟨V, 0, none⟩ = some (.int .i64 q.s) ∧ v.cell? ⟨V, 1, none⟩ = some (.int .i64 q.r) ∧ v.cell? ⟨V, 2, none⟩ = some (.int .i64 q.n) ∧ v.cell? ⟨V, 3, none⟩ = some (.slice q.a q.m q.cp)) (first | go_keep | exact ⟨y0, y1, y2, y3⟩ | exact ⟨z0, z1, z2, z3⟩ | exact ⟨x0, x1', x2, x3⟩) ((first | (refine step_append_run _ (by rfl) (.tmp 33) (.tmp 35) 34 (by rfl) hr5 ?_)))
          all_goals
            go_wp2_with fail
            go_roundw
            case rel => exact ⟨j + 1, by omega, by go_num, SF⟩
            case measure => simp [intOf]; omega
        · obtain rfl : j = p.m := by omega
          have SE : Hid (Seen u wr u.heap.size ((l'.take (k + 1)).flatMap (·.l))) := by
            rw [TS.out]
            have := HJ.out
            rw [List.take_of_length_le (by rw [VP.out.len]; exact Nat.le_refl _)] at this
            exact this
          go_wp2_with fail
          go_roundw
          case rel => exact ⟨k + 1, by omega, by go_num, SE⟩
          case measure => simp [intOf]; omega
    · obtain rfl : k = m := by omega
      have SE : Hid (Seen u wr u.heap.size (l'.flatMap (·.l))) := by
        have := HB.out
        rw [List.take_of_length_le (by rw [PS.out.len]; exact Nat.le_refl _)] at this
        exact this
      go_wp2_with fail
      go_ret
      exact ⟨_, rfl, FIN.out _ SE.out⟩
end Go.Proofs.Ytjhkenmlaammnaa
