/- The document's Load of votes that lie in a row. No condition but a size. -/
import Derived.Test.YtdnniokpkamjjaaAccLoad
import Derived.Test.YtdnniokpkamjjaaAccRefAcc
import Derived.Test.YtdnniokpkamjjaaRegionOrd
namespace Go.Proofs.Ytdnniokpkamjjaa
open Go.ChangeShapes Go.WideShapes Go.ChangeAt Go.RowKit B8 Am
set_option linter.unusedVariables false

/-- what the document's Load answers -/
def RLoadP (w : World) (Q : Nat → Prop) (s : As) (l : List Vv) (e : Ending) (w' : World) : Prop :=
  Below w.heap.size w w' ∧ ((loadB s = true ∧ ∃ R a m c, e = .returned (.pointer (some ⟨R, 0, none⟩)) ∧ Rf0 w' Q R s a m c l ∧ Vl w' w.heap.size Q a m c l ∧ w.heap.size ≤ R) ∨ (loadB s = false ∧ e = .returned (.pointer none)))
theorem rload_head {w : World} {Q : Nat → Prop} {a : Option Addr} {m c : Nat} {l : List Vv} (r n f : Int) (hb : headB r n f = false) :
    Calls Try.prog 19 #[.agg #[.int .i64 r, .int .i64 n], .int .i64 f, .slice a m c] w (RLoadP w Q ⟨r, n, f, l.map Vv.vt⟩ l) := by
  have L0 : Hid (loadB ⟨r, n, f, l.map Vv.vt⟩ = false) := by show _ = _; simp [loadB, hb]
  have B1 : Hid (Below w.heap.size w (w.alloc (.cells #[.int .i64 r, .int .i64 n] 30))) := below_alloc (Below.refl _ _) _
  by_cases h1 : f < 1
  · clear hb
    go_enter Try.func19, Try.ntmps19
    go_wp2_with fail
    go_ret
    exact ⟨B1.out, .inr ⟨L0.out, rfl⟩⟩
  · by_cases h2 : 1099511627776 < f
    · clear hb
      go_enter Try.func19, Try.ntmps19
      go_wp2_with fail
      go_ret
      exact ⟨B1.out, .inr ⟨L0.out, rfl⟩⟩
    · have hb2 : (decide (r = 0 ∧ n = 0) || mayB r n) = false := by
        simp only [headB] at hb
        rw [decide_eq_true (show 1 ≤ f ∧ f ≤ 1099511627776 by omega), Bool.true_and] at hb
        exact hb
      simp only [Bool.or_eq_false_iff, decide_eq_false_iff_not] at hb2
      have CM := hide (fun w => turn_any r n w)
      rw [hb2.2] at CM
      have hz := hb2.1
      clear hb hb2
      by_cases h3 : r = 0
      · have h4 : ¬ n = 0 := fun e => hz ⟨h3, e⟩
        subst h3
        have x1 : (n == 0) = false := by simpa using h4
        clear hz
        go_enter Try.func19, Try.ntmps19
        go_wp2_with fail
        refine (CM.out _).mono ?_
        rintro e w1 ⟨rfl, rfl⟩
        go_wp2_with fail
        go_ret
        exact ⟨below_alloc B1.out _, .inr ⟨L0.out, rfl⟩⟩
      · have x1 : (r == 0) = false := by simpa using h3
        clear hz
        go_enter Try.func19, Try.ntmps19
        go_wp2_with fail
        refine (CM.out _).mono ?_
        rintro e w1 ⟨rfl, rfl⟩
        go_wp2_with fail
        go_ret
        exact ⟨below_alloc B1.out _, .inr ⟨L0.out, rfl⟩⟩
theorem step_append_run {P : Program} {ops : Array Oper} {o : Oper} {act : Act} {K : Act → World → Prop} {Q : Exit → Act → World → Prop} {E : Prop} (w : World) (hg : o.guard = none) (s x : Operand) (t : TypeId)
    (hop : o.op = Op.call { callee := Callee.builtin Builtin.append, args := #[s, x], argTypes := #[t, t] }) {v : Value} {w' : World} (hr : (Builtin.append_ #[t, t] o.type #[act.eval s, act.eval x]).run P w = .ok v w') (hK : K (act.put o.dst v) w') :
    if Region.wanted o (yielded ops act.tmps) = true then Oper.wp P o act w K Q else E := by
  have hw : Region.wanted o (yielded ops act.tmps) = true := by simp [Region.wanted, hg]
  rw [if_pos hw]
  unfold Oper.wp execOp
  simp only [hop, resolve, invoke, builtin, Sem.run_bind, Sem.run_pure, Result.andThen_ok, List.map_toArray, List.map_cons, List.map_nil, hr]
  exact hK
theorem ord_append {P : Program} {ops : Array Oper} {Q : Exit → Act → World → Prop} {S : World → Prop} {KK : Act → World → Prop} {i : Nat} {r : List (Nat × Bool)} {act : Act} {w : World} {o : Oper} (ho : ops[i]? = some o) (hg : o.guard = none) (s x : Operand) (t : TypeId)
    (hop : o.op = Op.call { callee := Callee.builtin Builtin.append, args := #[s, x], argTypes := #[t, t] }) {v : Value} {w' : World} (hr : (Builtin.append_ #[t, t] o.type #[act.eval s, act.eval x]).run P w = .ok v w') (hS : S w') (h : wpOrd P ops Q S KK r (act.put o.dst v) w') : wpOrd P ops Q S KK ((i, false) :: r) act w :=
  ord_only ho (fun K' hK => step_append_run w hg s x t hop hr (hK _ _ ⟨hS, h⟩))
/-- the list is laid anew -/
theorem vl_again {w : World} {B : Nat} {Q : Nat → Prop} {a : Option Addr} {m c : Nat} {l : List Vv} (h : Vl w B Q a m c l) (hm : m ≤ 4000000000000) (ty : TypeId) :
    ∃ a' c' w', (Builtin.append_ #[35, 35] ty #[.slice none 0 0, .slice a m c]).run Try.prog w = .ok (.slice a' m c') w' ∧ Vl w' w.heap.size Q a' m c' l ∧ Below w.heap.size w w' := by
  obtain ⟨i0, hi, hz0, hz1, hz2⟩ := info_parts voteinfo
  obtain ⟨hlen2, ⟨e, e2⟩ | ⟨g, cp, cur, e, hB2, hg2, _⟩⟩ := id h.row
  · obtain ⟨rfl, rfl, rfl⟩ : a = none ∧ m = 0 ∧ c = 0 := by simpa using e
    have hr := run_append_owned_none (P := Try.prog) (w := w) w.heap.size 35 ty 48 i0 4 Try.underlying35 hi (.slice none 0 0) 0 [] (World.ownsRow_nil _ _ _ _)
    have hl : l = [] := List.eq_nil_of_length_eq_zero h.len
    subst hl
    exact ⟨none, 0, w, hr, vl_nil _ _ _, Below.refl _ _⟩
  · obtain ⟨rfl, rfl⟩ : a = some ⟨g, 0, none⟩ ∧ c = cp := by simpa using e
    obtain ⟨v', w', hr, ho, hg, _⟩ := run_append_own_wide (P := Try.prog) w w.heap.size 35 ty 48 i0 zvote 4 48 Try.underlying35 hi hz0 hz1 hz2 rfl (by omega) (.slice none 0 0) 0 [] (World.ownsRow_nil _ _ _ _)
      ⟨g, 0, none⟩ m c (vcells l) hlen2 (fun j u hu => by rw [Addr.add_lit, Nat.zero_add, h.row.cellAt j (by have := (List.getElem?_eq_some_iff.1 hu).1; omega)]; exact hu) (vcells_one l) (by unfold maxLen; omega) (by omega) (Nat.le_refl _)
    simp only [Nat.zero_add, List.nil_append] at ho
    have hb : Below w.heap.size w w' := (Below.refl _ _).grown hg (Nat.le_refl _) (fun j hj => by simp [Value.ownBlock] at hj)
    have key : ∃ a' c', v' = .slice a' m c' := by
      obtain ⟨_, ⟨e, e2⟩ | ⟨g, cp, cur, e, _⟩⟩ := ho
      · exact ⟨none, 0, by rw [e, e2]⟩
      · exact ⟨_, _, e⟩
    obtain ⟨a', c', rfl⟩ := key
    exact ⟨a', c', w', hr, ⟨ho, h.len, fun p hp => (h.ins p hp).below hb⟩, hb⟩
set_option maxRecDepth 100000 in
set_option maxHeartbeats 4000000 in
theorem rload_any {w : World} {B : Nat} {Q : Nat → Prop} {a : Option Addr} {m c : Nat} {l : List Vv} (h : Vl w B Q a m c l) (hm : m ≤ 4000000000000) (r n f : Int) :
    Calls Try.prog 19 #[.agg #[.int .i64 r, .int .i64 n], .int .i64 f, .slice a m c] w (RLoadP w Q ⟨r, n, f, l.map Vv.vt⟩ l) := by
  cases hb : headB r n f
  · exact rload_head r n f hb
  · have LB : Hid (loadB ⟨r, n, f, l.map Vv.vt⟩ = goodL r n f f (l.map Vv.vt)) := by show _ = _; simp [loadB, hb]
    have hb1 := hb
    simp only [headB, Bool.and_eq_true, Bool.or_eq_true, decide_eq_true_eq] at hb1
    obtain ⟨⟨hf1, hf2⟩, hpr⟩ := hb1
    have H := hide h
    have LN := hide h.len
    obtain ⟨N, eN⟩ : ∃ N, N = w.heap.size := ⟨_, rfl⟩
    have EN := hide eN
    clear h hb eN
    have CM := hide (fun w => turn_any r n w)
    by_cases hz : r = 0 ∧ n = 0
    · obtain ⟨rfl, rfl⟩ := hz
      clear hpr CM
      go_enter Try.func19, Try.ntmps19
      go_upto_region 3 with fail
      obtain ⟨u, eu⟩ : ∃ u, u = w.alloc (.cells #[.int .i64 0, .int .i64 0] 30) := ⟨_, rfl⟩
      have BU : Hid (Below w.heap.size w u) := by rw [eu]; exact below_alloc (Below.refl _ _) _
      have X : Hid (V2 u N 0 0) := by rw [eu]; rw [EN.out]; exact v2_new w 0 0
      rw [← eu, ← EN.out]
      clear eu
      go_wp2_with fail
      go_loopw [7, 8] (fun t7 i wr => ∃ (k : Nat) (nx : Int), k ≤ m ∧ i = .int .i64 k ∧ t7 = .int .i64 (nx - 1) ∧ Hid (Below w.heap.size w wr) ∧ Hid (V2 wr N 0 0) ∧ Hid (goodL 0 0 f nx ((l.drop k).map Vv.vt) = goodL 0 0 f f (l.map Vv.vt)) ∧ Hid (f ≤ nx ∧ nx ≤ f + 16)) (fun _ i _ => m - (intOf i).toNat)
      case atStart => exact ⟨0, f, Nat.zero_le _, rfl, by go_num, BU, X, rfl, Int.le_refl _, by omega⟩
      case round =>
        clear X BU
        obtain ⟨k, nx, hk, rfl, rfl, HB, HX, HG, HN⟩ := hrel
        by_cases hlt : k < m
        · have i1 : (k : Int) < (m : Int) := by omega
          have i2 : (0 : Int) ≤ (k : Int) := by omega
          have lk : k < l.length := by have := LN.out; omega
          obtain ⟨p, hp⟩ : ∃ p, l[k]? = some p := ⟨l[k], by simp [lk]⟩
          have DK : Hid ((l.drop k).map Vv.vt = p.vt :: (l.drop (k + 1)).map Vv.vt) := by
            show _ = _
            rw [List.drop_eq_getElem_cons lk, (List.getElem?_eq_some_iff.1 hp).2]
            simp
          have HR := hide (H.out.below HB.out)
          have PI := hide (HR.out.ins p (List.mem_of_getElem? hp))
          obtain ⟨g, rfl, _, hg, d0, d1, d2, d3⟩ := HR.out.at hp
          obtain ⟨V, eV⟩ : ∃ V, V = wr.heap.size := ⟨_, rfl⟩
          obtain ⟨w5, e5⟩ : ∃ w5, w5 = wr.alloc (.cells #[.int .i64 p.s, .int .i64 p.r, .int .i64 p.n, .slice p.a p.m p.cp] 48) := ⟨_, rfl⟩
          have B5 : Hid (Below wr.heap.size wr w5) := by rw [e5]; exact below_alloc (Below.refl _ _) _
          have Y5 : Hid (V4 w5 V p) := by rw [e5, eV]; exact v4_new wr p
          have X5 := hide (HX.out.below B5.out)
          have BW5 := hide (below_step HB.out B5.out)
          have E5 := hide e5
          have EV := hide eV
          have PL : Hid (p.b.length = p.m) := PI.out.1.length
          have n1 := HN.out.1
          have n2 := HN.out.2
          have CT := hide (fun w => turn_any p.r p.n w)
          have CL := hide (fun w => rless_lit (a := 0) (b := 0) (c := p.r) (d := p.n) rfl w)
          have REF : Hid (goodL 0 0 f nx (p.vt :: (l.drop (k + 1)).map Vv.vt) = false → ∀ w', Below w5.heap.size w5 w' → RLoadP w Q ⟨0, 0, f, l.map Vv.vt⟩ l (.returned (.pointer none)) w') := fun hgf w' hw' => ⟨below_step BW5.out hw', .inr ⟨by rw [LB.out, ← HG.out, DK.out]; exact hgf, rfl⟩⟩
          clear e5 eV hp lk
          go_upto_region 8 with fail
          rw [← E5.out, ← EV.out]
          clear d0 d1 d2 d3 hg E5 EV
          obtain ⟨y0, y1, y2, y3⟩ := Y5.out
          obtain ⟨z0, z1⟩ := X5.out
          by_cases c1 : p.s < nx
          · have GF : Hid (goodL 0 0 f nx (p.vt :: (l.drop (k + 1)).map Vv.vt) = false) := by have h0 : decide (nx ≤ p.vt.s) = false := decide_eq_false (by show ¬ nx ≤ p.s; omega); show _ = _; simp only [goodL, h0, Bool.false_and]
            have q1 : p.s ≤ nx - 1 := by omega
            clear c1
            go_wp2_with fail
            go_ret
            exact REF.out GF.out _ (Below.refl _ _)
          · have q1 : ¬ p.s ≤ nx - 1 := by omega
            have C1 : Hid (nx ≤ p.s) := by show _ ≤ _; omega
            clear c1
            by_cases c2 : f + 16 ≤ p.s
            · have GF : Hid (goodL 0 0 f nx (p.vt :: (l.drop (k + 1)).map Vv.vt) = false) := by have h0 : decide (p.vt.s < f + 16) = false := decide_eq_false (by show ¬ p.s < f + 16; omega); show _ = _; simp only [goodL, h0, Bool.and_false, Bool.false_and]
              go_wp2_with fail
              go_ret
              exact REF.out GF.out _ (Below.refl _ _)
            · have C2 : Hid (p.s < f + 16) := by show _ < _; omega
              cases c3 : mayB p.r p.n
              · have GF : Hid (goodL 0 0 f nx (p.vt :: (l.drop (k + 1)).map Vv.vt) = false) := by have h0 : fitsB p.vt = false := (by simp [fitsB, Vv.vt, c3]); show _ = _; simp only [goodL, h0, Bool.and_false, Bool.false_and]
                rw [c3] at CT
                clear c3
                go_wp2_with fail
                refine (CT.out _).mono ?_
                rintro e w6 ⟨rfl, rfl⟩
                go_wp2_with fail
                go_ret
                exact REF.out GF.out _ (below_alloc (Below.refl _ _) _)
              · rw [c3] at CT
                go_wp2_with fail
                refine (CT.out _).mono ?_
                rintro e w6 ⟨rfl, e6⟩
                have B6 : Hid (Below w5.heap.size w5 w6) := by rw [e6]; exact below_alloc (Below.refl _ _) _
                have Y6 := hide (Y5.out.below B6.out)
                have X6 := hide (X5.out.below B6.out)
                clear e6 y0 y1 y2 y3 z0 z1
                obtain ⟨y0, y1, y2, y3⟩ := Y6.out
                obtain ⟨z0, z1⟩ := X6.out
                go_wp2_with fail
                refine (CL.out _).mono ?_
                rintro e w7 ⟨rfl, hb7⟩
                have B7 := hide (below_step B6.out hb7)
                have Y7 := hide (Y5.out.below B7.out)
                have X7 := hide (X5.out.below B7.out)
                clear hb7 y0 y1 y2 y3 z0 z1
                obtain ⟨y0, y1, y2, y3⟩ := Y7.out
                cases c4 : lessB 0 0 p.r p.n
                · by_cases c5 : p.m ≤ 2048
                  · have c5' : (p.m : Int) ≤ 2048 := by omega
                    have GS : Hid (goodL 0 0 f nx (p.vt :: (l.drop (k + 1)).map Vv.vt) = goodL 0 0 f (p.s + 1) ((l.drop (k + 1)).map Vv.vt)) := by
                      have h1 : decide (nx ≤ p.vt.s) = true := decide_eq_true C1.out
                      have h2 : decide (p.vt.s < f + 16) = true := decide_eq_true C2.out
                      have h3 : fitsB p.vt = true := by simp [fitsB, Vv.vt, c3, PL.out, c5]
                      have h4 : lessB 0 0 p.vt.r p.vt.n = false := c4
                      show _ = _
                      simp only [goodL, h1, h2, h3, h4, Bool.true_and, Bool.not_false]
                      rfl
                    have BW7 := hide (below_step BW5.out B7.out)
                    clear c5 c4 c3
                    go_wp2_with fail
                    go_roundw
                    case rel => exact ⟨k + 1, p.s + 1, by omega, by go_num, by rw [Int.add_sub_cancel], BW7, X7, by show _ = _; rw [← GS.out, ← DK.out, HG.out], by have := C1.out; omega, by have := C2.out; omega⟩
                    case measure => simp [intOf]; omega
                  · have c5' : ¬ (p.m : Int) ≤ 2048 := by omega
                    have GF : Hid (goodL 0 0 f nx (p.vt :: (l.drop (k + 1)).map Vv.vt) = false) := by have h0 : fitsB p.vt = false := (by simp [fitsB, Vv.vt, PL.out]; omega); show _ = _; simp only [goodL, h0, Bool.and_false, Bool.false_and]
                    clear c5 c4 c3
                    go_wp2_with fail
                    go_ret
                    exact REF.out GF.out _ B7.out
                · have GF : Hid (goodL 0 0 f nx (p.vt :: (l.drop (k + 1)).map Vv.vt) = false) := by have h4 : lessB 0 0 p.vt.r p.vt.n = true := c4; show _ = _; simp only [goodL, h4, Bool.not_true, Bool.and_false, Bool.false_and]
                  clear c4 c3
                  go_wp2_with fail
                  go_ret
                  exact REF.out GF.out _ B7.out
        · obtain rfl : k = m := by omega
          have GD : Hid (loadB ⟨0, 0, f, l.map Vv.vt⟩ = true) := by
            show _ = _
            rw [LB.out, ← HG.out, List.drop_eq_nil_iff.2 (by have := LN.out; omega)]
            rfl
          have VR := hide (H.out.below HB.out)
          obtain ⟨wz, ez⟩ : ∃ wz, wz = wr := ⟨_, rfl⟩
          rw [← ez] at VR HB HX
          have EZ := hide ez
          go_upto_region 11 with fail
          rw [← EZ.out]
          clear ez EZ hlt hk
          obtain ⟨z0, z1⟩ := HX.out
          have VD : Hid (Vl wz.drew B Q a k c l) := VR.out.below (Below.refl _ _).drew
          obtain ⟨a8, c8, w8, hr8, hv8, hb8⟩ := vl_again VD.out hm 35
          have X8 : Hid (V2 w8 N 0 0) := V2.below (u := wz.drew) HX.out hb8
          have B8 : Hid (Below wz.heap.size wz w8) := (Below.refl _ _).drew.trans hb8
          have V8 := hide hv8
          obtain ⟨x0, x1⟩ := X8.out
          have FIN : Hid (∀ W', W' = w8.alloc (.cells #[.int .i64 0, .int .i64 0, .int .i64 f, .slice a8 k c8] 37) → RLoadP w Q ⟨0, 0, f, l.map Vv.vt⟩ l (.returned (.pointer (some ⟨w8.heap.size, 0, none⟩))) W') := fun W' e => by
            subst e
            have hb9 := below_alloc (Below.refl w8.heap.size w8) (.cells #[.int .i64 0, .int .i64 0, .int .i64 f, .slice a8 k c8] 37)
            have hsz : w.heap.size ≤ wz.drew.heap.size := HB.out.size
            exact ⟨below_step (below_step HB.out B8.out) hb9, .inl ⟨GD.out, w8.heap.size, a8, k, c8, rfl, ⟨heap_alloc_new w8 _, (V8.out.below hb9).base (Nat.zero_le _), rfl, ok_load GD.out⟩, (V8.out.below hb9).base hsz, Nat.le_trans hsz hb8.size⟩⟩
          clear hv8 hb8
          have X9 : Hid (V2 (w8.alloc (.cells #[.int .i64 0, .int .i64 0, .int .i64 f, .slice a8 k c8] 37)) N 0 0) := X8.out.below (below_alloc (Below.refl _ _) _)
          refine region_ord [] [(0, true), (1, true), (2, true), (3, false), (4, true), (5, false), (6, true)] (by kernel_rfl) (by kernel_rfl) (by kernel_rfl) (by kernel_rfl) (by kernel_rfl) (by kernel_rfl) ?_
          refine ord_next (fun v => v.cell? ⟨N, 0, none⟩ = some (.int .i64 0) ∧ v.cell? ⟨N, 1, none⟩ = some (.int .i64 0)) ?_
          refine ord_take (v := ?_) rfl (fun _ _ _ h => h) (by rfl) (And.intro z0 z1) ?_ ?_
          rotate_left
          · (intro y hy; obtain ⟨y0, y1⟩ := hy; simp only [List.getElem_toArray, List.getElem_cons_zero]; go_simp; try with_reducible rfl)
          simp only [List.getElem_toArray, List.getElem_cons_zero, Act.put, List.setIfInBounds_toArray, List.set_cons_zero, List.set_cons_succ]
          refine ord_take (v := ?_) rfl (fun _ _ _ h => h) (by rfl) (And.intro z0 z1) ?_ ?_
          rotate_left
          · (intro y hy; simp only [List.getElem_toArray, List.getElem_cons_zero, List.getElem_cons_succ]; go_simp; try with_reducible rfl)
          simp only [List.getElem_toArray, List.getElem_cons_zero, List.getElem_cons_succ, Act.put, List.setIfInBounds_toArray, List.set_cons_zero, List.set_cons_succ]
          refine ord_take (v := ?_) rfl (fun _ _ _ h => h) (by rfl) (And.intro z0 z1) ?_ ?_
          rotate_left
          · (intro y hy; simp only [List.getElem_toArray, List.getElem_cons_zero, List.getElem_cons_succ]; go_simp; try with_reducible rfl)
          simp only [List.getElem_toArray, List.getElem_cons_zero, List.getElem_cons_succ, Act.put, List.setIfInBounds_toArray, List.set_cons_zero, List.set_cons_succ]
          refine ord_append rfl rfl (.const (.slice none 0 0)) (.tmp 71) 35 rfl (v := .slice a8 k c8) (w' := w8) ?_ (And.intro x0 x1) ?_
          · exact hr8
          try simp only [List.getElem_toArray, List.getElem_cons_zero, List.getElem_cons_succ, Act.put, List.setIfInBounds_toArray, List.set_cons_zero, List.set_cons_succ]
          refine ord_take (v := ?_) rfl (fun _ _ _ h => h) (by rfl) (And.intro x0 x1) ?_ ?_
          rotate_left
          · (intro y hy; simp only [List.getElem_toArray, List.getElem_cons_zero, List.getElem_cons_succ]; go_simp; try with_reducible rfl)
          simp only [List.getElem_toArray, List.getElem_cons_zero, List.getElem_cons_succ, Act.put, List.setIfInBounds_toArray, List.set_cons_zero, List.set_cons_succ]
          refine ord_only rfl (fun K' hK => ?_)
          simp only [List.getElem_toArray, List.getElem_cons_zero, List.getElem_cons_succ]
          go_simp
          refine hK _ _ ⟨X9.out, ?_⟩
          clear hK K'
          refine ord_take (v := ?_) rfl (fun _ _ _ h => h) (by rfl) X9.out ?_ ?_
          rotate_left
          · (intro y hy; simp only [List.getElem_toArray, List.getElem_cons_zero, List.getElem_cons_succ]; go_simp; try with_reducible rfl)
          simp only [List.getElem_toArray, List.getElem_cons_zero, List.getElem_cons_succ, Act.put, List.setIfInBounds_toArray, List.set_cons_zero, List.set_cons_succ]
          refine ord_done ?_
          go_wp2_with fail
          go_ret
          exact FIN.out _ rfl
    · have hmay : mayB r n = true := hpr.resolve_left hz
      rw [hmay] at CM
      have h3 : ¬ r = 0 := fun e => by have := of_decide_eq_true hmay; omega
      clear hpr hmay
      have x1 : (r == 0) = false := by simpa using h3
      have x2 : (r = 0) = False := eq_false h3
      clear hz
      go_enter Try.func19, Try.ntmps19
      go_wp2_with fail
      refine (CM.out _).mono ?_
      rintro e w1 ⟨rfl, rfl⟩
      clear x1 x2 h3
      go_upto_region 3 with fail
      obtain ⟨u, eu⟩ : ∃ u, u = (w.alloc (.cells #[.int .i64 r, .int .i64 n] 30)).alloc (.cells #[.int .i64 r, .int .i64 n] 30) := ⟨_, rfl⟩
      have BU : Hid (Below w.heap.size w u) := by rw [eu]; exact below_alloc (below_alloc (Below.refl _ _) _) _
      have X : Hid (V2 u N r n) := by rw [eu]; exact V2.below (u := w.alloc (.cells #[.int .i64 r, .int .i64 n] 30)) (by rw [EN.out]; exact v2_new w r n) (below_alloc (Below.refl _ _) _)
      rw [← eu, ← EN.out]
      clear eu
      go_wp2_with fail
      go_loopw [7, 8] (fun t7 i wr => ∃ (k : Nat) (nx : Int), k ≤ m ∧ i = .int .i64 k ∧ t7 = .int .i64 (nx - 1) ∧ Hid (Below w.heap.size w wr) ∧ Hid (V2 wr N r n) ∧ Hid (goodL r n f nx ((l.drop k).map Vv.vt) = goodL r n f f (l.map Vv.vt)) ∧ Hid (f ≤ nx ∧ nx ≤ f + 16)) (fun _ i _ => m - (intOf i).toNat)
      case atStart => exact ⟨0, f, Nat.zero_le _, rfl, by go_num, BU, X, rfl, Int.le_refl _, by omega⟩
      case round =>
        clear X BU
        obtain ⟨k, nx, hk, rfl, rfl, HB, HX, HG, HN⟩ := hrel
        by_cases hlt : k < m
        · have i1 : (k : Int) < (m : Int) := by omega
          have i2 : (0 : Int) ≤ (k : Int) := by omega
          have lk : k < l.length := by have := LN.out; omega
          obtain ⟨p, hp⟩ : ∃ p, l[k]? = some p := ⟨l[k], by simp [lk]⟩
          have DK : Hid ((l.drop k).map Vv.vt = p.vt :: (l.drop (k + 1)).map Vv.vt) := by
            show _ = _
            rw [List.drop_eq_getElem_cons lk, (List.getElem?_eq_some_iff.1 hp).2]
            simp
          have HR := hide (H.out.below HB.out)
          have PI := hide (HR.out.ins p (List.mem_of_getElem? hp))
          obtain ⟨g, rfl, _, hg, d0, d1, d2, d3⟩ := HR.out.at hp
          obtain ⟨V, eV⟩ : ∃ V, V = wr.heap.size := ⟨_, rfl⟩
          obtain ⟨w5, e5⟩ : ∃ w5, w5 = wr.alloc (.cells #[.int .i64 p.s, .int .i64 p.r, .int .i64 p.n, .slice p.a p.m p.cp] 48) := ⟨_, rfl⟩
          have B5 : Hid (Below wr.heap.size wr w5) := by rw [e5]; exact below_alloc (Below.refl _ _) _
          have Y5 : Hid (V4 w5 V p) := by rw [e5, eV]; exact v4_new wr p
          have X5 := hide (HX.out.below B5.out)
          have BW5 := hide (below_step HB.out B5.out)
          have E5 := hide e5
          have EV := hide eV
          have PL : Hid (p.b.length = p.m) := PI.out.1.length
          have n1 := HN.out.1
          have n2 := HN.out.2
          have CT := hide (fun w => turn_any p.r p.n w)
          have CL := hide (fun w => rless_lit (a := r) (b := n) (c := p.r) (d := p.n) rfl w)
          have REF : Hid (goodL r n f nx (p.vt :: (l.drop (k + 1)).map Vv.vt) = false → ∀ w', Below w5.heap.size w5 w' → RLoadP w Q ⟨r, n, f, l.map Vv.vt⟩ l (.returned (.pointer none)) w') := fun hgf w' hw' => ⟨below_step BW5.out hw', .inr ⟨by rw [LB.out, ← HG.out, DK.out]; exact hgf, rfl⟩⟩
          clear e5 eV hp lk
          go_upto_region 8 with fail
          rw [← E5.out, ← EV.out]
          clear d0 d1 d2 d3 hg E5 EV
          obtain ⟨y0, y1, y2, y3⟩ := Y5.out
          obtain ⟨z0, z1⟩ := X5.out
          by_cases c1 : p.s < nx
          · have GF : Hid (goodL r n f nx (p.vt :: (l.drop (k + 1)).map Vv.vt) = false) := by have h0 : decide (nx ≤ p.vt.s) = false := decide_eq_false (by show ¬ nx ≤ p.s; omega); show _ = _; simp only [goodL, h0, Bool.false_and]
            have q1 : p.s ≤ nx - 1 := by omega
            clear c1
            go_wp2_with fail
            go_ret
            exact REF.out GF.out _ (Below.refl _ _)
          · have q1 : ¬ p.s ≤ nx - 1 := by omega
            have C1 : Hid (nx ≤ p.s) := by show _ ≤ _; omega
            clear c1
            by_cases c2 : f + 16 ≤ p.s
            · have GF : Hid (goodL r n f nx (p.vt :: (l.drop (k + 1)).map Vv.vt) = false) := by have h0 : decide (p.vt.s < f + 16) = false := decide_eq_false (by show ¬ p.s < f + 16; omega); show _ = _; simp only [goodL, h0, Bool.and_false, Bool.false_and]
              go_wp2_with fail
              go_ret
              exact REF.out GF.out _ (Below.refl _ _)
            · have C2 : Hid (p.s < f + 16) := by show _ < _; omega
              cases c3 : mayB p.r p.n
              · have GF : Hid (goodL r n f nx (p.vt :: (l.drop (k + 1)).map Vv.vt) = false) := by have h0 : fitsB p.vt = false := (by simp [fitsB, Vv.vt, c3]); show _ = _; simp only [goodL, h0, Bool.and_false, Bool.false_and]
                rw [c3] at CT
                clear c3
                go_wp2_with fail
                refine (CT.out _).mono ?_
                rintro e w6 ⟨rfl, rfl⟩
                go_wp2_with fail
                go_ret
                exact REF.out GF.out _ (below_alloc (Below.refl _ _) _)
              · rw [c3] at CT
                go_wp2_with fail
                refine (CT.out _).mono ?_
                rintro e w6 ⟨rfl, e6⟩
                have B6 : Hid (Below w5.heap.size w5 w6) := by rw [e6]; exact below_alloc (Below.refl _ _) _
                have Y6 := hide (Y5.out.below B6.out)
                have X6 := hide (X5.out.below B6.out)
                clear e6 y0 y1 y2 y3 z0 z1
                obtain ⟨y0, y1, y2, y3⟩ := Y6.out
                obtain ⟨z0, z1⟩ := X6.out
                go_wp2_with fail
                refine (CL.out _).mono ?_
                rintro e w7 ⟨rfl, hb7⟩
                have B7 := hide (below_step B6.out hb7)
                have Y7 := hide (Y5.out.below B7.out)
                have X7 := hide (X5.out.below B7.out)
                clear hb7 y0 y1 y2 y3 z0 z1
                obtain ⟨y0, y1, y2, y3⟩ := Y7.out
                cases c4 : lessB r n p.r p.n
                · by_cases c5 : p.m ≤ 2048
                  · have c5' : (p.m : Int) ≤ 2048 := by omega
                    have GS : Hid (goodL r n f nx (p.vt :: (l.drop (k + 1)).map Vv.vt) = goodL r n f (p.s + 1) ((l.drop (k + 1)).map Vv.vt)) := by
                      have h1 : decide (nx ≤ p.vt.s) = true := decide_eq_true C1.out
                      have h2 : decide (p.vt.s < f + 16) = true := decide_eq_true C2.out
                      have h3 : fitsB p.vt = true := by simp [fitsB, Vv.vt, c3, PL.out, c5]
                      have h4 : lessB r n p.vt.r p.vt.n = false := c4
                      show _ = _
                      simp only [goodL, h1, h2, h3, h4, Bool.true_and, Bool.not_false]
                      rfl
                    have BW7 := hide (below_step BW5.out B7.out)
                    clear c5 c4 c3
                    go_wp2_with fail
                    go_roundw
                    case rel => exact ⟨k + 1, p.s + 1, by omega, by go_num, by rw [Int.add_sub_cancel], BW7, X7, by show _ = _; rw [← GS.out, ← DK.out, HG.out], by have := C1.out; omega, by have := C2.out; omega⟩
                    case measure => simp [intOf]; omega
                  · have c5' : ¬ (p.m : Int) ≤ 2048 := by omega
                    have GF : Hid (goodL r n f nx (p.vt :: (l.drop (k + 1)).map Vv.vt) = false) := by have h0 : fitsB p.vt = false := (by simp [fitsB, Vv.vt, PL.out]; omega); show _ = _; simp only [goodL, h0, Bool.and_false, Bool.false_and]
                    clear c5 c4 c3
                    go_wp2_with fail
                    go_ret
                    exact REF.out GF.out _ B7.out
                · have GF : Hid (goodL r n f nx (p.vt :: (l.drop (k + 1)).map Vv.vt) = false) := by have h4 : lessB r n p.vt.r p.vt.n = true := c4; show _ = _; simp only [goodL, h4, Bool.not_true, Bool.and_false, Bool.false_and]
                  clear c4 c3
                  go_wp2_with fail
                  go_ret
                  exact REF.out GF.out _ B7.out
        · obtain rfl : k = m := by omega
          have GD : Hid (loadB ⟨r, n, f, l.map Vv.vt⟩ = true) := by
            show _ = _
            rw [LB.out, ← HG.out, List.drop_eq_nil_iff.2 (by have := LN.out; omega)]
            rfl
          have VR := hide (H.out.below HB.out)
          obtain ⟨wz, ez⟩ : ∃ wz, wz = wr := ⟨_, rfl⟩
          rw [← ez] at VR HB HX
          have EZ := hide ez
          go_upto_region 11 with fail
          rw [← EZ.out]
          clear ez EZ hlt hk
          obtain ⟨z0, z1⟩ := HX.out
          have VD : Hid (Vl wz.drew B Q a k c l) := VR.out.below (Below.refl _ _).drew
          obtain ⟨a8, c8, w8, hr8, hv8, hb8⟩ := vl_again VD.out hm 35
          have X8 : Hid (V2 w8 N r n) := V2.below (u := wz.drew) HX.out hb8
          have B8 : Hid (Below wz.heap.size wz w8) := (Below.refl _ _).drew.trans hb8
          have V8 := hide hv8
          obtain ⟨x0, x1⟩ := X8.out
          have FIN : Hid (∀ W', W' = w8.alloc (.cells #[.int .i64 r, .int .i64 n, .int .i64 f, .slice a8 k c8] 37) → RLoadP w Q ⟨r, n, f, l.map Vv.vt⟩ l (.returned (.pointer (some ⟨w8.heap.size, 0, none⟩))) W') := fun W' e => by
            subst e
            have hb9 := below_alloc (Below.refl w8.heap.size w8) (.cells #[.int .i64 r, .int .i64 n, .int .i64 f, .slice a8 k c8] 37)
            have hsz : w.heap.size ≤ wz.drew.heap.size := HB.out.size
            exact ⟨below_step (below_step HB.out B8.out) hb9, .inl ⟨GD.out, w8.heap.size, a8, k, c8, rfl, ⟨heap_alloc_new w8 _, (V8.out.below hb9).base (Nat.zero_le _), rfl, ok_load GD.out⟩, (V8.out.below hb9).base hsz, Nat.le_trans hsz hb8.size⟩⟩
          clear hv8 hb8
          have X9 : Hid (V2 (w8.alloc (.cells #[.int .i64 r, .int .i64 n, .int .i64 f, .slice a8 k c8] 37)) N r n) := X8.out.below (below_alloc (Below.refl _ _) _)
          refine region_ord [] [(0, true), (1, true), (2, true), (3, false), (4, true), (5, false), (6, true)] (by kernel_rfl) (by kernel_rfl) (by kernel_rfl) (by kernel_rfl) (by kernel_rfl) (by kernel_rfl) ?_
          refine ord_next (fun v => v.cell? ⟨N, 0, none⟩ = some (.int .i64 r) ∧ v.cell? ⟨N, 1, none⟩ = some (.int .i64 n)) ?_
          refine ord_take (v := ?_) rfl (fun _ _ _ h => h) (by rfl) (And.intro z0 z1) ?_ ?_
          rotate_left
          · (intro y hy; obtain ⟨y0, y1⟩ := hy; simp only [List.getElem_toArray, List.getElem_cons_zero]; go_simp; try with_reducible rfl)
          simp only [List.getElem_toArray, List.getElem_cons_zero, Act.put, List.setIfInBounds_toArray, List.set_cons_zero, List.set_cons_succ]
          refine ord_take (v := ?_) rfl (fun _ _ _ h => h) (by rfl) (And.intro z0 z1) ?_ ?_
          rotate_left
          · (intro y hy; simp only [List.getElem_toArray, List.getElem_cons_zero, List.getElem_cons_succ]; go_simp; try with_reducible rfl)
          simp only [List.getElem_toArray, List.getElem_cons_zero, List.getElem_cons_succ, Act.put, List.setIfInBounds_toArray, List.set_cons_zero, List.set_cons_succ]
          refine ord_take (v := ?_) rfl (fun _ _ _ h => h) (by rfl) (And.intro z0 z1) ?_ ?_
          rotate_left
          · (intro y hy; simp only [List.getElem_toArray, List.getElem_cons_zero, List.getElem_cons_succ]; go_simp; try with_reducible rfl)
          simp only [List.getElem_toArray, List.getElem_cons_zero, List.getElem_cons_succ, Act.put, List.setIfInBounds_toArray, List.set_cons_zero, List.set_cons_succ]
          refine ord_append rfl rfl (.const (.slice none 0 0)) (.tmp 71) 35 rfl (v := .slice a8 k c8) (w' := w8) ?_ (And.intro x0 x1) ?_
          · exact hr8
          try simp only [List.getElem_toArray, List.getElem_cons_zero, List.getElem_cons_succ, Act.put, List.setIfInBounds_toArray, List.set_cons_zero, List.set_cons_succ]
          refine ord_take (v := ?_) rfl (fun _ _ _ h => h) (by rfl) (And.intro x0 x1) ?_ ?_
          rotate_left
          · (intro y hy; simp only [List.getElem_toArray, List.getElem_cons_zero, List.getElem_cons_succ]; go_simp; try with_reducible rfl)
          simp only [List.getElem_toArray, List.getElem_cons_zero, List.getElem_cons_succ, Act.put, List.setIfInBounds_toArray, List.set_cons_zero, List.set_cons_succ]
          refine ord_only rfl (fun K' hK => ?_)
          simp only [List.getElem_toArray, List.getElem_cons_zero, List.getElem_cons_succ]
          go_simp
          refine hK _ _ ⟨X9.out, ?_⟩
          clear hK K'
          refine ord_take (v := ?_) rfl (fun _ _ _ h => h) (by rfl) X9.out ?_ ?_
          rotate_left
          · (intro y hy; simp only [List.getElem_toArray, List.getElem_cons_zero, List.getElem_cons_succ]; go_simp; try with_reducible rfl)
          simp only [List.getElem_toArray, List.getElem_cons_zero, List.getElem_cons_succ, Act.put, List.setIfInBounds_toArray, List.set_cons_zero, List.set_cons_succ]
          refine ord_done ?_
          go_wp2_with fail
          go_ret
          exact FIN.out _ rfl
end Go.Proofs.Ytdnniokpkamjjaa
