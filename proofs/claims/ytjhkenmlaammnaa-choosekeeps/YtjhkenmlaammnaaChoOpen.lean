/- What Open of package choose returns. No condition. -/
import Derived.Test.YtjhkenmlaammnaaChoBy
import Derived.Test.YtjhkenmlaammnaaChoEntry
namespace Go.Proofs.Ytjhkenmlaammnaa
open Go.ChangeShapes Go.WideShapes Go.ChangeAt Go.RowKit Go.Shelf B8 Am Cz
set_option linter.unusedVariables false

/-- the best of the votes that lie there is the best vote -/
theorem best_sq {w : World} {a : Option Addr} {m : Nat} {l : List Vv} (h : Vs w a m l) {p : Vv} (hp : (bestP l).getD dvv = p) : (Sq w p.a p.m p.cp p.b ∧ p.m ≤ 140737488351232) ∧ (match bestV (l.map Vv.vt) with | none => ([] : List Int) | some v => v.b) = p.b := by
  rw [← bestP_vt]
  cases hb : bestP l with
  | none =>
    rw [hb] at hp
    simp only [Option.getD_none] at hp
    subst hp
    exact ⟨⟨sq8_nil w, by simp [dvv]⟩, rfl⟩
  | some q =>
    rw [hb] at hp
    simp only [Option.getD_some] at hp
    subst hp
    exact ⟨h.each q (bestP_in hb), rfl⟩
theorem openE_of {n f : Int} {l : List Pr} (h : rightB n l = true) : openE n f l = if f < 1 ∨ 1099511627776 < f then 1 else if (l.length : Int) < n / 2 + 1 then 91 else if f + 1024 ≤ topV l then 81 else 0 := by
  unfold openE
  rw [h]
  simp
theorem openR_bad {n f : Int} {l : List Pr} {e : Int} (h : openE n f l = e) (he : e ≠ 0) : openR n f l = [] := by
  unfold openR
  rw [if_neg (by rw [h]; exact he)]
def OpenP (w : World) (n f : Int) (l : List Pr) (e : Ending) (w' : World) : Prop :=
  ∃ a m c le, e = .returned (.tuple #[.slice a m c, .int .i64 (openE n f l)]) ∧ Below w.heap.size w w' ∧ Es w' w.heap.size a m c le ∧ le.map Ev.ev = openR n f l
theorem open_bad {w w' : World} {n f : Int} {l : List Pr} {x : Int} (hb : Below w.heap.size w w') (h : openE n f l = x) (hx : x ≠ 0) : OpenP w n f l (.returned (.tuple #[.slice none 0 0, .int .i64 x])) w' :=
  ⟨none, 0, 0, [], by rw [h], hb, es_nil _ _, by rw [openR_bad h hx]; rfl⟩
set_option maxRecDepth 100000 in
set_option maxHeartbeats 4000000 in
theorem open_any {w : World} {a : Option Addr} {m c : Nat} {l : List Pp} (h : Ps w a m l) (n f : Int) :
    Calls Try.prog 8 #[.int .i64 n, .int .i64 f, .slice a m c] w (OpenP w n f (l.map Pp.pr)) := by
  have H := hide h
  have rm := h.room
  have LN : Hid ((l.map Pp.pr).length = m) := by show _ = _; rw [List.length_map]; exact h.len
  clear h
  cases hr : rightB n (l.map Pp.pr) with
  | false =>
    have E : Hid (openE n f (l.map Pp.pr) = 21) := by show _ = _; unfold openE; rw [hr]; simp
    have CR := hide (right_lit (c := c) H.out hr)
    clear hr
    go_enter Try.func8, Try.ntmps8
    go_wp2_with fail
    refine CR.out.mono ?_
    rintro e w1 ⟨rfl, hb1⟩
    have B1 := hide hb1
    clear hb1
    go_wp2_with fail
    go_returns
    exact open_bad B1.out E.out (by decide)
  | true =>
    have EO := hide (openE_of (f := f) hr)
    have CR := hide (right_lit (c := c) H.out hr)
    have HR := hide hr
    have hn := (right_iff.1 hr).1
    have QN : Hid (quoV n = n / 2 + 1) := if_pos hn
    have TG := hide (top_le hr)
    have T0 := hide (top_nonneg (l.map Pp.pr))
    clear hr
    by_cases f1 : f < 1
    · have E : Hid (openE n f (l.map Pp.pr) = 1) := by show _ = _; rw [EO.out, if_pos (.inl f1)]
      go_enter Try.func8, Try.ntmps8
      go_wp2_with fail
      refine CR.out.mono ?_
      rintro e w1 ⟨rfl, hb1⟩
      have B1 := hide hb1
      clear hb1
      go_wp2_with fail
      go_returns
      exact open_bad B1.out E.out (by decide)
    · by_cases f2 : 1099511627776 < f
      · have E : Hid (openE n f (l.map Pp.pr) = 1) := by show _ = _; rw [EO.out, if_pos (.inr f2)]
        go_enter Try.func8, Try.ntmps8
        go_wp2_with fail
        refine CR.out.mono ?_
        rintro e w1 ⟨rfl, hb1⟩
        have B1 := hide hb1
        clear hb1
        go_wp2_with fail
        go_returns
        exact open_bad B1.out E.out (by decide)
      · have CQ := hide (fun w => quorum_any n w)
        rw [QN.out] at CQ
        by_cases q1 : (m : Int) < n / 2 + 1
        · have E : Hid (openE n f (l.map Pp.pr) = 91) := by show _ = _; rw [EO.out, if_neg (by omega), if_pos (by rw [LN.out]; exact q1)]
          go_enter Try.func8, Try.ntmps8
          go_wp2_with fail
          refine CR.out.mono ?_
          rintro e w1 ⟨rfl, hb1⟩
          have B1 := hide hb1
          clear hb1
          go_wp2_with fail
          refine (CQ.out _).mono ?_
          rintro e w2 ⟨rfl, rfl⟩
          go_wp2_with fail
          go_returns
          exact open_bad B1.out E.out (by decide)
        · by_cases q2 : f + 1024 ≤ topV (l.map Pp.pr)
          · have E : Hid (openE n f (l.map Pp.pr) = 81) := by show _ = _; rw [EO.out, if_neg (by omega), if_neg (by rw [LN.out]; exact q1), if_pos q2]
            have CG : Hid (∀ w1, Below w.heap.size w w1 → Calls Try.prog 29 #[.slice a m c] w1 fun e w' => e = .returned (.int .i64 (topV (l.map Pp.pr))) ∧ Below w1.heap.size w1 w') := fun w1 hb1 => greatest_any (H.out.below hb1)
            have t1 := TG.out
            have t0 := T0.out
            generalize topV (l.map Pp.pr) = tp at q2 CG t1 t0
            go_enter Try.func8, Try.ntmps8
            go_wp2_with fail
            refine CR.out.mono ?_
            rintro e w1 ⟨rfl, hb1⟩
            have B1 := hide hb1
            clear hb1
            go_wp2_with fail
            refine (CQ.out _).mono ?_
            rintro e w2 ⟨rfl, rfl⟩
            go_wp2_with fail
            refine (CG.out _ B1.out).mono ?_
            rintro e w2 ⟨rfl, hb2⟩
            have B2 := hide (below_step B1.out hb2)
            clear hb2
            go_wp2_with fail
            go_returns
            exact open_bad B2.out E.out (by decide)
          · have E : Hid (openE n f (l.map Pp.pr) = 0) := by show _ = _; rw [EO.out, if_neg (by omega), if_neg (by rw [LN.out]; exact q1), if_neg q2]
            have ER : Hid (openR n f (l.map Pp.pr) = openL f (l.map Pp.pr)) := by show _ = _; unfold openR; rw [if_pos E.out]
            have CG : Hid (∀ w1, Below w.heap.size w w1 → Calls Try.prog 29 #[.slice a m c] w1 fun e w' => e = .returned (.int .i64 (topV (l.map Pp.pr))) ∧ Below w1.heap.size w1 w') := fun w1 hb1 => greatest_any (H.out.below hb1)
            have CB : Hid (∀ w1, Below w.heap.size w w1 → Calls Try.prog 30 #[.slice a m c] w1 fun e w' => ∃ mb, e = .returned (.map (some mb)) ∧ ByP w1 w' l mb) := fun w1 hb1 => bySlots_any (H.out.below hb1) HR.out
            have t1 := TG.out
            have t0 := T0.out
            obtain ⟨tp, etp⟩ : ∃ tp, tp = topV (l.map Pp.pr) := ⟨_, rfl⟩
            rw [← etp] at q2 CG t1 t0
            have ETP := hide etp
            clear etp EO
            go_enter Try.func8, Try.ntmps8
            go_wp2_with fail
            refine CR.out.mono ?_
            rintro e w1 ⟨rfl, hb1⟩
            have B1 := hide hb1
            clear hb1
            go_wp2_with fail
            refine (CQ.out _).mono ?_
            rintro e w2 ⟨rfl, rfl⟩
            go_wp2_with fail
            refine (CG.out _ B1.out).mono ?_
            rintro e w2 ⟨rfl, hb2⟩
            have B2 := hide (below_step B1.out hb2)
            clear hb2
            go_wp2_with fail
            refine (CB.out _ B2.out).mono ?_
            rintro e w3 ⟨mb, rfl, hby⟩
            have BY : Hid (ByP w2 w3 l mb) := hby
            have B3 := hide (below_step B2.out hby.below)
            clear hby CR CG CB B1
            go_wp2_with fail
            go_loopw [10, 11, 12, 13] (fun t sv _ _ wr => ∃ (k : Nat) (a1 : Option Addr) (c1 : Nat) (le : List Ev), f + (k : Int) ≤ max f (tp + 1) ∧ sv = .int .i64 (f + (k : Int)) ∧ t = .slice a1 k c1 ∧ Hid (Below w3.heap.size w3 wr) ∧ Hid (Es wr w3.heap.size a1 k c1 le) ∧ Hid (le.map Ev.ev = (List.range k).map (fun (i : Nat) => (f + (i : Int), valV (l.map Pp.pr) (f + (i : Int)))))) (fun _ sv _ _ _ => (tp + 1 - intOf sv).toNat)
            case atStart => exact ⟨0, none, 0, [], by simp; omega, by simp, rfl, Below.refl _ _, es_nil _ _, rfl⟩
            case round =>
              obtain ⟨k, a1, c1, le, hk, rfl, rfl, HB, HE, HL⟩ := hrel
              by_cases hlt : f + (k : Int) ≤ tp
              · have hk2 : k ≤ 2000 := by omega
                obtain ⟨sl, esl⟩ : ∃ sl, sl = f + (k : Int) := ⟨_, rfl⟩
                have s1 : f + (k : Int) + 1 = f + ((k + 1 : Nat) : Int) := by omega
                have S1 := hide s1
                have ESL := hide esl
                have sb1 : 1 ≤ sl := by omega
                have sb2 : sl ≤ 1099511627776 := by omega
                have sw : (Lit.int .i64 sl).wf = true := wf64 (by omega) (by omega)
                obtain ⟨BB, PB, N, ks, fb, hM, hBB, hN, hF, hK, hV⟩ := (BY.out.later HB.out).ex
                have lk := mb_look hM sw
                have VS := hide (hV sl)
                have VF := hide (hF sl)
                rw [← esl] at hlt ⊢
                clear hM hBB hN hF hK hV esl s1 sw
                generalize fb sl = bk at *
                obtain ⟨q, eq⟩ : ∃ q, (bestP bk.l).getD dvv = q := ⟨_, rfl⟩
                obtain ⟨is, ei⟩ : ∃ is, (bestP bk.l).isSome = is := ⟨_, rfl⟩
                have CB := hide (cbest_any (c := bk.c) VS.out eq ei)
                have SQ := hide (best_sq VS.out eq)
                have EV : Hid (valV (l.map Pp.pr) sl = q.b) := by
                  show _ = _
                  rw [← SQ.out.2, VF.out]
                  rfl
                clear eq ei
                go_wp2_with fail
                refine CB.out.mono ?_
                rintro e w4 ⟨rfl, hb4⟩
                obtain ⟨w5, e5⟩ : ∃ w5, w5 = w4.alloc (.cells #[.int .i64 q.s, .int .i64 q.r, .int .i64 q.n, .slice q.a q.m q.cp] 45) := ⟨_, rfl⟩
                have B5 : Hid (Below wr.heap.size wr w5) := by rw [e5]; exact below_alloc hb4 _
                have R5 : Hid (w5.heap[w4.heap.size]? = some (.cells #[.int .i64 q.s, .int .i64 q.r, .int .i64 q.n, .slice q.a q.m q.cp] 45 (0, 0))) := by rw [e5]; exact heap_alloc_new w4 _
                have E5 := hide e5
                have CE := hide (entry_any (s := q.s) (r := q.r) (n := q.n) (slot := sl) (SQ.out.1.1.below B5.out) SQ.out.1.2)
                clear hb4 e5 lk
                go_upto_region 16 with fail
                rw [← E5.out]
                have y0 : w5.cell? ⟨w4.heap.size, 0, none⟩ = some (.int .i64 q.s) := by rw [cell_of_row _ _ _ _ _ _ R5.out]; rfl
                have y1 : w5.cell? ⟨w4.heap.size, 1, none⟩ = some (.int .i64 q.r) := by rw [cell_of_row _ _ _ _ _ _ R5.out]; rfl
                have y2 : w5.cell? ⟨w4.heap.size, 2, none⟩ = some (.int .i64 q.n) := by rw [cell_of_row _ _ _ _ _ _ R5.out]; rfl
                have y3 : w5.cell? ⟨w4.heap.size, 3, none⟩ = some (.slice q.a q.m q.cp) := by rw [cell_of_row _ _ _ _ _ _ R5.out]; rfl
                go_wp2_with fail
                refine CE.out.mono ?_
                rintro e w6 ⟨a6, c6, rfl, hb6, ho6⟩
                have B6 : Hid (Below wr.heap.size wr w6) := below_step B5.out hb6
                have BW := hide (below_step HB.out B6.out)
                have O6 := hide (ho6.base (B' := w3.heap.size) (Nat.le_trans HB.out.size B5.out.size))
                obtain ⟨g, cp, w7, hr7, he7, hb7⟩ := es_add (HE.out.below B6.out) (by omega) BW.out.size O6.out 24
                have E7 := hide he7
                have B7 := hide (BW.out.trans hb7)
                have L7 : Hid ((le ++ [(⟨sl, a6, q.m, c6, q.b⟩ : Ev)]).map Ev.ev = (List.range (k + 1)).map (fun (i : Nat) => (f + (i : Int), valV (l.map Pp.pr) (f + (i : Int))))) := by
                  show _ = _
                  rw [List.range_succ, List.map_append, List.map_append, HL.out]
                  show _ ++ [(sl, q.b)] = _ ++ [(f + (k : Int), _)]
                  rw [← ESL.out, EV.out]
                clear hb6 ho6 he7 hb7 y0 y1 y2 y3
                go_wp2_with (at_builtin; refine wp_append_run _ rfl _ _ 24 rfl _ _ hr7 ?_)
                go_roundw
                case rel => exact ⟨k + 1, _, _, _, by have := ESL.out; omega, by have := ESL.out; go_num, rfl, B7, E7, L7⟩
                case measure => (have := ESL.out; simp [intOf]; omega)
              · have KE : Hid ((tp + 1 - f).toNat = k) := by show _ = _; omega
                have FE : Hid (le.map Ev.ev = openR n f (l.map Pp.pr)) := by
                  show _ = _
                  rw [HL.out, ER.out]
                  unfold openL
                  rw [← ETP.out, KE.out]
                go_wp2_with fail
                go_returns
                exact ⟨a1, k, c1, le, by rw [E.out]; rfl, below_step B3.out HB.out, HE.out.base B3.out.size, FE.out⟩
end Go.Proofs.Ytjhkenmlaammnaa
