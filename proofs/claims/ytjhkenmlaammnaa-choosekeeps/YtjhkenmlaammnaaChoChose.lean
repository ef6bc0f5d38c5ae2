/- What Chosen of package choose returns. No condition. -/
import Derived.Test.YtjhkenmlaammnaaChoChosen
import Derived.Deep.CutRange
namespace Go.Proofs.Ytjhkenmlaammnaa
open Go.ChangeShapes Go.WideShapes Go.ChangeAt Go.RowKit Go.Shelf B8 Am Cz
set_option linter.unusedVariables false

def ChosenP (w : World) (n : Int) (l : List Pr) (e : Ending) (w' : World) : Prop :=
  ∃ a m c le, e = .returned (.slice a m c) ∧ Below w.heap.size w w' ∧ Es w' w.heap.size a m c le ∧ le.map Ev.ev = chosenL n l
theorem chosenAt_of {n : Int} {l : List Pr} {s : Int} {b : List Vv} (hb : b.map Vv.vt = forV l s) : chosenAt n l s = (bestP (backP b (n / 2 + 1))).map (fun v => (s, v.b)) := by
  unfold chosenAt
  rw [← hb, ← backP_vt, ← bestP_vt]
  cases bestP (backP b (n / 2 + 1)) <;> rfl
/-- a new vote's box -/
def Zb (w : World) (V : Nat) : Prop := w.heap[V]? = some (.cells #[.int .i64 0, .int .i64 0, .int .i64 0, .slice none 0 0] 45 (0, 0))
theorem zb_new (w : World) : Zb (w.alloc (.cells #[.int .i64 0, .int .i64 0, .int .i64 0, .slice none 0 0] 45)) w.heap.size := heap_alloc_new w _
theorem Zb.below {w w' : World} {V : Nat} (h : Zb w V) (hb : Below w.heap.size w w') : Zb w' V := (hb.block _ (Array.getElem?_eq_some_iff.1 h).1).trans h
theorem Zb.facts {w : World} {V : Nat} (h : Zb w V) : w.cell? ⟨V, 0, none⟩ = some (.int .i64 0) ∧ w.cell? ⟨V, 1, none⟩ = some (.int .i64 0) ∧ w.cell? ⟨V, 2, none⟩ = some (.int .i64 0) ∧ w.cell? ⟨V, 3, none⟩ = some (.slice none 0 0) ∧ ∀ o, w.frozen? ⟨V, o, none⟩ = false := by
  refine ⟨?_, ?_, ?_, ?_, fun o => frozen_of_row _ _ _ _ _ h⟩
  · rw [cell_of_row _ _ _ _ _ _ h]; rfl
  · rw [cell_of_row _ _ _ _ _ _ h]; rfl
  · rw [cell_of_row _ _ _ _ _ _ h]; rfl
  · rw [cell_of_row _ _ _ _ _ _ h]; rfl
/-- a vote stored in its box -/
def St (w : World) (V : Nat) (q : Vv) : World := (((w.setCell ⟨V, 0, none⟩ (.int .i64 q.s)).setCell ⟨V, 1, none⟩ (.int .i64 q.r)).setCell ⟨V, 2, none⟩ (.int .i64 q.n)).setCell ⟨V, 3, none⟩ (.slice q.a q.m q.cp)
theorem St_row {w : World} {V : Nat} {q : Vv} (h : Zb w V) : (St w V q).heap[V]? = some (.cells #[.int .i64 q.s, .int .i64 q.r, .int .i64 q.n, .slice q.a q.m q.cp] 45 (0, 0)) := put_row (put_row (put_row (put_row h)))
theorem St_below {w0 w : World} {B V : Nat} {q : Vv} (hb : Below B w0 w) (hV : B ≤ V) : Below B w0 (St w V q) := (((hb.setCell (p := ⟨V, 0, none⟩) hV _).setCell (p := ⟨V, 1, none⟩) hV _).setCell (p := ⟨V, 2, none⟩) hV _).setCell (p := ⟨V, 3, none⟩) hV _
theorem St_sq {w : World} {V : Nat} {q : Vv} {a : Option Addr} {m cp : Nat} {b : List Int} (h : Zb w V) (hs : Sq w a m cp b) : Sq (St w V q) a m cp b := by
  refine ⟨hs.length, hs.lecap, hs.nil, fun h0 => ?_, hs.wf⟩
  obtain ⟨g, off, e, hc⟩ := hs.cells h0
  have hne : g ≠ V := fun e2 => by
    subst e2
    exact NoB.of_row h (fun v hv x ex => by subst ex; simp at hv) _ _ (hc 0 h0)
  refine ⟨g, off, e, fun j hj => (World.cell?_of_block (a := ⟨g, off + j, none⟩) ?_).trans (hc j hj)⟩
  unfold St
  show (World.setCell _ _ _).heap[g]? = _
  rw [Below.heap_setCell _ _ _ _ (by simpa using hne), Below.heap_setCell _ _ _ _ (by simpa using hne), Below.heap_setCell _ _ _ _ (by simpa using hne), Below.heap_setCell _ _ _ _ (by simpa using hne)]
theorem nodup_len : ∀ {a b : List Int}, a.Nodup → (∀ x ∈ a, x ∈ b) → a.length ≤ b.length
  | [], b, _, _ => Nat.zero_le _
  | x :: r, b, h, hs => by
    obtain ⟨h1, h2⟩ := List.nodup_cons.1 h
    have hx : x ∈ b := hs x (by simp)
    have h3 := nodup_len (b := b.erase x) h2 (fun y hy => (List.mem_erase_of_ne (fun e => h1 (by rw [← e]; exact hy))).2 (hs y (by simp [hy])))
    rw [List.length_erase_of_mem hx] at h3
    have : 0 < b.length := List.length_pos_of_mem hx
    simp only [List.length_cons]
    omega
set_option maxRecDepth 100000 in
set_option maxHeartbeats 4000000 in
theorem chosen_any {w : World} {a : Option Addr} {m c : Nat} {l : List Pp} (h : Ps w a m l) (n : Int) :
    Calls Try.prog 10 #[.int .i64 n, .slice a m c] w (ChosenP w n (l.map Pp.pr)) := by
  have H := hide h
  have rm := h.room
  clear h
  cases hr : rightB n (l.map Pp.pr) with
  | false =>
    have E : Hid (chosenL n (l.map Pp.pr) = []) := by show _ = _; unfold chosenL; rw [hr]; simp
    have CR := hide (right_lit (c := c) H.out hr)
    clear hr
    go_enter Try.func10, Try.ntmps10
    go_wp2_with fail
    refine CR.out.mono ?_
    rintro e w1 ⟨rfl, hb1⟩
    have B1 := hide hb1
    clear hb1
    go_wp2_with fail
    go_ret
    exact ⟨none, 0, 0, [], rfl, B1.out, es_nil _ _, by rw [E.out]; rfl⟩
  | true =>
    have CR := hide (right_lit (c := c) H.out hr)
    have HR := hide hr
    have hn := (right_iff.1 hr).1
    have QN : Hid (quoV n = n / 2 + 1) := if_pos hn
    have CQ := hide (fun w => quorum_any n w)
    rw [QN.out] at CQ
    have CB : Hid (∀ w1, Below w.heap.size w w1 → Calls Try.prog 30 #[.slice a m c] w1 fun e w' => ∃ mb, e = .returned (.map (some mb)) ∧ ByP w1 w' l mb) := fun w1 hb1 => bySlots_any (H.out.below hb1) HR.out
    have EC : Hid (chosenL n (l.map Pp.pr) = (keysV (l.map Pp.pr)).filterMap (chosenAt n (l.map Pp.pr))) := by show _ = _; unfold chosenL; rw [hr]; simp
    have KN : Hid ((keysV (l.map Pp.pr)).length ≤ 80 ∧ ∀ s ∈ keysV (l.map Pp.pr), 1 ≤ s ∧ s ≤ 1099511627776) := by
      refine ⟨?_, fun s hs => ?_⟩
      · have nd : (keysV (l.map Pp.pr)).Nodup := (keys_sorted _).imp (fun {a b} h e => by omega)
        have sub : ∀ x ∈ keysV (l.map Pp.pr), x ∈ (all (l.map Pp.pr)).map (·.s) := fun x hx => by
          obtain ⟨v, hv, rfl⟩ := mem_keys.1 hx
          exact List.mem_map.2 ⟨v, hv, rfl⟩
        have h1 := nodup_len nd sub
        rw [List.length_map] at h1
        exact Nat.le_trans h1 (all_len hr)
      · obtain ⟨v, hv, rfl⟩ := mem_keys.1 hs
        have := all_ok hr hv
        exact ⟨this.1, this.2.1⟩
    clear hr
    go_enter Try.func10, Try.ntmps10
    go_wp2_with fail
    refine CR.out.mono ?_
    rintro e w1 ⟨rfl, hb1⟩
    have B1 := hide hb1
    clear hb1
    go_wp2_with fail
    refine (CB.out _ B1.out).mono ?_
    rintro e w3 ⟨mb, rfl, hby⟩
    have BY : Hid (ByP w1 w3 l mb) := hby
    have B3 := hide (below_step B1.out hby.below)
    have CS := hide (sorted_call hby HR.out)
    clear hby CR CB
    go_wp2_with fail
    refine (keys_call _ _).mono ?_
    rintro e w4 ⟨rfl, rfl⟩
    go_wp2_with fail
    refine CS.out.mono ?_
    rintro e w5 ⟨ak, ck, rfl, hb5, hrow⟩
    have YW := hide (BY.out.later hb5)
    have B5 := hide (below_step B3.out hb5)
    have RW := hide hrow
    clear hb5 hrow CS BY B1
    obtain ⟨ky, eky⟩ : ∃ ky, ky = keysV (l.map Pp.pr) := ⟨_, rfl⟩
    rw [← eky] at RW EC KN ⊢
    have kl := KN.out.1
    clear eky
    go_wp2_with fail
    go_loopw [6, 8, 9, 10, 21] (fun t _ _ _ iv wr => ∃ (k : Nat) (a1 : Option Addr) (m1 c1 : Nat) (le : List Ev), k ≤ ky.length ∧ iv = .int .i64 k ∧ t = .slice a1 m1 c1 ∧ m1 ≤ k ∧ Hid (Below w5.heap.size w5 wr) ∧ Hid (Es wr w5.heap.size a1 m1 c1 le) ∧ Hid (le.map Ev.ev = (ky.take k).filterMap (chosenAt n (l.map Pp.pr)))) (fun _ _ _ _ iv _ => ky.length - (intOf iv).toNat)
    case atStart => exact ⟨0, none, 0, 0, [], Nat.zero_le _, rfl, rfl, Nat.le_refl _, Below.refl _ _, es_nil _ _, rfl⟩
    case round =>
      obtain ⟨k, a1, m1, c1, le, hk, rfl, rfl, hm1, HB, HE, HL⟩ := hrel
      by_cases hlt : k < ky.length
      · obtain ⟨sl, hsl⟩ : ∃ sl, ky[k]? = some sl := ⟨_, List.getElem?_eq_getElem hlt⟩
        have TS : Hid ((ky.take (k + 1)).filterMap (chosenAt n (l.map Pp.pr)) = (ky.take k).filterMap (chosenAt n (l.map Pp.pr)) ++ (match chosenAt n (l.map Pp.pr) sl with | none => [] | some x => [x])) := by
          show _ = _
          rw [take_snoc hsl, List.filterMap_append]
          cases hc : chosenAt n (l.map Pp.pr) sl <;> simp [hc]
        have SB := KN.out.2 sl (List.mem_of_getElem? hsl)
        have sw : (Lit.int .i64 sl).wf = true := wf64 (by omega) (by omega)
        obtain ⟨_, ⟨ee, e3⟩ | ⟨g, cpk, cur, ee, _, hg, _⟩⟩ := id RW.out
        · omega
        · obtain ⟨rfl, rfl⟩ : ak = some ⟨g, 0, none⟩ ∧ ck = cpk := by simpa using ee
          have kc : wr.cell? ⟨g, k, none⟩ = some (.int .i64 sl) := by
            have h1 := RW.out.cellAt k (by omega)
            have h2 : w5.cell? ⟨g, k, none⟩ = some (.int .i64 sl) := by rw [h1]; simp [I8.vals, hsl]
            exact (HB.out.cell (p := ⟨g, k, none⟩) (Array.getElem?_eq_some_iff.1 hg).1).trans h2
          obtain ⟨BB, PB, N, ks, fb, hM, hBB, hN, hF, hK, hV⟩ := (YW.out.later HB.out).ex
          have LK := hide (fun (W : World) (hb : Below wr.heap.size wr W) => mb_look (hM.below hb) sw)
          have VS := hide (hV sl)
          have CA := hide (chosenAt_of (n := n) (hF sl))
          clear hM hBB hN hF hK hV sw ee hg hsl
          generalize fb sl = bk at *
          have CK : Hid (∀ W, Below wr.heap.size wr W → Calls Try.prog 37 #[.slice bk.a bk.m bk.c, .int .i64 (n / 2 + 1)] W fun e w' => ∃ a' m' c', e = .returned (.slice a' m' c') ∧ Below W.heap.size W w' ∧ Vs w' a' m' (backP bk.l (n / 2 + 1))) := fun W hW => backed_any (VS.out.below hW) (n / 2 + 1)
          have lk1 := LK.out wr.drew (Below.refl _ _).drew
          have lk2 := LK.out (wr.alloc (.cells #[.int .i64 0, .int .i64 0, .int .i64 0, .slice none 0 0] 45)).drew (below_alloc (Below.refl _ _) _).drew
          rw [CA.out] at TS
          clear CA
          generalize backP bk.l (n / 2 + 1) = bl at *
          obtain ⟨q, eq⟩ : ∃ q, (bestP bl).getD dvv = q := ⟨_, rfl⟩
          obtain ⟨is, ei⟩ : ∃ is, (bestP bl).isSome = is := ⟨_, rfl⟩
          have EQ := hide eq
          have EI := hide ei
          have TB : Hid ((match (bestP bl).map (fun v => (sl, v.b)) with | none => [] | some x => [x]) = if is = true then [(sl, q.b)] else []) := by
            rw [← ei, ← eq]
            cases bestP bl <;> rfl
          rw [TB.out] at TS
          clear eq ei TB
          go_upto_region 8 with fail
          clear kc
          go_cut [9, 10] from 25 to 34 (fun v9 v10 wc => ∃ V W, v9 = .pointer (some ⟨V, 0, none⟩) ∧ v10 = .bool is ∧ Hid (W = wc) ∧ Hid (W.heap[V]? = some (.cells #[.int .i64 q.s, .int .i64 q.r, .int .i64 q.n, .slice q.a q.m q.cp] 45 (0, 0))) ∧ Hid (Below wr.heap.size wr W) ∧ Hid (Sq W q.a q.m q.cp q.b ∧ q.m ≤ 140737488351232))
          case first =>
            go_region_with (first | (go_at_call 28; refine (CQ.out _).mono ?_; rintro e w6 ⟨rfl, rfl⟩) | (go_at_call 37; refine (CK.out _ (by go_grown)).mono ?_; rintro e w7 ⟨a7, m7, c7, rfl, hb7, hv7⟩; have C7 := hide (fun (W : World) (hb : Below w7.heap.size w7 W) => cbest_any (c := c7) (hv7.below hb) EQ.out EI.out); have B7 := hide hb7; have V7 := hide hv7; (try (have Z7 : Hid (Zb w7 wr.heap.size) := Zb.below (V := wr.heap.size) (by exact zb_new wr) hb7; obtain ⟨z0, z1, z2, z3, zf⟩ := Z7.out.facts)); clear hv7) | (go_at_call 31; refine (C7.out _ (by go_grown)).mono ?_; rintro e w8 ⟨rfl, hb8⟩; have B8 := hide hb8; (first | (have Z8 : Hid (Zb w8 wr.heap.size) := Zb.below Z7.out hb8; obtain ⟨y0, y1, y2, y3, yf⟩ := Z8.out.facts) | (have Z8 : Hid (Zb w8 w7.heap.size) := Zb.below (zb_new w7) hb8; obtain ⟨y0, y1, y2, y3, yf⟩ := Z8.out.facts) | skip)))
            all_goals
              have D7 : Hid (Below wr.heap.size wr w7) := by first | exact (Below.refl _ _).drew.trans B7.out | exact below_step (below_alloc (Below.refl _ _) _).drew B7.out
              have D8 : Hid (Below wr.heap.size wr w8) := by first | exact below_step D7.out B8.out | exact below_step (below_alloc D7.out _) B8.out
              have S7 := hide D7.out.size
              have S8 := hide D8.out.size
              have SQ7 := hide (best_sq V7.out EQ.out).1
              have SQ8 : Hid (Sq w8 q.a q.m q.cp q.b ∧ q.m ≤ 140737488351232) := ⟨by first | exact SQ7.out.1.below B8.out | exact (SQ7.out.1.below (below_alloc (Below.refl _ _) _)).below B8.out, SQ7.out.2⟩
              go_wp2_with fail
              go_meet
              case rel =>
                first
                | exact ⟨_, _, rfl, rfl, rfl, St_row (q := q) Z8.out, St_below D8.out (by first | exact Nat.le_refl _ | exact S7.out), St_sq Z8.out SQ8.out.1, SQ8.out.2⟩
                | exact ⟨_, _, rfl, rfl, rfl, heap_alloc_new w8 _, below_alloc D8.out _, SQ8.out.1.below (below_alloc (Below.refl _ _) _), SQ8.out.2⟩
          case rest =>
            obtain ⟨V, W, rfl, rfl, HW, RV, BF, SQ⟩ := hcut
            obtain rfl := HW.out
            clear HW
            clear lk1 lk2
            have BW := hide (below_step HB.out BF.out)
            have E6 := hide (HE.out.below BF.out)
            cases is with
            | false =>
              simp only [Bool.false_eq_true, if_false, List.append_nil] at TS
              have L6 : Hid (le.map Ev.ev = (ky.take (k + 1)).filterMap (chosenAt n (l.map Pp.pr))) := by show _ = _; rw [TS.out, HL.out]
              go_wp2_with fail
              go_roundw
              case rel => exact ⟨k + 1, a1, m1, c1, le, by omega, by go_num, rfl, by omega, BW, E6, L6⟩
              case measure => simp [intOf]; omega
            | true =>
              simp only [if_true] at TS
              have CE := hide (entry_any (s := q.s) (r := q.r) (n := q.n) (slot := sl) SQ.out.1 SQ.out.2)
              have y0 : W.cell? ⟨V, 0, none⟩ = some (.int .i64 q.s) := by rw [cell_of_row _ _ _ _ _ _ RV.out]; rfl
              have y1 : W.cell? ⟨V, 1, none⟩ = some (.int .i64 q.r) := by rw [cell_of_row _ _ _ _ _ _ RV.out]; rfl
              have y2 : W.cell? ⟨V, 2, none⟩ = some (.int .i64 q.n) := by rw [cell_of_row _ _ _ _ _ _ RV.out]; rfl
              have y3 : W.cell? ⟨V, 3, none⟩ = some (.slice q.a q.m q.cp) := by rw [cell_of_row _ _ _ _ _ _ RV.out]; rfl
              go_wp2_with fail
              refine CE.out.mono ?_
              rintro e w6 ⟨a6, c6, rfl, hb6, ho6⟩
              have B6 := hide (below_step BW.out hb6)
              have O6 := hide (ho6.base (B' := w5.heap.size) BW.out.size)
              obtain ⟨g6, cp6, w7, hr7, he7, hb7⟩ := es_add (E6.out.below hb6) (by omega) B6.out.size O6.out 24
              have E7 := hide he7
              have B7 := hide (B6.out.trans hb7)
              have L7 : Hid ((le ++ [(⟨sl, a6, q.m, c6, q.b⟩ : Ev)]).map Ev.ev = (ky.take (k + 1)).filterMap (chosenAt n (l.map Pp.pr))) := by
                show _ = _
                rw [TS.out, List.map_append, HL.out]
                rfl
              clear hb6 ho6 he7 hb7 y0 y1 y2 y3
              go_wp2_with (at_builtin; refine wp_append_run _ rfl _ _ 24 rfl _ _ hr7 ?_)
              go_roundw
              case rel => exact ⟨k + 1, _, m1 + 1, _, _, by omega, by go_num, rfl, by omega, B7, E7, L7⟩
              case measure => simp [intOf]; omega
      · obtain rfl : k = ky.length := by omega
        have FE : Hid (le.map Ev.ev = chosenL n (l.map Pp.pr)) := by
          show _ = _
          rw [HL.out, EC.out, List.take_of_length_le (Nat.le_refl _)]
        go_wp2_with fail
        go_ret
        exact ⟨a1, m1, c1, le, rfl, below_step B5.out HB.out, HE.out.base B5.out.size, FE.out⟩
end Go.Proofs.Ytjhkenmlaammnaa
