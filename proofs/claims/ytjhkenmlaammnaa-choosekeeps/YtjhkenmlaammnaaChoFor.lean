/- The document's For: the votes for a slot, by rising nodes. No condition but that the promises are right. -/
import Derived.Test.YtjhkenmlaammnaaChoMem
import Derived.Deep.Cut
namespace Go.Proofs.Ytjhkenmlaammnaa
open Go.ChangeShapes Go.WideShapes Go.ChangeAt Go.RowKit B8 Am Cz
set_option linter.unusedVariables false

/-- a vote and whose it is, as they lie -/
structure Ca where
  nd : Int
  v : Vv
def Ca.cells (p : Ca) : List Value := [.int .i64 p.nd, .int .i64 p.v.s, .int .i64 p.v.r, .int .i64 p.v.n, .slice p.v.a p.v.m p.v.cp]
def ccells (l : List Ca) : List Value := l.flatMap Ca.cells
theorem ccells_append (l r : List Ca) : ccells (l ++ r) = ccells l ++ ccells r := by simp [ccells]
theorem ccells_length : ∀ (l : List Ca), (ccells l).length = l.length * 5
  | [] => rfl
  | p :: r => by show (p.cells ++ ccells r).length = _; rw [List.length_append, ccells_length r]; simp [Ca.cells]; omega
theorem ccells_at : ∀ (l : List Ca) (i : Nat) (p : Ca), l[i]? = some p → ∀ j, j < 5 → (ccells l)[i * 5 + j]? = p.cells[j]?
  | [], i, p, hx, _, _ => by simp at hx
  | y :: r, 0, p, hx, j, hj => by
    simp at hx
    subst hx
    show (y.cells ++ ccells r)[0 * 5 + j]? = _
    rw [List.getElem?_append_left (by simp [Ca.cells]; omega)]
    simp
  | y :: r, i + 1, p, hx, j, hj => by
    show (y.cells ++ ccells r)[(i + 1) * 5 + j]? = _
    rw [List.getElem?_append_right (by simp [Ca.cells]; omega), show (i + 1) * 5 + j - y.cells.length = i * 5 + j by simp [Ca.cells]; omega]
    exact ccells_at r i p (by simpa using hx) j hj
theorem castinfo : (Try.prog.info? 47).map (fun i => (i.zero, i.size, i.bytes)) = some (some (.agg #[.int .i64 0, .int .i64 0, .int .i64 0, .int .i64 0, .slice none 0 0]), 5, 56) := by kernel_rfl
/-- a list of casts of the call's own, whose values can be read -/
structure Cs (w : World) (B : Nat) (a : Option Addr) (m c : Nat) (l : List Ca) : Prop where
  row : w.ownsRow B 47 5 (.slice a m c) m (ccells l)
  len : l.length = m
  each : ∀ p ∈ l, Sq w p.v.a p.v.m p.v.cp p.v.b ∧ p.v.m ≤ 140737488351232
  old : ∀ p ∈ l, 0 < p.v.m → ∀ ad, p.v.a = some ad → ad.block < B
theorem cs_nil (w : World) (B : Nat) : Cs w B none 0 0 [] := ⟨World.ownsRow_nil _ _ _ _, rfl, fun p hp => absurd hp (by simp), fun p hp => absurd hp (by simp)⟩
theorem Cs.below {w w' : World} {B : Nat} {a : Option Addr} {m c : Nat} {l : List Ca} (h : Cs w B a m c l) (hb : Below w.heap.size w w') : Cs w' B a m c l :=
  ⟨row_same h.row (fun k hk => hb.block k (h.row.lt k hk).2), h.len, fun p hp => ⟨(h.each p hp).1.below hb, (h.each p hp).2⟩, h.old⟩
theorem Cs.at {w : World} {B : Nat} {a : Option Addr} {m c : Nat} {l : List Ca} (h : Cs w B a m c l) {i : Nat} (hi : i < m) :
    ∃ b p, a = some ⟨b, 0, none⟩ ∧ l[i]? = some p ∧ p ∈ l ∧ b < w.heap.size ∧ w.cell? ⟨b, i * 5 + 1, none⟩ = some (.int .i64 p.v.s) ∧ w.cell? ⟨b, i * 5 + 2, none⟩ = some (.int .i64 p.v.r) ∧ w.cell? ⟨b, i * 5 + 3, none⟩ = some (.int .i64 p.v.n) ∧ w.cell? ⟨b, i * 5 + 4, none⟩ = some (.slice p.v.a p.v.m p.v.cp) := by
  have hl : i < l.length := by rw [h.len]; exact hi
  have hp : l[i]? = some l[i] := List.getElem?_eq_getElem hl
  obtain ⟨_, ⟨e, e2⟩ | ⟨g, cp, cur, e, hB, hg, _⟩⟩ := id h.row
  · omega
  · obtain ⟨e1, e3⟩ : a = some ⟨g, 0, none⟩ ∧ c = cp := by simpa using e
    have row := h.row
    rw [e1] at row
    have hc : ∀ j, j < 5 → w.cell? ⟨g, i * 5 + j, none⟩ = l[i].cells[j]? := fun j hj => by
      rw [row.cellAt (i * 5 + j) (by omega)]
      exact ccells_at _ _ _ hp j hj
    exact ⟨g, l[i], e1, hp, List.getElem_mem hl, (Array.getElem?_eq_some_iff.1 hg).1, (hc 1 (by omega)).trans rfl, (hc 2 (by omega)).trans rfl, (hc 3 (by omega)).trans rfl, (hc 4 (by omega)).trans rfl⟩
/-- the votes for a slot as they lie, by rising nodes -/
def forK (l : List Pp) (s : Int) (ns : List Int) : List Vv := (ns.flatMap (fun k => (l.filter (fun p => decide (p.nd = k))).flatMap (·.l))).filter (fun v => decide (v.s = s))
def forP (l : List Pp) (s : Int) : List Vv := forK l s [1, 2, 3, 4, 5]
def ofN (l : List Pp) (s k : Int) : List Vv := ((l.filter (fun p => decide (p.nd = k))).flatMap (·.l)).filter (fun v => decide (v.s = s))
theorem forK_cons (l : List Pp) (s k : Int) (ns : List Int) : forK l s (k :: ns) = ofN l s k ++ forK l s ns := by simp [forK, ofN, List.filter_append]
theorem ofN_cons (p : Pp) (l : List Pp) (s k : Int) : ofN (p :: l) s k = (if p.nd = k then p.l.filter (fun v => decide (v.s = s)) else []) ++ ofN l s k := by
  unfold ofN
  by_cases h : p.nd = k
  · simp [h, List.filter_append]
  · simp [h]
theorem forP_vt (l : List Pp) (s : Int) : (forP l s).map Vv.vt = forV (l.map Pp.pr) s := by
  have key : ∀ ns : List Int, (ns.flatMap (fun k => (l.filter (fun p => decide (p.nd = k))).flatMap (·.l))).map Vv.vt = (ns.flatMap (fun k => (l.map Pp.pr).filter (fun p => decide (p.nd = k)))).flatMap (·.vs) := fun ns => by
    induction ns with
    | nil => rfl
    | cons k r ih =>
      simp only [List.flatMap_cons, List.map_append, List.flatMap_append, ih]
      congr 1
      clear ih
      induction l with
      | nil => rfl
      | cons p q ih2 =>
        by_cases h : p.nd = k
        · simp [h, Pp.pr, ih2]
        · simp [h, Pp.pr, ih2]
  unfold forP forK forV all byN
  rw [← key, List.filter_map]
  rfl
theorem forP_len {n : Int} {l : List Pp} (h : rightB n (l.map Pp.pr) = true) (s : Int) : (forP l s).length ≤ 80 := by
  rw [← List.length_map (f := Vv.vt), forP_vt]
  unfold forV
  exact Nat.le_trans (List.length_filter_le _ _) (all_len h)
theorem drop_cons {α : Type} {l : List α} {k : Nat} {p : α} (h : l[k]? = some p) : l.drop k = p :: l.drop (k + 1) := by
  obtain ⟨h1, rfl⟩ := List.getElem?_eq_some_iff.1 h
  exact List.drop_eq_getElem_cons h1
set_option maxRecDepth 100000 in
set_option maxHeartbeats 4000000 in
theorem for_any {w : World} {a : Option Addr} {m c : Nat} {l : List Pp} (h : Ps w a m l) {n : Int} (hr : rightB n (l.map Pp.pr) = true) (s : Int) :
    Calls Try.prog 17 #[.slice a m c, .int .i64 s] w fun e w' => ∃ a' m' c' cl, e = .returned (.slice a' m' c') ∧ Below w.heap.size w w' ∧ Cs w' w.heap.size a' m' c' cl ∧ cl.map Ca.v = forP l s ∧ m' ≤ 80 := by
  have H := hide h
  have rm := h.room
  have FL := hide (forP_len hr s)
  obtain ⟨FP, eFP⟩ : ∃ FP, FP = forP l s := ⟨_, rfl⟩
  rw [← eFP] at FL
  have EFP := hide eFP
  clear h hr eFP
  go_enter Try.func17, Try.ntmps17
  go_wp2_with fail
  go_loopw [5, 6, 7, 8] (fun t nv _ _ wr => ∃ (q : Nat) (a1 : Option Addr) (m1 c1 : Nat) (cl : List Ca), q ≤ 5 ∧ nv = .int .i64 ((q : Int) + 1) ∧ t = .slice a1 m1 c1 ∧ Hid (Below w.heap.size w wr) ∧ Hid (Cs wr w.heap.size a1 m1 c1 cl) ∧ Hid (FP = cl.map Ca.v ++ forK l s ([1, 2, 3, 4, 5].drop q))) (fun _ nv _ _ _ => (6 - intOf nv).toNat)
  case atStart => exact ⟨0, none, 0, 0, [], by omega, rfl, rfl, Below.refl _ _, cs_nil _ _, by show _ = _; rw [EFP.out]; rfl⟩
  case round =>
    obtain ⟨q, a1, m1, c1, cl, hq, rfl, rfl, HB, HC, HF⟩ := hrel
    by_cases hlt : q < 5
    · obtain ⟨nd, end_⟩ : ∃ nd : Int, nd = (q : Int) + 1 := ⟨_, rfl⟩
      have DQ : Hid ([1, 2, 3, 4, 5].drop q = nd :: ([1, 2, 3, 4, 5] : List Int).drop (q + 1)) := by
        show _ = _
        match q, hlt, end_ with
        | 0, _, e => simp [e]
        | 1, _, e => simp [e]
        | 2, _, e => simp [e]
        | 3, _, e => simp [e]
        | 4, _, e => simp [e]
      have F2 : Hid (FP = cl.map Ca.v ++ (ofN l s nd ++ forK l s (([1, 2, 3, 4, 5] : List Int).drop (q + 1)))) := by show _ = _; rw [HF.out, DQ.out, forK_cons]
      obtain ⟨RS, eRS⟩ : ∃ RS, RS = forK l s (([1, 2, 3, 4, 5] : List Int).drop (q + 1)) := ⟨_, rfl⟩
      rw [← eRS] at F2
      have ERS := hide eRS
      have END := hide end_
      have nb1 : 1 ≤ nd := by omega
      have nb2 : nd ≤ 5 := by omega
      rw [← end_]
      clear eRS end_ HF DQ
      go_wp2_with fail
      go_loopw [5, 7, 8] (fun t iv _ wr => ∃ (i : Nat) (a1 : Option Addr) (m1 c1 : Nat) (cl : List Ca), i ≤ m ∧ iv = .int .i64 (i : Int) ∧ t = .slice a1 m1 c1 ∧ Hid (Below w.heap.size w wr) ∧ Hid (Cs wr w.heap.size a1 m1 c1 cl) ∧ Hid (FP = cl.map Ca.v ++ (ofN (l.drop i) s nd ++ RS))) (fun _ iv _ _ => m - (intOf iv).toNat)
      case atStart => exact ⟨0, a1, m1, c1, cl, Nat.zero_le _, rfl, rfl, HB, HC, F2⟩
      case round =>
        clear HB HC F2
        obtain ⟨i, a1, m1, c1, cl, hi, rfl, rfl, HB, HC, HF⟩ := hrel
        by_cases hli : i < m
        · obtain ⟨b, off, p, rfl, hb, hp, hpl, d0, d1⟩ := H.out.at hli
          have D0 := hide d0
          have D1 := hide d1
          have LB := hide hb
          have VP := hide (H.out.each p hpl).1
          have i1 : (i : Int) < (m : Int) := by omega
          have i2 : (0 : Int) ≤ (i : Int) := by omega
          have DI := hide (drop_cons hp)
          have rv := VP.out.room
          clear hp hpl hb d0 d1
          by_cases hnd : p.nd = nd
          · have F3 : Hid (FP = cl.map Ca.v ++ (p.l.filter (fun v => decide (v.s = s)) ++ (ofN (l.drop (i + 1)) s nd ++ RS))) := by
              show _ = _
              rw [HF.out, DI.out, ofN_cons, if_pos hnd, List.append_assoc]
            obtain ⟨R2, eR2⟩ : ∃ R2, R2 = ofN (l.drop (i + 1)) s nd ++ RS := ⟨_, rfl⟩
            rw [← eR2] at F3
            have ER2 := hide eR2
            clear eR2 HF
            go_wp2_with fail
            go_loopw [5, 8] (fun t kv wr => ∃ (k : Nat) (a1 : Option Addr) (m1 c1 : Nat) (cl : List Ca), k ≤ p.m ∧ kv = .int .i64 (k : Int) ∧ t = .slice a1 m1 c1 ∧ Hid (Below w.heap.size w wr) ∧ Hid (Cs wr w.heap.size a1 m1 c1 cl) ∧ Hid (FP = cl.map Ca.v ++ ((p.l.drop k).filter (fun v => decide (v.s = s)) ++ R2))) (fun _ kv _ => p.m - (intOf kv).toNat)
            case atStart => exact ⟨0, a1, m1, c1, cl, Nat.zero_le _, rfl, rfl, HB, HC, F3⟩
            case round =>
              clear HB HC F3
              obtain ⟨k, a1, m1, c1, cl, hk, rfl, rfl, HB, HC, HF⟩ := hrel
              have d0 := (HB.out.cell (p := ⟨b, off + i * 2, none⟩) LB.out).trans D0.out
              have d1 := (HB.out.cell (p := ⟨b, off + i * 2 + 1, none⟩) LB.out).trans D1.out
              rw [hnd] at d0
              by_cases hlk : k < p.m
              · obtain ⟨b', off', v, e', hb', hv, hvl, c0, c1', c2, c3⟩ := (VP.out.below HB.out).at hlk
                have k1 : (k : Int) < (p.m : Int) := by omega
                have k2 : (0 : Int) ≤ (k : Int) := by omega
                have DV := hide (drop_cons hv)
                have VE := hide (VP.out.each v hvl)
                rw [e'] at d1
                clear hv hvl hb'
                by_cases hs : v.s = s
                · have F4 : Hid (FP = (cl ++ [(⟨nd, v⟩ : Ca)]).map Ca.v ++ ((p.l.drop (k + 1)).filter (fun v => decide (v.s = s)) ++ R2)) := by
                    show _ = _
                    rw [HF.out, DV.out, List.filter_cons_of_pos (by simpa using hs), List.map_append]
                    simp
                  have ML : Hid (m1 ≤ 80) := by
                    show _ ≤ _
                    have h1 := congrArg List.length HF.out
                    rw [List.length_append, List.length_map, HC.out.len] at h1
                    have := FL.out
                    omega
                  have ml := ML.out
                  obtain ⟨i0, hi0, hz0, hz1, hz2⟩ := info_parts castinfo
                  obtain ⟨g, cp, w2, hr2, ho2, hc2, hb2, _⟩ := row_add (ty := 40) Try.underlying40 hi0 hz0 hz1 hz2 rfl (by omega) HC.out.row #[.int .i64 nd, .int .i64 v.s, .int .i64 v.r, .int .i64 v.n, .slice v.a v.m v.cp] rfl (fun u hu => by simp at hu; rcases hu with rfl | rfl | rfl | rfl | rfl <;> rfl) (by omega) (by omega) HB.out.size
                  have B2 := hide (HB.out.trans hb2)
                  have C2 : Hid (Cs w2 w.heap.size (some ⟨g, 0, none⟩) (m1 + 1) cp (cl ++ [(⟨nd, v⟩ : Ca)])) := by
                    refine ⟨by rw [ccells_append]; exact ho2, by simp [HC.out.len], fun x hx => ?_, fun x hx h0 ad ea => ?_⟩
                    rotate_left
                    · have hx' : x ∈ cl ∨ x = ⟨nd, v⟩ := by simpa using hx
                      rcases hx' with hx' | rfl
                      · exact HC.out.old x hx' h0 ad ea
                      · obtain ⟨bb, oo, e2, hcc⟩ := VE.out.1.cells h0
                        have e3 := ea.symm.trans e2
                        cases e3
                        exact World.block_lt_of_cell? w _ (hcc 0 h0)
                    have hx' : x ∈ cl ∨ x = ⟨nd, v⟩ := by simpa using hx
                    rcases hx' with hx' | rfl
                    · refine ⟨?_, (HC.out.each x hx').2⟩
                      have hq := (HC.out.each x hx').1
                      refine ⟨hq.length, hq.lecap, hq.nil, fun h0 => ?_, hq.wf⟩
                      obtain ⟨bb, oo, ee, hcc⟩ := hq.cells h0
                      refine ⟨bb, oo, ee, fun j hj => (World.cell?_of_block (a := ⟨bb, oo + j, none⟩) (hc2.block bb (World.block_lt_of_cell? wr _ (hcc j hj)) (fun e2 => ?_))).trans (hcc j hj)⟩
                      have h1 := HC.out.old x hx' h0 _ ee
                      have h2 := (HC.out.row.lt bb e2).1
                      simp only at h1
                      omega
                    · exact ⟨VE.out.1.below B2.out, VE.out.2⟩
                  rw [← hs] at *
                  clear ho2 hc2 hb2 hi0 hz0 hz1 hz2 HF DV
                  go_wp2_with (at_builtin; refine wp_append_run _ rfl _ _ 40 rfl _ _ hr2 ?_)
                  go_roundw
                  case rel => exact ⟨k + 1, _, m1 + 1, _, _, by omega, by go_num, rfl, B2, C2, F4⟩
                  case measure => simp [intOf]; omega
                · have F4 : Hid (FP = cl.map Ca.v ++ ((p.l.drop (k + 1)).filter (fun v => decide (v.s = s)) ++ R2)) := by
                    show _ = _
                    rw [HF.out, DV.out, List.filter_cons_of_neg (by simpa using hs)]
                  have x1 : (v.s == s) = false := by simpa using hs
                  clear hs HF DV
                  go_wp2_with fail
                  go_roundw
                  case rel => exact ⟨k + 1, _, m1, _, _, by omega, by go_num, rfl, HB, HC, F4⟩
                  case measure => simp [intOf]; omega
              · obtain rfl : k = p.m := by omega
                have F4 : Hid (FP = cl.map Ca.v ++ (ofN (l.drop (i + 1)) s nd ++ RS)) := by
                  show _ = _
                  rw [HF.out, List.drop_of_length_le (by rw [VP.out.len]; exact Nat.le_refl _), ER2.out]
                  rfl
                go_wp2_with fail
                go_roundw
                case rel => exact ⟨i + 1, _, m1, _, _, by omega, by go_num, rfl, HB, HC, F4⟩
                case measure => simp [intOf]; omega
          · have F3 : Hid (FP = cl.map Ca.v ++ (ofN (l.drop (i + 1)) s nd ++ RS)) := by
              show _ = _
              rw [HF.out, DI.out, ofN_cons, if_neg hnd]
              rfl
            have x1 : (p.nd == nd) = false := by simpa using hnd
            have d0 := (HB.out.cell (p := ⟨b, off + i * 2, none⟩) LB.out).trans D0.out
            clear hnd HF
            go_wp2_with fail
            go_loopw [5, 8] (fun t kv wr' => t = .slice a1 m1 c1 ∧ kv = .int .i64 0 ∧ Hid (wr' = wr)) (fun _ _ _ => 0)
            case atStart => exact ⟨rfl, rfl, rfl⟩
            case round =>
              obtain ⟨rfl, rfl, HW⟩ := hrel
              obtain rfl := HW.out
              clear HW
              go_wp2_with fail
              go_roundw
              case rel => exact ⟨i + 1, _, m1, _, _, by omega, by go_num, rfl, HB, HC, F3⟩
              case measure => simp [intOf]; omega
        · obtain rfl : i = m := by omega
          have F3 : Hid (FP = cl.map Ca.v ++ forK l s (([1, 2, 3, 4, 5] : List Int).drop (q + 1))) := by
            show _ = _
            rw [HF.out, List.drop_of_length_le (by rw [H.out.len]; exact Nat.le_refl _), ERS.out]
            rfl
          clear HF
          go_wp2_with fail
          go_roundw
          case rel => exact ⟨q + 1, _, m1, _, _, by omega, by have := END.out; go_num, rfl, HB, HC, F3⟩
          case measure => (have := END.out; simp [intOf]; omega)
    · obtain rfl : q = 5 := by omega
      have F3 : Hid (cl.map Ca.v = forP l s) := by
        show _ = _
        rw [← EFP.out, HF.out]
        simp [forK]
      have ML : Hid (m1 ≤ 80) := by
        show _ ≤ _
        have h1 := congrArg List.length F3.out
        rw [List.length_map, HC.out.len, ← EFP.out] at h1
        have := FL.out
        omega
      go_wp2_with fail
      go_ret
      exact ⟨a1, m1, c1, cl, rfl, HB.out, HC.out, F3.out, ML.out⟩
end Go.Proofs.Ytjhkenmlaammnaa
