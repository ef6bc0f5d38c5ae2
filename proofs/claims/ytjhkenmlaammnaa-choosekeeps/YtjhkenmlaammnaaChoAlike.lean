/- bytes.Equal, and alike and backed of package choose. No condition. -/
import Derived.Test.YtjhkenmlaammnaaChoEntry
import Derived.Laws.IdiomStrings
import Derived.Laws.BytesArg
import Derived.Lib.Strings
namespace Go.Proofs.Ytjhkenmlaammnaa
open Go.ChangeShapes Go.WideShapes Go.ChangeAt Go.RowKit Go.Shelf B8 Am Cz
set_option linter.unusedVariables false

theorem bounds8 {a : Int} (h : (Lit.int .u8 a).wf = true) : 0 ≤ a ∧ a ≤ 255 := by
  have := bounds_u8 h
  omega
theorem str_inj {xs ys : List Int} (h : wfs xs) (h' : wfs ys) (e : strOfNums xs = strOfNums ys) : xs = ys := by
  have e2 : (strOfNums xs).data.toList = (strOfNums ys).data.toList := by rw [e]
  rw [strOfNums_data, strOfNums_data] at e2
  have hl : xs.length = ys.length := by have := congrArg List.length e2; simpa using this
  apply List.ext_getElem hl
  intro j h1 h2
  have a1 := bounds8 (h j)
  have a2 := bounds8 (h' j)
  rw [List.getElem?_eq_getElem h1] at a1
  rw [List.getElem?_eq_getElem h2] at a2
  simp only [Option.getD_some] at a1 a2
  have e3 : (xs.map fun n => UInt8.ofNat n.toNat)[j]? = (ys.map fun n => UInt8.ofNat n.toNat)[j]? := by rw [e2]
  simp only [List.getElem?_map, List.getElem?_eq_getElem h1, List.getElem?_eq_getElem h2, Option.map_some, Option.some.injEq] at e3
  have e4 := congrArg UInt8.toNat e3
  simp at e4
  omega
theorem bytes_string {w : World} {a : Option Addr} {n cp : Nat} {xs : List Int} (h : Sq w a n cp xs) : (convert 37 9 (.slice a n cp)).run Try.prog w = .ok (.string (strOfNums xs)) w := by
  by_cases h0 : 0 < n
  · obtain ⟨b, off, rfl, hc⟩ := h.cells h0
    exact run_convert_bytes_arg w 37 5 Try.underlying37 Try.underlying5 b off n cp xs h.length (fun i hi => by rw [hc i hi]; rfl) 9 Try.underlying9
  · obtain rfl : n = 0 := by omega
    obtain rfl : xs = [] := List.eq_nil_of_length_eq_zero h.length
    cases a with
    | none => exact run_convert_bytes_nil w 37 5 Try.underlying37 Try.underlying5 0 cp 9 Try.underlying9
    | some ad =>
      obtain ⟨b, off, sp⟩ := ad
      rw [run_convert_bytes_string w 37 9 5 _ 0 cp Try.underlying37 Try.underlying5 Try.underlying9]
      have hl : (loadCells ⟨b, off, sp⟩ 0).run Try.prog w = .ok (([] : List Int).map (Value.int .u8)).toArray w := by
        have := run_loadCells_list (P := Try.prog) w ⟨b, off, sp⟩ [] (fun j v hj => by simp at hj)
        simpa using this
      rw [run_bytesToString w _ 0 cp [] hl]
      rfl
set_option maxRecDepth 100000 in
theorem equal_any {w : World} {a a' : Option Addr} {m m' cp cp' : Nat} {xs ys : List Int} (q : Sq w a m cp xs) (q' : Sq w a' m' cp' ys) :
    Calls Try.prog 74 #[.slice a m cp, .slice a' m' cp'] w fun e w' => e = .returned (.bool (decide (xs = ys))) ∧ w' = w := by
  have s1 := bytes_string q
  have s2 := bytes_string q'
  have wq := q.wf
  have wq' := q'.wf
  clear q q'
  by_cases e : xs = ys
  · subst e
    rw [decide_eq_true rfl]
    clear wq wq'
    generalize strOfNums xs = s at *
    go_enter Try.func74, Try.ntmps74
    go_wp2_with fail
    go_ret
    exact ⟨by simp, rfl⟩
  · rw [decide_eq_false e]
    have ne : strOfNums xs ≠ strOfNums ys := fun h => e (str_inj wq wq' h)
    have nl : ¬ (strOfNums xs).toList = (strOfNums ys).toList := fun h => ne (bytes_inj (by rw [← Lib.toList_data, ← Lib.toList_data]; exact h))
    clear wq wq' e ne
    generalize strOfNums xs = s at *
    generalize strOfNums ys = t at *
    go_enter Try.func74, Try.ntmps74
    go_wp2_with fail
    go_ret
    exact ⟨by simp [nl], rfl⟩
theorem equal_lit {w : World} {a a' : Option Addr} {m m' cp cp' : Nat} {xs ys : List Int} (q : Sq w a m cp xs) (q' : Sq w a' m' cp' ys) {b : Bool} (h : decide (xs = ys) = b) :
    Calls Try.prog 74 #[.slice a m cp, .slice a' m' cp'] w fun e w' => e = .returned (.bool b) ∧ w' = w := h ▸ equal_any q q'
def likeB (v u : Vt) : Bool := decide (u.r = v.r ∧ u.n = v.n ∧ u.b = v.b)
theorem ali_eq (l : List Vt) (v : Vt) : aliN l v = (l.filter (likeB v)).length := rfl
theorem ali_snoc (l : List Vt) (v u : Vt) : ((l ++ [u]).filter (likeB v)).length = (l.filter (likeB v)).length + (if likeB v u = true then 1 else 0) := by
  rw [List.filter_append, List.length_append]
  by_cases h : likeB v u = true
  · simp [h]
  · simp [h]
set_option maxRecDepth 100000 in
set_option maxHeartbeats 1000000 in
theorem alike_any {w : World} {a : Option Addr} {m c : Nat} {l : List Vv} (h : Vs w a m l) {p : Vv} (hq : Sq w p.a p.m p.cp p.b) :
    Calls Try.prog 64 #[.slice a m c, .agg #[.int .i64 p.s, .int .i64 p.r, .int .i64 p.n, .slice p.a p.m p.cp]] w fun e w' => e = .returned (.int .i64 (aliN (l.map Vv.vt) p.vt : Int)) ∧ Below w.heap.size w w' := by
  have H := hide h
  have HQ := hide hq
  have rm := h.room
  obtain ⟨u, eu⟩ : ∃ u, u = w.alloc (.cells #[.int .i64 p.s, .int .i64 p.r, .int .i64 p.n, .slice p.a p.m p.cp] 45) := ⟨_, rfl⟩
  have BU : Hid (Below w.heap.size w u) := by rw [eu]; exact below_alloc (Below.refl _ _) _
  have RU : Hid (u.heap[w.heap.size]? = some (.cells #[.int .i64 p.s, .int .i64 p.r, .int .i64 p.n, .slice p.a p.m p.cp] 45 (0, 0))) := by rw [eu]; exact heap_alloc_new w _
  have LU : Hid (w.heap.size < u.heap.size) := (Array.getElem?_eq_some_iff.1 RU.out).1
  have EU := hide eu
  clear h hq eu
  go_enter Try.func64, Try.ntmps64
  go_wp2_with fail
  rw [← EU.out]
  go_loopw [5, 7, 10] (fun t _ iv wr => ∃ (k : Nat), k ≤ m ∧ iv = .int .i64 k ∧ t = .int .i64 ((((l.take k).map Vv.vt).filter (likeB p.vt)).length : Int) ∧ Hid (Below u.heap.size u wr)) (fun _ _ iv _ => m - (intOf iv).toNat)
  case atStart => exact ⟨0, Nat.zero_le _, rfl, rfl, Below.refl _ _⟩
  case round =>
    obtain ⟨k, hk, rfl, rfl, HB⟩ := hrel
    by_cases hlt : k < m
    · have BW : Hid (Below w.heap.size w wr) := below_step BU.out HB.out
      obtain ⟨b, off, q, rfl, hb, hp, hpl, c0, c1, c2, c3⟩ := (H.out.below BW.out).at hlt
      have SN : Hid ((((l.take (k + 1)).map Vv.vt).filter (likeB p.vt)).length = (((l.take k).map Vv.vt).filter (likeB p.vt)).length + (if likeB p.vt q.vt = true then 1 else 0)) := by
        show _ = _
        rw [take_snoc hp, List.map_append]
        exact ali_snoc _ _ _
      have SB : Hid ((((l.take k).map Vv.vt).filter (likeB p.vt)).length ≤ k) := by
        show _ ≤ _
        have h1 := List.length_filter_le (likeB p.vt) ((l.take k).map Vv.vt)
        rw [List.length_map, List.length_take] at h1
        omega
      have sb := SB.out
      generalize (((l.take k).map Vv.vt).filter (likeB p.vt)).length = cnt at *
      have r0 : wr.cell? ⟨w.heap.size, 1, none⟩ = some (.int .i64 p.r) := by rw [cell_of_row _ _ _ _ _ _ ((HB.out.block _ LU.out).trans RU.out)]; rfl
      have r1 : wr.cell? ⟨w.heap.size, 2, none⟩ = some (.int .i64 p.n) := by rw [cell_of_row _ _ _ _ _ _ ((HB.out.block _ LU.out).trans RU.out)]; rfl
      have r2 : wr.cell? ⟨w.heap.size, 3, none⟩ = some (.slice p.a p.m p.cp) := by rw [cell_of_row _ _ _ _ _ _ ((HB.out.block _ LU.out).trans RU.out)]; rfl
      have rl : w.heap.size < wr.heap.size := Nat.lt_of_lt_of_le LU.out HB.out.size
      have BA := hide (below_alloc HB.out (.cells #[.int .i64 q.s, .int .i64 q.r, .int .i64 q.n, .slice q.a q.m q.cp] 45))
      have BA2 := hide (below_alloc BW.out (.cells #[.int .i64 q.s, .int .i64 q.r, .int .i64 q.n, .slice q.a q.m q.cp] 45))
      have CE := hide (fun (x : Bool) (e : decide (q.b = p.b) = x) => equal_lit ((H.out.each q hpl).1.below BA2.out) (HQ.out.below BA2.out) e)
      clear hp hpl hb
      obtain ⟨qs, qr, qn, qa, qm, qcp, qb⟩ := q
      simp only at *
      by_cases e1 : qr = p.r
      · by_cases e2 : qn = p.n
        · subst e1
          subst e2
          by_cases e3 : qb = p.b
          · have LK : Hid (likeB p.vt (Vv.vt ⟨qs, p.r, p.n, qa, qm, qcp, qb⟩) = true) := decide_eq_true ⟨rfl, rfl, e3⟩
            go_wp2_with fail
            refine (CE.out true (decide_eq_true e3)).mono ?_
            rintro e w1 ⟨rfl, rfl⟩
            go_wp2_with fail
            go_roundw
            case rel => exact ⟨k + 1, by omega, by go_num, by rw [SN.out, if_pos LK.out]; go_num, BA⟩
            case measure => simp [intOf]; omega
          · have LK : Hid (¬ likeB p.vt (Vv.vt ⟨qs, p.r, p.n, qa, qm, qcp, qb⟩) = true) := fun h => e3 (of_decide_eq_true h).2.2
            go_wp2_with fail
            refine (CE.out false (decide_eq_false e3)).mono ?_
            rintro e w1 ⟨rfl, rfl⟩
            go_wp2_with fail
            go_roundw
            case rel => exact ⟨k + 1, by omega, by go_num, by rw [SN.out, if_neg LK.out]; rfl, BA⟩
            case measure => simp [intOf]; omega
        · subst e1
          have x2 : (qn == p.n) = false := by simpa using e2
          have LK : Hid (¬ likeB p.vt (Vv.vt ⟨qs, p.r, qn, qa, qm, qcp, qb⟩) = true) := fun h => e2 (of_decide_eq_true h).2.1
          clear e2
          go_wp2_with fail
          go_roundw
          case rel => exact ⟨k + 1, by omega, by go_num, by rw [SN.out, if_neg LK.out]; rfl, BA⟩
          case measure => simp [intOf]; omega
      · have x1 : (qr == p.r) = false := by simpa using e1
        have LK : Hid (¬ likeB p.vt (Vv.vt ⟨qs, qr, qn, qa, qm, qcp, qb⟩) = true) := fun h => e1 (of_decide_eq_true h).1
        clear e1
        go_wp2_with fail
        go_roundw
        case rel => exact ⟨k + 1, by omega, by go_num, by rw [SN.out, if_neg LK.out]; rfl, BA⟩
        case measure => simp [intOf]; omega
    · obtain rfl : k = m := by omega
      have EN : Hid (aliN (l.map Vv.vt) p.vt = (((l.take k).map Vv.vt).filter (likeB p.vt)).length) := by
        show _ = _
        rw [List.take_of_length_le (by rw [H.out.len]; exact Nat.le_refl _)]
        rfl
      go_wp2_with fail
      go_ret
      exact ⟨by rw [EN.out]; rfl, below_step BU.out HB.out⟩
def backP (l : List Vv) (q : Int) : List Vv := l.filter (fun v => decide (q ≤ (aliN (l.map Vv.vt) v.vt : Int)))
theorem backP_vt (l : List Vv) (q : Int) : (backP l q).map Vv.vt = backV (l.map Vv.vt) q := by
  unfold backP backV
  rw [List.filter_map]
  rfl
set_option maxRecDepth 100000 in
set_option maxHeartbeats 1000000 in
theorem backed_any {w : World} {a : Option Addr} {m c : Nat} {l : List Vv} (h : Vs w a m l) (q : Int) :
    Calls Try.prog 37 #[.slice a m c, .int .i64 q] w fun e w' => ∃ a' m' c', e = .returned (.slice a' m' c') ∧ Below w.heap.size w w' ∧ Vs w' a' m' (backP l q) := by
  have H := hide h
  have rm := h.room
  have NB : Hid (∀ v : Vv, (aliN (l.map Vv.vt) v.vt : Int) ≤ (m : Int)) := fun v => by
    have h1 := List.length_filter_le (likeB v.vt) (l.map Vv.vt)
    rw [List.length_map, H.out.len] at h1
    rw [ali_eq]
    omega
  clear h
  go_enter Try.func37, Try.ntmps37
  go_wp2_with fail
  go_loopw [5, 7, 10] (fun t _ iv wr => ∃ (k : Nat) (a1 : Option Addr) (m1 c1 : Nat), k ≤ m ∧ iv = .int .i64 k ∧ t = .slice a1 m1 c1 ∧ m1 ≤ k ∧ Hid (Below w.heap.size w wr) ∧ Hid (Vl wr w.heap.size (fun k => k < w.heap.size) a1 m1 c1 ((l.take k).filter (fun v => decide (q ≤ (aliN (l.map Vv.vt) v.vt : Int)))))) (fun _ _ iv _ => m - (intOf iv).toNat)
  case atStart => exact ⟨0, none, 0, 0, Nat.zero_le _, rfl, rfl, Nat.le_refl _, Below.refl _ _, vl_nil _ _ _⟩
  case round =>
    obtain ⟨k, a1, m1, c1, hk, rfl, rfl, hm1, HB, HV⟩ := hrel
    by_cases hlt : k < m
    · obtain ⟨b, off, p, rfl, hb, hp, hpl, c0, c1', c2, c3⟩ := (H.out.below HB.out).at hlt
      have TS : Hid ((l.take (k + 1)).filter (fun v => decide (q ≤ (aliN (l.map Vv.vt) v.vt : Int))) = (l.take k).filter (fun v => decide (q ≤ (aliN (l.map Vv.vt) v.vt : Int))) ++ (if q ≤ (aliN (l.map Vv.vt) p.vt : Int) then [p] else [])) := by
        show _ = _
        rw [take_snoc hp, List.filter_append]
        by_cases hq : q ≤ (aliN (l.map Vv.vt) p.vt : Int)
        · simp [hq]
        · simp [hq]
      generalize (l.take k).filter (fun v => decide (q ≤ (aliN (l.map Vv.vt) v.vt : Int))) = l1 at *
      obtain ⟨u, eu⟩ : ∃ u, u = wr.alloc (.cells #[.int .i64 p.s, .int .i64 p.r, .int .i64 p.n, .slice p.a p.m p.cp] 45) := ⟨_, rfl⟩
      have BU : Hid (Below wr.heap.size wr u) := by rw [eu]; exact below_alloc (Below.refl _ _) _
      have BW : Hid (Below w.heap.size w u) := below_step HB.out BU.out
      have RU : Hid (u.heap[wr.heap.size]? = some (.cells #[.int .i64 p.s, .int .i64 p.r, .int .i64 p.n, .slice p.a p.m p.cp] 45 (0, 0))) := by rw [eu]; exact heap_alloc_new wr _
      have LU : Hid (wr.heap.size < u.heap.size) := (Array.getElem?_eq_some_iff.1 RU.out).1
      have EU := hide eu
      have SQ := hide (H.out.each p hpl)
      have CA := hide (alike_any (c := c) (H.out.below BW.out) (p := p) (SQ.out.1.below BW.out))
      have nb := NB.out p
      generalize (aliN (l.map Vv.vt) p.vt : Int) = cnt at *
      clear hp hpl hb eu
      go_upto_region 5 with fail
      rw [← EU.out]
      clear c0 c1' c2 c3 EU
      have y0 : u.cell? ⟨wr.heap.size, 0, none⟩ = some (.int .i64 p.s) := by rw [cell_of_row _ _ _ _ _ _ RU.out]; rfl
      have y1 : u.cell? ⟨wr.heap.size, 1, none⟩ = some (.int .i64 p.r) := by rw [cell_of_row _ _ _ _ _ _ RU.out]; rfl
      have y2 : u.cell? ⟨wr.heap.size, 2, none⟩ = some (.int .i64 p.n) := by rw [cell_of_row _ _ _ _ _ _ RU.out]; rfl
      have y3 : u.cell? ⟨wr.heap.size, 3, none⟩ = some (.slice p.a p.m p.cp) := by rw [cell_of_row _ _ _ _ _ _ RU.out]; rfl
      by_cases hq : q ≤ cnt
      · rw [if_pos hq] at TS
        go_wp2_with fail
        refine CA.out.mono ?_
        rintro e w1 ⟨rfl, hb1⟩
        have B1 := hide (below_step BU.out hb1)
        have R1 : Hid (w1.heap[wr.heap.size]? = some (.cells #[.int .i64 p.s, .int .i64 p.r, .int .i64 p.n, .slice p.a p.m p.cp] 45 (0, 0))) := (hb1.block _ LU.out).trans RU.out
        clear y0 y1 y2 y3 hb1
        have y0 : w1.cell? ⟨wr.heap.size, 0, none⟩ = some (.int .i64 p.s) := by rw [cell_of_row _ _ _ _ _ _ R1.out]; rfl
        have y1 : w1.cell? ⟨wr.heap.size, 1, none⟩ = some (.int .i64 p.r) := by rw [cell_of_row _ _ _ _ _ _ R1.out]; rfl
        have y2 : w1.cell? ⟨wr.heap.size, 2, none⟩ = some (.int .i64 p.n) := by rw [cell_of_row _ _ _ _ _ _ R1.out]; rfl
        have y3 : w1.cell? ⟨wr.heap.size, 3, none⟩ = some (.slice p.a p.m p.cp) := by rw [cell_of_row _ _ _ _ _ _ R1.out]; rfl
        have BW1 := hide (below_step HB.out B1.out)
        have PI : Hid (p.In w1 (fun k => k < w.heap.size)) := ⟨SQ.out.1.below BW1.out, fun h0 ad e => by
          obtain ⟨b, off, e2, hc⟩ := SQ.out.1.cells h0
          rw [e] at e2
          cases e2
          exact World.block_lt_of_cell? w _ (hc 0 h0)⟩
        have V1 := hide (HV.out.below B1.out)
        obtain ⟨g, cp, w2, hr2, ho2, hc2, hb2, _⟩ := vl_add V1.out (by omega) BW1.out.size PI.out 34
        have V2 : Hid (Vl w2 w.heap.size (fun k => k < w.heap.size) (some ⟨g, 0, none⟩) (m1 + 1) cp ((l.take (k + 1)).filter (fun v => decide (q ≤ (aliN (l.map Vv.vt) v.vt : Int))))) := by
          rw [TS.out]
          refine vl_added V1.out PI.out ho2 hc2 (fun x hx h0 ad e e2 => ?_)
          have hin : x.In w1 (fun k => k < w.heap.size) := by
            rcases hx with hx | rfl
            · exact V1.out.ins x hx
            · exact PI.out
          have h1 := hin.2 h0 ad e
          have h2 := (V1.out.row.lt _ e2).1
          simp only at h1
          omega
        have B2 := hide (BW1.out.trans hb2)
        clear ho2 hc2 hb2
        go_wp2_with (at_builtin; refine wp_append_run _ rfl _ _ 34 rfl _ _ hr2 ?_)
        go_roundw
        case rel => exact ⟨k + 1, _, m1 + 1, _, by omega, by go_num, rfl, by omega, B2, V2⟩
        case measure => simp [intOf]; omega
      · rw [if_neg hq, List.append_nil] at TS
        go_wp2_with fail
        refine CA.out.mono ?_
        rintro e w1 ⟨rfl, hb1⟩
        have B1 := hide (below_step BU.out hb1)
        have V1 : Hid (Vl w1 w.heap.size (fun k => k < w.heap.size) a1 m1 c1 ((l.take (k + 1)).filter (fun v => decide (q ≤ (aliN (l.map Vv.vt) v.vt : Int))))) := by rw [TS.out]; exact HV.out.below B1.out
        have BW1 := hide (below_step HB.out B1.out)
        clear hb1 y0 y1 y2 y3
        go_wp2_with fail
        go_roundw
        case rel => exact ⟨k + 1, _, _, _, by omega, by go_num, rfl, by omega, BW1, V1⟩
        case measure => simp [intOf]; omega
    · obtain rfl : k = m := by omega
      have VF : Hid (Vs wr a1 m1 (backP l q)) := by
        have h1 := HV.out
        rw [List.take_of_length_le (by rw [H.out.len]; exact Nat.le_refl _)] at h1
        exact h1.vs (fun p hp => (H.out.each p (List.mem_filter.1 hp).1).2) (by omega)
      go_wp2_with fail
      go_ret
      exact ⟨_, _, _, rfl, HB.out, VF.out⟩
end Go.Proofs.Ytjhkenmlaammnaa
