/- What May of package ballot, and mayVote and Right of package choose return. No condition. -/
import Derived.Test.YtjhkenmlaammnaaChoMem
import Derived.Test.YtjhkenmlaammnaaChoCount
import Derived.Deep.Cut
namespace Go.Proofs.Ytjhkenmlaammnaa
open Go.ChangeShapes Go.WideShapes Go.ChangeAt Go.RowKit B8 Am Cz
set_option linter.unusedVariables false

theorem retb {a b : Bool} (h : a = b) : Ending.returned (.bool b) = .returned (.bool a) := by rw [h]
theorem bmay_any {n : Int} (hn : 1 ≤ n ∧ n ≤ 5) (r nd : Int) (w : World) :
    Calls Try.prog 65 #[.agg #[.int .i64 r, .int .i64 nd], .int .i64 n] w fun e w' => e = .returned (.bool (mayN n r nd)) ∧ Below w.heap.size w w' := by
  have h5 := hide (fun w => among_lit (amongB_true hn) w)
  by_cases h1 : 1 ≤ nd ∧ nd ≤ n
  · have h6 := hide (fun w => among_lit (amongB_true h1) w)
    by_cases h2 : 1 ≤ r
    · rw [show mayN n r nd = true from decide_eq_true ⟨h1.1, h1.2, h2⟩]
      clear hn h1
      go_enter Try.func65, Try.ntmps65
      go_wp2_with fail
      refine (h5.out _).mono ?_
      rintro e w1 ⟨rfl, rfl⟩
      go_wp2_with fail
      refine (h6.out _).mono ?_
      rintro e w1 ⟨rfl, rfl⟩
      go_wp2_with fail
      go_ret
      exact ⟨rfl, below_alloc (Below.refl _ _) _⟩
    · rw [show mayN n r nd = false from decide_eq_false (fun x => h2 x.2.2)]
      clear hn h1
      go_enter Try.func65, Try.ntmps65
      go_wp2_with fail
      refine (h5.out _).mono ?_
      rintro e w1 ⟨rfl, rfl⟩
      go_wp2_with fail
      refine (h6.out _).mono ?_
      rintro e w1 ⟨rfl, rfl⟩
      go_wp2_with fail
      go_ret
      exact ⟨(retb (decide_eq_false (by omega))).symm, below_alloc (Below.refl _ _) _⟩
  · have h6 := hide (fun w => among_lit (amongB_false h1) w)
    rw [show mayN n r nd = false from decide_eq_false (fun x => h1 ⟨x.1, x.2.1⟩)]
    clear hn h1
    go_enter Try.func65, Try.ntmps65
    go_wp2_with fail
    refine (h5.out _).mono ?_
    rintro e w1 ⟨rfl, rfl⟩
    go_wp2_with fail
    refine (h6.out _).mono ?_
    rintro e w1 ⟨rfl, rfl⟩
    go_wp2_with fail
    go_ret
    exact ⟨rfl, below_alloc (Below.refl _ _) _⟩
theorem bmay_lit {n : Int} (hn : 1 ≤ n ∧ n ≤ 5) {r nd : Int} {b : Bool} (e : mayN n r nd = b) (w : World) :
    Calls Try.prog 65 #[.agg #[.int .i64 r, .int .i64 nd], .int .i64 n] w fun e w' => e = .returned (.bool b) ∧ Below w.heap.size w w' := e ▸ bmay_any hn r nd w
theorem drop_at {α : Type} {l : List α} {k : Nat} {p : α} (h : l[k]? = some p) : l.drop k = p :: l.drop (k + 1) := by
  obtain ⟨h1, rfl⟩ := List.getElem?_eq_some_iff.1 h
  exact List.drop_eq_getElem_cons h1
set_option maxRecDepth 100000 in
set_option maxHeartbeats 1000000 in
theorem mayVote_any {w : World} {a : Option Addr} {m c : Nat} {l : List Vv} (h : Vs w a m l) {n : Int} (hn : 1 ≤ n ∧ n ≤ 5) :
    Calls Try.prog 38 #[.int .i64 n, .slice a m c] w fun e w' => e = .returned (.bool (voteB n (l.map Vv.vt))) ∧ Below w.heap.size w w' := by
  have H := hide h
  have HN := hide hn
  have rm := h.room
  by_cases h16 : m ≤ 16
  · have VB : Hid (voteB n (l.map Vv.vt) = rise n 1 (l.map Vv.vt)) := by
      show _ = _
      simp [voteB, h.len, h16]
    rw [VB.out]
    clear h hn
    have i16 : ¬ (m : Int) > 16 := by omega
    go_enter Try.func38, Try.ntmps38
    go_wp2_with fail
    go_loopw [5, 7, 13] (fun t _ iv wr => ∃ (k : Nat) (nx : Int), k ≤ m ∧ iv = .int .i64 k ∧ t = .int .i64 nx ∧ 1 ≤ nx ∧ nx ≤ 1099511627777 ∧ Hid (Below w.heap.size w wr) ∧ Hid (rise n 1 (l.map Vv.vt) = rise n nx ((l.drop k).map Vv.vt))) (fun _ _ iv _ => m - (intOf iv).toNat)
    case atStart => exact ⟨0, 1, Nat.zero_le _, rfl, rfl, by omega, by omega, Below.refl _ _, rfl⟩
    case round =>
      obtain ⟨k, nx, hk, rfl, rfl, n1, n2, HB, HE⟩ := hrel
      by_cases hlt : k < m
      · obtain ⟨b, off, p, rfl, hb, hp, hpl, c0, c1, c2, c3⟩ := (H.out.below HB.out).at hlt
        have DR := hide (drop_at hp)
        have B1 : Hid (Below w.heap.size w (wr.alloc (.cells #[.int .i64 p.s, .int .i64 p.r, .int .i64 p.n, .slice p.a p.m p.cp] 45))) := below_alloc HB.out _
        have HM := hide (fun (x : Bool) (e : mayN n p.r p.n = x) w => bmay_lit HN.out e w)
        clear hp hpl hb
        by_cases s1 : p.s < nx
        · have E : Hid (rise n 1 (l.map Vv.vt) = false) := by
            show _ = _
            rw [HE.out, DR.out]
            simp only [List.map_cons, rise, Vv.vt]
            rw [decide_eq_false (by omega)]
            rfl
          go_wp2_with fail
          go_ret
          exact ⟨retb E.out, B1.out⟩
        · by_cases s2 : 1099511627776 < p.s
          · have E : Hid (rise n 1 (l.map Vv.vt) = false) := by
              show _ = _
              rw [HE.out, DR.out]
              simp only [List.map_cons, rise, Vv.vt]
              rw [decide_eq_false (by omega)]
              rfl
            go_wp2_with fail
            go_ret
            exact ⟨retb E.out, B1.out⟩
          · cases hm : mayN n p.r p.n with
            | false =>
              have E : Hid (rise n 1 (l.map Vv.vt) = false) := by
                show _ = _
                rw [HE.out, DR.out]
                simp only [List.map_cons, rise, Vv.vt, hm]
                simp
              go_wp2_with fail
              refine (HM.out _ hm _).mono ?_
              rintro e w1 ⟨rfl, hb1⟩
              have B2 := hide (below_step B1.out hb1)
              clear hb1
              go_wp2_with fail
              go_ret
              exact ⟨retb E.out, B2.out⟩
            | true =>
              have E : Hid (rise n 1 (l.map Vv.vt) = rise n (p.s + 1) ((l.drop (k + 1)).map Vv.vt)) := by
                show _ = _
                rw [HE.out, DR.out]
                simp only [List.map_cons, rise, Vv.vt, hm]
                rw [decide_eq_true (by omega)]
                simp
              obtain ⟨V, eV⟩ : ∃ V, V = wr.heap.size := ⟨_, rfl⟩
              have RV : Hid ((wr.alloc (.cells #[.int .i64 p.s, .int .i64 p.r, .int .i64 p.n, .slice p.a p.m p.cp] 45)).heap[wr.heap.size]? = some (.cells #[.int .i64 p.s, .int .i64 p.r, .int .i64 p.n, .slice p.a p.m p.cp] 45 (0, 0))) := heap_alloc_new wr _
              go_wp2_with fail
              refine (HM.out _ hm _).mono ?_
              rintro e w1 ⟨rfl, hb1⟩
              have B2 := hide (below_step B1.out hb1)
              have r0 : w1.cell? ⟨wr.heap.size, 0, none⟩ = some (.int .i64 p.s) := by rw [cell_of_row _ _ _ _ _ _ ((hb1.block _ (by simp)).trans RV.out)]; rfl
              clear hb1 c0 c1 c2 c3
              go_wp2_with fail
              go_roundw
              case rel => exact ⟨k + 1, p.s + 1, by omega, by go_num, by go_num, by omega, by omega, B2, E⟩
              case measure => simp [intOf]; omega
      · obtain rfl : k = m := by omega
        have E : Hid (rise n 1 (l.map Vv.vt) = true) := by
          show _ = _
          rw [HE.out, List.drop_of_length_le (by rw [H.out.len]; exact Nat.le_refl _)]
          rfl
        go_wp2_with fail
        go_ret
        exact ⟨retb E.out, HB.out⟩
  · have VB : Hid (voteB n (l.map Vv.vt) = false) := by
      show _ = _
      simp [voteB, h.len, h16]
    rw [VB.out]
    clear h hn
    have i16 : (m : Int) > 16 := by omega
    go_enter Try.func38, Try.ntmps38
    go_wp2_with fail
    go_ret
    exact ⟨rfl, Below.refl _ _⟩
theorem mayVote_lit {w : World} {a : Option Addr} {m c : Nat} {l : List Vv} (h : Vs w a m l) {n : Int} (hn : 1 ≤ n ∧ n ≤ 5) {b : Bool} (e : voteB n (l.map Vv.vt) = b) :
    Calls Try.prog 38 #[.int .i64 n, .slice a m c] w fun e w' => e = .returned (.bool b) ∧ Below w.heap.size w w' := e ▸ mayVote_any h hn
theorem right_count {n : Int} (hn : 1 ≤ n ∧ n ≤ 5) {l : List Pp} (hv : ∀ p ∈ l, voteB n (p.l.map Vv.vt) = true) : rightB n (l.map Pp.pr) = decide (cn n (l.map (·.nd)) = (l.length : Int)) := by
  have e1 : (l.map Pp.pr).map (·.nd) = l.map (·.nd) := by simp [Pp.pr]
  have h := cn_len hn.2 (l.map (·.nd))
  rw [List.length_map] at h
  unfold rightB
  refine decide_eq_decide.2 ?_
  rw [h, e1]
  constructor
  · rintro ⟨_, _, h3, h4⟩
    refine ⟨fun z hz => ?_, h4⟩
    obtain ⟨p, hp, rfl⟩ := List.mem_map.1 hz
    exact h3 p.pr (List.mem_map.2 ⟨p, hp, rfl⟩)
  · rintro ⟨h3, h4⟩
    refine ⟨hn, fun q hq => ?_, fun q hq => ?_, h4⟩
    · obtain ⟨p, hp, rfl⟩ := List.mem_map.1 hq
      exact hv p hp
    · obtain ⟨p, hp, rfl⟩ := List.mem_map.1 hq
      exact h3 _ (List.mem_map.2 ⟨p, hp, rfl⟩)
set_option maxRecDepth 100000 in
set_option maxHeartbeats 1000000 in
theorem right_in {w : World} {a : Option Addr} {m c : Nat} {l : List Pp} (h : Ps w a m l) {n : Int} (hn : 1 ≤ n ∧ n ≤ 5) :
    Calls Try.prog 13 #[.int .i64 n, .slice a m c] w fun e w' => e = .returned (.bool (rightB n (l.map Pp.pr))) ∧ Below w.heap.size w w' := by
  have H := hide h
  have HN := hide hn
  have rm := h.room
  obtain ⟨i0, hi, hz0, hz1, hz2⟩ := info_parts intinfo
  have HI := hide hi
  have HZ := hide hz0
  have HZ1 := hide hz1
  have HZ2 := hide hz2
  have n1 := hn.1
  have n2 := hn.2
  clear h hn hi hz0 hz1 hz2
  go_enter Try.func13, Try.ntmps13
  go_wp2_with fail
  go_loopw [5, 7, 16] (fun t _ iv wr => ∃ (k : Nat) (an : Option Addr) (cn : Nat), k ≤ m ∧ iv = .int .i64 k ∧ t = .slice an k cn ∧ Hid (Below w.heap.size w wr) ∧ Hid (wr.ownsRow w.heap.size 3 1 (.slice an k cn) k (I8.vals ((l.take k).map (·.nd)))) ∧ Hid (∀ p ∈ l.take k, voteB n (p.l.map Vv.vt) = true)) (fun _ _ iv _ => m - (intOf iv).toNat)
  case atStart => exact ⟨0, none, 0, Nat.zero_le _, rfl, rfl, Below.refl _ _, World.ownsRow_nil _ _ _ _, fun p hp => absurd hp (by simp)⟩
  case round =>
    obtain ⟨k, an, cn1, hk, rfl, rfl, HB, HR, HV⟩ := hrel
    by_cases hlt : k < m
    · obtain ⟨b, off, p, rfl, hb, hp, hpl, c0, c1⟩ := (H.out.below HB.out).at hlt
      have TS := hide (take_snoc hp)
      have PL := hide hpl
      obtain ⟨u, eu⟩ : ∃ u, u = wr.alloc (.cells #[.int .i64 p.nd, .slice p.a p.m p.c] 36) := ⟨_, rfl⟩
      have BU : Hid (Below wr.heap.size wr u) := by rw [eu]; exact below_alloc (Below.refl _ _) _
      have RU : Hid (u.heap[wr.heap.size]? = some (.cells #[.int .i64 p.nd, .slice p.a p.m p.c] 36 (0, 0))) := by rw [eu]; exact heap_alloc_new wr _
      have SU : Hid (wr.heap.size < u.heap.size) := (Array.getElem?_eq_some_iff.1 RU.out).1
      have EU := hide eu
      have B1 := hide (below_step HB.out BU.out)
      have VP := hide (((H.out.below HB.out).each p hpl).1.below BU.out)
      have WP := hide (((H.out.below HB.out).each p hpl).2)
      clear hp hpl hb eu
      go_upto_region 7 with fail
      rw [← EU.out]
      clear c0 c1
      have x1 : u.cell? ⟨wr.heap.size, 1, none⟩ = some (.slice p.a p.m p.c) := by rw [cell_of_row _ _ _ _ _ _ RU.out]; rfl
      cases hv : voteB n (p.l.map Vv.vt) with
      | false =>
        have E : Hid (rightB n (l.map Pp.pr) = false) := right_no.2 (fun x => by
          have := x.2.1 p.pr (List.mem_map.2 ⟨p, PL.out, rfl⟩)
          have e2 : voteB n p.pr.vs = false := hv
          rw [e2] at this
          cases this)
        have CM := hide (mayVote_lit (c := p.c) VP.out HN.out hv)
        clear hv
        go_wp2_with fail
        refine CM.out.mono ?_
        rintro e w1 ⟨rfl, hb1⟩
        have B2 := hide (below_step B1.out hb1)
        clear hb1
        go_wp2_with fail
        go_ret
        exact ⟨retb E.out, B2.out⟩
      | true =>
        have CM := hide (mayVote_lit (c := p.c) VP.out HN.out hv)
        have HV2 : Hid (∀ q ∈ l.take (k + 1), voteB n (q.l.map Vv.vt) = true) := fun q hq => by
          rw [TS.out] at hq
          rcases List.mem_append.1 hq with hq | hq
          · exact HV.out q hq
          · obtain rfl : q = p := by simpa using hq
            exact hv
        clear hv
        go_wp2_with fail
        refine CM.out.mono ?_
        rintro e w1 ⟨rfl, hb1⟩
        have B2 := hide (below_step B1.out hb1)
        have R1 : Hid (w1.ownsRow w.heap.size 3 1 (.slice an k cn1) k (I8.vals ((l.take k).map (·.nd)))) := row_same HR.out (fun j hj => (below_step BU.out hb1).block j (HR.out.lt j hj).2)
        have r0 : w1.cell? ⟨wr.heap.size, 0, none⟩ = some (.int .i64 p.nd) := by rw [cell_of_row _ _ _ _ _ _ ((hb1.block _ SU.out).trans RU.out)]; rfl
        clear hb1 x1
        obtain ⟨g, cp, w2, hr2, ho2, hc2, hb2, _⟩ := row_add (ty := 52) Try.underlying52 HI.out HZ.out HZ1.out HZ2.out rfl (by omega) R1.out #[.int .i64 p.nd] rfl (fun u hu => by simp at hu; subst hu; rfl) (by omega) (by omega) B2.out.size
        have R2 : Hid (w2.ownsRow w.heap.size 3 1 (.slice (some ⟨g, 0, none⟩) (k + 1) cp) (k + 1) (I8.vals ((l.take (k + 1)).map (·.nd)))) := by
          rw [TS.out]
          have e : I8.vals ((l.take k ++ [p]).map (·.nd)) = I8.vals ((l.take k).map (·.nd)) ++ [.int .i64 p.nd] := by simp [I8.vals]
          rw [e]
          exact ho2
        have B3 := hide (B2.out.trans hb2)
        clear ho2 hc2 hb2
        go_wp2_with (at_builtin; refine wp_append_run _ rfl _ _ 52 rfl _ _ hr2 ?_)
        go_roundw
        case rel => exact ⟨k + 1, _, _, by omega, by go_num, rfl, B3, R2, HV2⟩
        case measure => simp [intOf]; omega
    · obtain rfl : k = m := by omega
      have HL := hide H.out.len
      have TA : Hid (l.take k = l) := List.take_of_length_le (by rw [HL.out]; exact Nat.le_refl _)
      rw [TA.out] at HR HV
      have WF : Hid (I8.wfs (l.map (·.nd))) := fun j => by
        by_cases hj : j < l.length
        · simp only [List.getElem?_map, List.getElem?_eq_getElem hj, Option.map_some, Option.getD_some]
          exact (H.out.each _ (List.getElem_mem hj)).2
        · simp [List.getElem?_eq_none (Nat.le_of_not_lt hj)]
          decide
      obtain ⟨a2, c2, e2, hq⟩ := I8.sq_of_row (by simp [HL.out]) WF.out HR.out
      obtain ⟨rfl, rfl⟩ : an = a2 ∧ cn1 = c2 := by simpa using e2
      have CC := hide (count_any n hq (by omega))
      rw [show cntV n (l.map (·.nd)) = cn n (l.map (·.nd)) from if_pos HN.out] at CC
      have E := hide (right_count HN.out HV.out)
      have EL : Hid (rightB n (l.map Pp.pr) = decide (cn n (l.map (·.nd)) = (k : Int))) := by show _ = _; rw [E.out, HL.out]
      clear hq e2 E
      generalize cn n (l.map (·.nd)) = cnt at CC EL
      go_wp2_with fail
      refine CC.out.mono ?_
      rintro e w1 ⟨rfl, hb1⟩
      have B2 := hide (below_step HB.out hb1)
      clear hb1
      go_wp2_with fail
      go_ret
      exact ⟨retb EL.out, B2.out⟩
theorem right_any {w : World} {a : Option Addr} {m c : Nat} {l : List Pp} (h : Ps w a m l) (n : Int) :
    Calls Try.prog 13 #[.int .i64 n, .slice a m c] w fun e w' => e = .returned (.bool (rightB n (l.map Pp.pr))) ∧ Below w.heap.size w w' := by
  by_cases hn : 1 ≤ n ∧ n ≤ 5
  · exact right_in h hn
  · rw [right_no.2 (fun x => hn x.1)]
    clear h
    by_cases h1 : n < 1
    · clear hn
      go_enter Try.func13, Try.ntmps13
      go_wp2_with fail
      go_ret
      exact ⟨rfl, Below.refl _ _⟩
    · have h2 : n > 5 := by omega
      clear hn
      go_enter Try.func13, Try.ntmps13
      go_wp2_with fail
      go_ret
      exact ⟨rfl, Below.refl _ _⟩
theorem right_lit {w : World} {a : Option Addr} {m c : Nat} {l : List Pp} (h : Ps w a m l) {n : Int} {b : Bool} (e : rightB n (l.map Pp.pr) = b) :
    Calls Try.prog 13 #[.int .i64 n, .slice a m c] w fun e w' => e = .returned (.bool b) ∧ Below w.heap.size w w' := e ▸ right_any h n
end Go.Proofs.Ytjhkenmlaammnaa
