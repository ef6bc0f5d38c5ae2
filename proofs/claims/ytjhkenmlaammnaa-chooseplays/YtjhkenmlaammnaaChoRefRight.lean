/- The document's May, Right and greatest. No condition. -/
import Derived.Test.YtjhkenmlaammnaaChoRight
import Derived.Test.YtjhkenmlaammnaaChoEntry
import Derived.Deep.RegionHeld3
namespace Go.Proofs.Ytjhkenmlaammnaa
open Go.ChangeShapes Go.WideShapes Go.ChangeAt Go.RowKit B8 Am Cz
set_option linter.unusedVariables false

theorem rmay_any {n : Int} (hn : 1 ≤ n ∧ n ≤ 5) (r nd : Int) (w : World) :
    Calls Try.prog 41 #[.agg #[.int .i64 r, .int .i64 nd], .int .i64 n] w fun e w' => e = .returned (.bool (mayN n r nd)) ∧ Below w.heap.size w w' := by
  have h5 := hide (fun w => nodes_lit (amongB_true hn) w)
  clear hn
  by_cases h1 : 1 ≤ nd
  · by_cases h3 : nd ≤ n
    · by_cases h2 : 1 ≤ r
      · rw [show mayN n r nd = true from decide_eq_true ⟨h1, h3, h2⟩]
        go_enter Try.func41, Try.ntmps41
        go_wp2_with fail
        refine (h5.out _).mono ?_
        rintro e w1 ⟨rfl, rfl⟩
        go_wp2_with fail
        go_ret
        exact ⟨rfl, below_alloc (Below.refl _ _) _⟩
      · rw [show mayN n r nd = false from decide_eq_false (fun x => h2 x.2.2)]
        go_enter Try.func41, Try.ntmps41
        go_wp2_with fail
        refine (h5.out _).mono ?_
        rintro e w1 ⟨rfl, rfl⟩
        go_wp2_with fail
        go_ret
        exact ⟨by simp; omega, below_alloc (Below.refl _ _) _⟩
    · rw [show mayN n r nd = false from decide_eq_false (fun x => h3 x.2.1)]
      go_enter Try.func41, Try.ntmps41
      go_wp2_with fail
      refine (h5.out _).mono ?_
      rintro e w1 ⟨rfl, rfl⟩
      go_wp2_with fail
      go_ret
      exact ⟨rfl, below_alloc (Below.refl _ _) _⟩
  · rw [show mayN n r nd = false from decide_eq_false (fun x => h1 x.1)]
    go_enter Try.func41, Try.ntmps41
    go_wp2_with fail
    refine (h5.out _).mono ?_
    rintro e w1 ⟨rfl, rfl⟩
    go_wp2_with fail
    go_ret
    exact ⟨rfl, below_alloc (Below.refl _ _) _⟩
theorem rmay_lit {n : Int} (hn : 1 ≤ n ∧ n ≤ 5) {r nd : Int} {b : Bool} (e : mayN n r nd = b) (w : World) :
    Calls Try.prog 41 #[.agg #[.int .i64 r, .int .i64 nd], .int .i64 n] w fun e w' => e = .returned (.bool b) ∧ Below w.heap.size w w' := e ▸ rmay_any hn r nd w
/-- so far the promises are right -/
structure Good (n : Int) (l : List Pp) : Prop where
  votes : ∀ p ∈ l, voteB n (p.l.map Vv.vt) = true
  nodes : ∀ p ∈ l, 1 ≤ p.nd ∧ p.nd ≤ n
  nodup : (l.map (·.nd)).Nodup
theorem Good.right {n : Int} (hn : 1 ≤ n ∧ n ≤ 5) {l : List Pp} (h : Good n l) : rightB n (l.map Pp.pr) = true := by
  refine right_iff.2 ⟨hn, fun q hq => ?_, fun q hq => ?_, ?_⟩
  · obtain ⟨p, hp, rfl⟩ := List.mem_map.1 hq
    exact h.votes p hp
  · obtain ⟨p, hp, rfl⟩ := List.mem_map.1 hq
    exact h.nodes p hp
  · have : (l.map Pp.pr).map (·.nd) = l.map (·.nd) := by simp [Pp.pr]
    rw [this]
    exact h.nodup
theorem good_snoc {n : Int} {l : List Pp} {p : Pp} (h : Good n l) (h1 : voteB n (p.l.map Vv.vt) = true) (h2 : 1 ≤ p.nd ∧ p.nd ≤ n) (h3 : ∀ q ∈ l, q.nd ≠ p.nd) : Good n (l ++ [p]) := by
  refine ⟨fun q hq => ?_, fun q hq => ?_, ?_⟩
  · have : q ∈ l ∨ q = p := by simpa using hq
    rcases this with hq | rfl
    · exact h.votes q hq
    · exact h1
  · have : q ∈ l ∨ q = p := by simpa using hq
    rcases this with hq | rfl
    · exact h.nodes q hq
    · exact h2
  · rw [List.map_append]
    refine List.pairwise_append.2 ⟨h.nodup, by simp, fun x hx y hy => ?_⟩
    obtain ⟨q, hq, rfl⟩ := List.mem_map.1 hx
    have e : y = p.nd := by simpa using hy
    rw [e]
    exact h3 q hq
theorem bad_node {n : Int} {l : List Pp} {p : Pp} (hp : p ∈ l) (h : ¬ (1 ≤ p.nd ∧ p.nd ≤ n)) : rightB n (l.map Pp.pr) = false := right_no.2 (fun x => h (x.2.2.1 p.pr (List.mem_map.2 ⟨p, hp, rfl⟩)))
theorem bad_vote {n : Int} {l : List Pp} {p : Pp} (hp : p ∈ l) (h : voteB n (p.l.map Vv.vt) = false) : rightB n (l.map Pp.pr) = false := right_no.2 (fun x => by
  have h1 := x.2.1 p.pr (List.mem_map.2 ⟨p, hp, rfl⟩)
  have h2 : voteB n p.pr.vs = false := h
  rw [h2] at h1
  cases h1)
theorem bad_twice {n : Int} {l : List Pp} {i j : Nat} {p q : Pp} (hp : l[i]? = some p) (hq : l[j]? = some q) (hij : j < i) (h : q.nd = p.nd) : rightB n (l.map Pp.pr) = false := right_no.2 (fun x => by
  have h1 := x.2.2.2
  have e : (l.map Pp.pr).map (·.nd) = l.map (·.nd) := by simp [Pp.pr]
  rw [e] at h1
  have hi := (List.getElem?_eq_some_iff.1 hp)
  have hj := (List.getElem?_eq_some_iff.1 hq)
  have h2 := (List.pairwise_iff_getElem.1 h1) j i (by simpa using hj.1) (by simpa using hi.1) hij
  simp only [List.getElem_map] at h2
  rw [hi.2, hj.2] at h2
  exact h2 h)
set_option maxRecDepth 100000 in
set_option maxHeartbeats 4000000 in
theorem rright_in {w : World} {a : Option Addr} {m c : Nat} {l : List Pp} (h : Ps w a m l) {n : Int} (hn : 1 ≤ n ∧ n ≤ 5) :
    Calls Try.prog 14 #[.int .i64 n, .slice a m c] w fun e w' => e = .returned (.bool (rightB n (l.map Pp.pr))) ∧ Below w.heap.size w w' := by
  have H := hide h
  have HN := hide hn
  have rm := h.room
  have h5 := hide (fun w => nodes_lit (amongB_true hn) w)
  have n1 := hn.1
  have n2 := hn.2
  clear h hn
  go_enter Try.func14, Try.ntmps14
  go_wp2_with fail
  refine (h5.out _).mono ?_
  rintro e w1 ⟨rfl, rfl⟩
  go_wp2_with fail
  go_loopw [5, 6, 7, 8, 9] (fun iv _ _ _ _ wr => ∃ (i : Nat), i ≤ m ∧ iv = .int .i64 i ∧ Hid (Below w1.heap.size w1 wr) ∧ Hid (Good n (l.take i))) (fun iv _ _ _ _ _ => m - (intOf iv).toNat)
  case atStart => exact ⟨0, Nat.zero_le _, rfl, Below.refl _ _, ⟨fun p hp => absurd hp (by simp), fun p hp => absurd hp (by simp), by simp⟩⟩
  case round =>
    obtain ⟨i, hi, rfl, HB, HG⟩ := hrel
    by_cases hlt : i < m
    · obtain ⟨b, off, p, rfl, hb, hp, hpl, d0, d1⟩ := H.out.at hlt
      have D0 := hide d0
      have D1 := hide d1
      have LB := hide hb
      have HP := hide hp
      have PL := hide hpl
      have VP := hide (H.out.each p hpl).1
      have i1 : (i : Int) < (m : Int) := by omega
      have i2 : (0 : Int) ≤ (i : Int) := by omega
      have rv := VP.out.room
      have e0 := (HB.out.cell (p := ⟨b, off + i * 2, none⟩) hb).trans d0
      have e1 := (HB.out.cell (p := ⟨b, off + i * 2 + 1, none⟩) hb).trans d1
      clear hp hpl hb d0 d1
      by_cases b1 : p.nd < 1
      · have E := hide (bad_node (n := n) PL.out (by omega))
        go_wp2_with fail
        go_ret
        exact ⟨retb E.out, HB.out⟩
      · by_cases b2 : n < p.nd
        · have E := hide (bad_node (n := n) PL.out (by omega))
          go_wp2_with fail
          go_ret
          exact ⟨retb E.out, HB.out⟩
        · by_cases b3 : 16 < p.m
          · have E := hide (bad_vote (n := n) PL.out (by simp [voteB, VP.out.len]; omega))
            have b4 : (16 : Int) < (p.m : Int) := by omega
            go_wp2_with fail
            go_ret
            exact ⟨retb E.out, HB.out⟩
          · have b4 : ¬ (16 : Int) < (p.m : Int) := by omega
            go_wp2_with fail
            go_loopw [6] (fun kv wr => ∃ (k : Nat), k ≤ i ∧ kv = .int .i64 k ∧ Hid (Below w1.heap.size w1 wr) ∧ Hid (∀ q ∈ l.take k, q.nd ≠ p.nd)) (fun kv _ => i - (intOf kv).toNat)
            case atStart => exact ⟨0, Nat.zero_le _, rfl, HB, fun q hq => absurd hq (by simp)⟩
            case round =>
              clear HB e0 e1
              obtain ⟨k, hk, rfl, HB, HD⟩ := hrel
              have e0 := (HB.out.cell (p := ⟨b, off + i * 2, none⟩) LB.out).trans D0.out
              have e1 := (HB.out.cell (p := ⟨b, off + i * 2 + 1, none⟩) LB.out).trans D1.out
              by_cases hlk : k < i
              · obtain ⟨b', off', q, eb, hb', hq, hql, f0, f1⟩ := H.out.at (k := k) (by omega)
                obtain ⟨rfl, rfl⟩ : b = b' ∧ off = off' := by simpa using eb
                have g0 := (HB.out.cell (p := ⟨b, off + k * 2, none⟩) hb').trans f0
                have k1 : (k : Int) < (m : Int) := by omega
                have k2 : (0 : Int) ≤ (k : Int) := by omega
                have TS := hide (take_snoc hq)
                have HQ := hide hq
                have BD := hide HB.out.drew
                clear hb' hq hql f0 f1 eb
                by_cases hs : q.nd = p.nd
                · have E := hide (bad_twice (n := n) HP.out HQ.out hlk hs)
                  rw [hs] at g0
                  go_wp2_with fail
                  go_region_held3 (fun v => v.cell? ⟨b, off + i * 2, none⟩ = some (.int .i64 p.nd) ∧ v.cell? ⟨b, off + k * 2, none⟩ = some (.int .i64 p.nd)) (first | go_keep | exact ⟨e0, g0⟩) (fail)
                  go_wp2_with fail
                  go_ret
                  exact ⟨retb E.out, BD.out⟩
                · have x1 : (q.nd == p.nd) = false := by simpa using hs
                  have D2 : Hid (∀ z ∈ l.take (k + 1), z.nd ≠ p.nd) := fun z hz => by
                    rw [TS.out] at hz
                    have : z ∈ l.take k ∨ z = q := by simpa using hz
                    rcases this with hz | rfl
                    · exact HD.out z hz
                    · exact hs
                  clear hs
                  go_wp2_with fail
                  go_region_held3 (fun v => v.cell? ⟨b, off + i * 2, none⟩ = some (.int .i64 p.nd) ∧ v.cell? ⟨b, off + k * 2, none⟩ = some (.int .i64 q.nd)) (first | go_keep | exact ⟨e0, g0⟩) (fail)
                  go_wp2_with fail
                  go_roundw
                  case rel => exact ⟨k + 1, by omega, by go_num, BD, D2⟩
                  case measure => simp [intOf]; omega
              · obtain rfl : k = i := by omega
                go_wp2_with fail
                go_loopw [7, 8, 9] (fun lv jv _ wr => ∃ (j : Nat) (la : Int), j ≤ p.m ∧ jv = .int .i64 j ∧ lv = .int .i64 la ∧ 0 ≤ la ∧ la ≤ 1099511627776 ∧ Hid (Below w1.heap.size w1 wr) ∧ Hid (rise n 1 (p.l.map Vv.vt) = rise n (la + 1) ((p.l.drop j).map Vv.vt))) (fun _ jv _ _ => p.m - (intOf jv).toNat)
                case atStart => exact ⟨0, 0, Nat.zero_le _, rfl, rfl, by omega, by omega, HB, rfl⟩
                case round =>
                  clear HB e0 e1
                  obtain ⟨j, la, hj, rfl, rfl, l1, l2, HB, HE⟩ := hrel
                  have e0 := (HB.out.cell (p := ⟨b, off + k * 2, none⟩) LB.out).trans D0.out
                  have e1 := (HB.out.cell (p := ⟨b, off + k * 2 + 1, none⟩) LB.out).trans D1.out
                  by_cases hlj : j < p.m
                  · obtain ⟨b', off', v, e', hb', hv, hvl, c0, c1, c2, c3⟩ := (VP.out.below HB.out).at hlj
                    have j1 : (j : Int) < (p.m : Int) := by omega
                    have j2 : (0 : Int) ≤ (j : Int) := by omega
                    have DR := hide (drop_at hv)
                    have VB : Hid (voteB n (p.l.map Vv.vt) = rise n 1 (p.l.map Vv.vt)) := by
                      show _ = _
                      have : p.l.length ≤ 16 := by rw [VP.out.len]; omega
                      simp [voteB, this]
                    have B1 : Hid (Below w1.heap.size w1 (wr.alloc (.cells #[.int .i64 v.s, .int .i64 v.r, .int .i64 v.n, .slice v.a v.m v.cp] 45))) := below_alloc HB.out _
                    have HM := hide (fun (x : Bool) (e : mayN n v.r v.n = x) w => rmay_lit HN.out e w)
                    have STEP : Hid (rise n 1 (p.l.map Vv.vt) = (decide (la + 1 ≤ v.s ∧ v.s ≤ 1099511627776) && mayN n v.r v.n && rise n (v.s + 1) ((p.l.drop (j + 1)).map Vv.vt))) := by
                      show _ = _
                      rw [HE.out, DR.out]
                      rfl
                    rw [e'] at e1
                    clear hv hvl hb' e'
                    by_cases s1 : v.s ≤ la
                    · have E := hide (bad_vote (n := n) PL.out (by rw [VB.out, STEP.out, decide_eq_false (by omega)]; rfl))
                      go_wp2_with fail
                      go_ret
                      exact ⟨retb E.out, B1.out⟩
                    · by_cases s2 : 1099511627776 < v.s
                      · have E := hide (bad_vote (n := n) PL.out (by rw [VB.out, STEP.out, decide_eq_false (by omega)]; rfl))
                        go_wp2_with fail
                        go_ret
                        exact ⟨retb E.out, B1.out⟩
                      · cases hm : mayN n v.r v.n with
                        | false =>
                          have E := hide (bad_vote (n := n) PL.out (by rw [VB.out, STEP.out, hm]; simp))
                          go_wp2_with fail
                          refine (HM.out _ hm _).mono ?_
                          rintro e w2 ⟨rfl, hb1⟩
                          have B2 := hide (below_step B1.out hb1)
                          clear hb1
                          go_wp2_with fail
                          go_ret
                          exact ⟨retb E.out, B2.out⟩
                        | true =>
                          have E : Hid (rise n 1 (p.l.map Vv.vt) = rise n (v.s + 1) ((p.l.drop (j + 1)).map Vv.vt)) := by
                            show _ = _
                            rw [STEP.out, hm, decide_eq_true (by omega)]
                            simp
                          have RV : Hid ((wr.alloc (.cells #[.int .i64 v.s, .int .i64 v.r, .int .i64 v.n, .slice v.a v.m v.cp] 45)).heap[wr.heap.size]? = some (.cells #[.int .i64 v.s, .int .i64 v.r, .int .i64 v.n, .slice v.a v.m v.cp] 45 (0, 0))) := heap_alloc_new wr _
                          go_wp2_with fail
                          refine (HM.out _ hm _).mono ?_
                          rintro e w2 ⟨rfl, hb1⟩
                          have B2 := hide (below_step B1.out hb1)
                          have r0 : w2.cell? ⟨wr.heap.size, 0, none⟩ = some (.int .i64 v.s) := by rw [cell_of_row _ _ _ _ _ _ ((hb1.block _ (by simp)).trans RV.out)]; rfl
                          clear hb1 c0 c1 c2 c3
                          go_wp2_with fail
                          go_roundw
                          case rel => exact ⟨j + 1, v.s, by omega, by go_num, rfl, by omega, by omega, B2, E⟩
                          case measure => simp [intOf]; omega
                  · obtain rfl : j = p.m := by omega
                    have G2 : Hid (Good n (l.take (k + 1))) := by
                      rw [take_snoc HP.out]
                      refine good_snoc HG.out ?_ ⟨by omega, by omega⟩ HD.out
                      have : p.l.length ≤ 16 := by rw [VP.out.len]; omega
                      have e2 : voteB n (p.l.map Vv.vt) = rise n 1 (p.l.map Vv.vt) := by simp [voteB, this]
                      rw [e2, HE.out, List.drop_of_length_le (by rw [VP.out.len]; exact Nat.le_refl _)]
                      rfl
                    go_wp2_with fail
                    go_roundw
                    case rel => exact ⟨k + 1, by omega, by go_num, HB, G2⟩
                    case measure => simp [intOf]; omega
    · obtain rfl : i = m := by omega
      have E : Hid (rightB n (l.map Pp.pr) = true) := by
        have h1 := HG.out
        rw [List.take_of_length_le (by rw [H.out.len]; exact Nat.le_refl _)] at h1
        exact h1.right HN.out
      go_wp2_with fail
      go_ret
      exact ⟨retb E.out, HB.out⟩
theorem rright_any {w : World} {a : Option Addr} {m c : Nat} {l : List Pp} (h : Ps w a m l) (n : Int) :
    Calls Try.prog 14 #[.int .i64 n, .slice a m c] w fun e w' => e = .returned (.bool (rightB n (l.map Pp.pr))) ∧ Below w.heap.size w w' := by
  by_cases hn : 1 ≤ n ∧ n ≤ 5
  · exact rright_in h hn
  · rw [right_no.2 (fun x => hn x.1)]
    have h5 := hide (fun w => nodes_lit (amongB_false hn) w)
    clear h hn
    go_enter Try.func14, Try.ntmps14
    go_wp2_with fail
    refine (h5.out _).mono ?_
    rintro e w1 ⟨rfl, rfl⟩
    go_wp2_with fail
    go_ret
    exact ⟨rfl, Below.refl _ _⟩
theorem rright_lit {w : World} {a : Option Addr} {m c : Nat} {l : List Pp} (h : Ps w a m l) {n : Int} {b : Bool} (e : rightB n (l.map Pp.pr) = b) :
    Calls Try.prog 14 #[.int .i64 n, .slice a m c] w fun e w' => e = .returned (.bool b) ∧ Below w.heap.size w w' := e ▸ rright_any h n
end Go.Proofs.Ytjhkenmlaammnaa
