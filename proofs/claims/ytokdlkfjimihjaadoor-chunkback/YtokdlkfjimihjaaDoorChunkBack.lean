/- ChunkBack: the pieces of some bytes, in any order, some of them twice, are these bytes; and not ahead of the last one. Condition: the table of the half bytes is as the program's text lays it (the card). -/
import Derived.Test.YtokdlkfjimihjaaDoorChuRun
import Derived.Test.YtokdlkfjimihjaaDoorChuBackMath
import Derived.Test.YtokdlkfjimihjaaDoorPlI
import Derived.Test.YtokdlkfjimihjaaDoorCards
import Derived.Test.YtokdlkfjimihjaaDoorTie
import Derived.Deep.DeepHandedRow
import Derived.Lib.LaidTab
namespace Go.Proofs.YtokdlkfjimihjaaDoor
namespace ChunkBack
open Go.ChangeShapes Go.WideShapes Go.ChangeAt Go.RowKit B8 Ck
set_option linter.unusedVariables false

set_option maxRecDepth 100000 in
theorem long {W : World} {a a2 : Option Addr} {len cap m2 c2 : Nat} (hl : 8192 < len) (ht : Tab W) :
    Calls Tryd.prog 5 #[.slice a len cap, .slice a2 m2 c2] W fun e w' => e = .returned (.bool true) ∧ Below W.heap.size W w' := by
  have C := hide (cut_long (w := W) (a := a) (cap := cap) hl)
  have HT := hide ht
  have j : (8192 : Int) < (len : Int) := by omega
  clear ht
  go_enter Tryd.func5, Tryd.ntmps5
  go_wp2_with fail
  refine C.out.mono ?_
  rintro e w1 ⟨rfl, rfl⟩
  go_wp2_with fail
  refine (awake_any HT.out).mono ?_
  rintro e w2 ⟨rfl, hb2⟩
  have B2 := hide hb2
  clear hb2
  go_wp2_with fail
  go_ret
  exact ⟨rfl, B2.out⟩
/-- the number that an order's number stands for -/
def idx (x : Int) (n : Nat) : Nat := (x % 18446744073709551616 % (n : Int)).toNat
theorem idx_lt (x : Int) {n : Nat} (h : 0 < n) : idx x n < n := by
  unfold idx
  have h1 := Int.emod_nonneg (x % 18446744073709551616) (show (n : Int) ≠ 0 by omega)
  have h2 := Int.emod_lt_of_pos (x % 18446744073709551616) (show 0 < (n : Int) by omega)
  omega
theorem idx_wrap (x : Int) {n : Nat} (h : 0 < n) (hn : n ≤ 16) : wrap64 ((IntKind.u64.wrap x).tmod (n : Int)) = ((idx x n : Nat) : Int) := by
  have h0 := Int.emod_nonneg (x % 18446744073709551616) (show (n : Int) ≠ 0 by omega)
  have h2 := Int.emod_lt_of_pos (x % 18446744073709551616) (show 0 < (n : Int) by omega)
  rw [wrapU, Int.tmod_eq_emod_of_nonneg (by omega)]
  unfold idx
  rw [Int.toNat_of_nonneg h0]
  unfold wrap64
  omega
theorem pc_at {l : List Pv} {bs : List Int} (he : l.map Pv.pc = cutL bs) {k : Nat} {p : Pv} (hp : l[k]? = some p) : p.pc = cutP bs k := by
  have h1 : (l.map Pv.pc)[k]? = some p.pc := by rw [List.getElem?_map, hp]; rfl
  rw [he] at h1
  unfold cutL at h1
  rw [List.getElem?_map] at h1
  obtain ⟨j, hj, e⟩ := Option.map_eq_some_iff.1 h1
  have := (List.getElem?_eq_some_iff.1 hj)
  obtain ⟨hlt, e2⟩ := this
  simp at e2
  subst e2
  exact e.symm
set_option maxRecDepth 100000 in
set_option maxHeartbeats 4000000 in
theorem short {W : World} {a a2 : Option Addr} {len cap m2 c2 : Nat} {bs zs : List Int} (h : Sq W a len cap bs) (hl : len ≤ 8192) (h2 : I8.Sq W a2 m2 c2 zs) (hr : m2 ≤ 17592186043904) (ht : Tab W) :
    Calls Tryd.prog 5 #[.slice a len cap, .slice a2 m2 c2] W fun e w' => e = .returned (.bool true) ∧ Below W.heap.size W w' := by
  have H := hide h
  have H2 := hide h2
  have HT := hide ht
  have C := hide (cut_any h ht hl)
  have HL : Hid (bs.length ≤ 8192) := by show _ ≤ _; rw [h.length]; exact hl
  obtain ⟨n, en⟩ : ∃ n, n = cutN bs := ⟨_, rfl⟩
  have n1 : 1 ≤ n := by rw [en]; unfold cutN; omega
  have n2 : n ≤ 16 := by have := HL.out; rw [en]; unfold cutN; omega
  rw [← en] at C
  have EN := hide en
  clear h h2 ht en
  go_enter Tryd.func5, Tryd.ntmps5
  go_wp2_with fail
  refine C.out.mono ?_
  rintro e w1 ⟨al, cl, l, rfl, hb1, hl1, he1⟩
  have B1 := hide hb1
  have L1 : Hid (Ls w1 (fun _ => True) al n l) := hl1.ls (by omega) (fun _ _ => trivial)
  have HE := hide he1
  clear hb1 hl1 he1 C
  go_wp2_with fail
  refine (awake_any (HT.out.below B1.out)).mono ?_
  rintro e V ⟨rfl, hb2⟩
  have BV : Hid (Below W.heap.size W V) := below_step B1.out hb2
  have LV := hide (L1.out.below hb2)
  clear hb2 L1 B1
  go_wp2_with fail
  refine (bxn_new V (Below.refl V.heap.size V)).mono ?_
  rintro e w3 ⟨rfl, hb3, hn3⟩
  have N3 := hide hn3
  obtain ⟨B, eB⟩ : ∃ B, B = V.heap.size := ⟨_, rfl⟩
  rw [← eB] at N3
  have j1 : ((n : Int) == 0) = false := by simp; omega
  clear hb3 hn3
  rw [← eB]
  clear eB
  go_wp2_with fail
  go_loopw [8] (fun x wr => ∃ (k : Nat) (mo : Option Nat) (s : Bx), k ≤ m2 ∧ x = .int .i64 k ∧ Hid (BxN V wr B mo s) ∧ Hid (∃ D, Jn bs D s) ∧ Hid (0 < k → s.ps ≠ [])) (fun x _ => m2 - (intOf x).toNat)
  case atStart => exact ⟨0, none, newS, Nat.zero_le _, rfl, N3, ⟨_, jn_new bs⟩, fun h => absurd h (by omega)⟩
  case round =>
    obtain ⟨k, mo, s, hk, rfl, HN, HJ, HZ⟩ := hrel
    by_cases hlt : k < m2
    · have i1 : (k : Int) < (m2 : Int) := by omega
      have i2 : (0 : Int) ≤ (k : Int) := by omega
      obtain ⟨b2, o2, rfl, hc2⟩ := (H2.out.below (below_step BV.out HN.out.below)).cells (by omega)
      have d0 := hc2 k hlt
      obtain ⟨x, ex⟩ : ∃ x : Int, x = zs[k]?.getD 0 := ⟨_, rfl⟩
      rw [← ex] at d0
      obtain ⟨i, ei⟩ : ∃ i, i = idx x n := ⟨_, rfl⟩
      have iw := idx_wrap x (show 0 < n by omega) n2
      have ilt : i < n := by rw [ei]; exact idx_lt x (by omega)
      rw [← ei] at iw
      have i3 : (i : Int) < (n : Int) := by omega
      have i4 : (0 : Int) ≤ (i : Int) := by omega
      obtain ⟨b, off, p, rfl, _, hp, hpl, c0, c1, c2, c3⟩ := (LV.out.below HN.out.below).at ilt
      have PC : Hid (p.pc = cutP bs i) := pc_at HE.out hp
      have CP := hide (HN.out.put (any_ok ((LV.out.below HN.out.below).each p hpl)))
      obtain ⟨D, hj⟩ := HJ.out
      have ic : i < cutN bs := by rw [← EN.out]; exact ilt
      rw [PC.out, jn_putE hj HL.out ic] at CP
      have J3 : Hid (∃ D, Jn bs D (putS s (cutP bs i))) := ⟨_, (jn_put hj HL.out ic).1⟩
      have Z3 : Hid (0 < k + 1 → (putS s (cutP bs i)).ps ≠ []) := fun _ => (jn_put hj HL.out ic).2
      clear hc2 ex ei hp hpl hj ic
      go_wp2_with fail
      refine CP.out.mono ?_
      rintro e w4 ⟨rfl, ⟨mo4, hn4⟩, _⟩
      have N4 := hide hn4
      clear hn4 c0 c1 c2 c3 d0 iw
      go_wp2_with fail
      go_roundw
      case rel => exact ⟨k + 1, mo4, _, by omega, by go_num, N4, J3, Z3⟩
      case measure => simp [intOf]; omega
    · have hkm : k = m2 := by omega
      clear hk hlt
      subst hkm
      clear N3
      go_wp2_with fail
      go_loopw [9, 10, 11, 12] (fun x _ _ _ wr => ∃ (j : Nat) (mo : Option Nat) (s : Bx), j ≤ n ∧ x = .int .i64 j ∧ Hid (BxN V wr B mo s) ∧ Hid (∃ D, Jn bs D s ∧ ∀ i, i < j → D i) ∧ Hid (0 < j ∨ 0 < k → s.ps ≠ [])) (fun x _ _ _ _ => n - (intOf x).toNat)
      case atStart => exact ⟨0, mo, s, Nat.zero_le _, rfl, HN, by obtain ⟨D, hD⟩ := HJ.out; exact ⟨D, hD, fun i hi => absurd hi (by omega)⟩, fun hx => HZ.out (by omega)⟩
      case round =>
        obtain ⟨j, mo1, s1, hj1, rfl, HN1, HJ1, HZ1⟩ := hrel
        obtain ⟨D, hD, hall⟩ := HJ1.out
        have JD := hide (jn_done hD)
        have HM : Hid (missL s1 = [] ↔ ∀ j, j < cutN bs → D j) := jn_miss hD
        have CM := hide (missing_any HN1.out.bm)
        obtain ⟨nL, eL⟩ : ∃ nL, nL = (missL s1).length := ⟨_, rfl⟩
        rw [← eL] at CM
        have EL := hide eL
        have CD : Hid (∀ y, BxN V y B mo1 s1 → Calls Tryd.prog 20 #[.pointer (some ⟨B, 0, none⟩)] y fun e w' => ∃ a c, e = .returned (.tuple #[.slice a (doneL s1).length c, .bool (doneB s1)]) ∧ Below y.heap.size y w' ∧ w'.ownsRow y.heap.size 5 1 (.slice a (doneL s1).length c) (doneL s1).length (B8.vals (doneL s1))) := fun y hy => done_any hy.bm (HT.out.below (below_step BV.out hy.below))
        have HD := hide hD
        have HA := hide hall
        clear eL hD hall
        by_cases hlt : j < n
        · have i1 : (j : Int) < (n : Int) := by omega
          have i2 : (0 : Int) ≤ (j : Int) := by omega
          have ic : Hid (j < cutN bs) := by show _ < _; rw [← EN.out]; exact hlt
          have J3 : Hid (∃ D, Jn bs D (putS s1 (cutP bs j)) ∧ ∀ i, i < j + 1 → D i) := ⟨_, (jn_put HD.out HL.out ic.out).1, fun i hi => by
            by_cases e : i = j
            · exact .inr e
            · exact .inl (HA.out i (by omega))⟩
          have Z3 : Hid (0 < j + 1 ∨ 0 < k → (putS s1 (cutP bs j)).ps ≠ []) := fun _ => (jn_put HD.out HL.out ic.out).2
          by_cases hm : missL s1 = []
          · have HM0 := hide hm
            rw [(JD.out.2 hm)] at CD
            rw [JD.out.1, decide_eq_true hm] at CD
            obtain rfl : nL = 0 := by rw [EL.out, hm]; rfl
            obtain ⟨lb, elb⟩ : ∃ lb, lb = bs.length := ⟨_, rfl⟩
            rw [← elb] at CD
            have ELB := hide elb
            clear hm elb
            go_wp2_with fail
            refine CM.out.mono ?_
            rintro e w4 ⟨a4, c4, rfl, hb4, _⟩
            have N4 := hide (HN1.out.next hb4)
            clear hb4 CM
            go_wp2_with fail
            refine (CD.out _ N4.out).mono ?_
            rintro e w5 ⟨a5, c5, rfl, hb5, hr5⟩
            have N4b := hide (N4.out.next hb5)
            have CB : Hid (Calls Tryd.prog 25 #[.slice a5 lb c5, .slice a len cap] w5 fun e w' => e = .returned (.bool true) ∧ Below w5.heap.size w5 w') := by
              obtain ⟨x1, y1, e1, q1⟩ := sq_of_row ELB.out.symm H.out.wf hr5
              obtain ⟨rfl, rfl⟩ : a5 = x1 ∧ c5 = y1 := by simpa using e1
              exact bytes_lit q1 (H.out.below (below_step BV.out N4b.out.below)) (by have := HL.out; have := ELB.out; omega) (by simp)
            clear hb5 hr5
            go_wp2_with fail
            refine CB.out.mono ?_
            rintro e w5b ⟨rfl, hb5⟩
            have N5 := hide (N4b.out.next hb5)
            clear hb5 CB CD
            obtain ⟨b, off, p, rfl, _, hp, hpl, c0, c1, c2, c3⟩ := (LV.out.below N5.out.below).at hlt
            have PC : Hid (p.pc = cutP bs j) := pc_at HE.out hp
            have CP := hide (N5.out.put (any_ok ((LV.out.below N5.out.below).each p hpl)))
            have PE : Hid (putE s1 p.pc = 0) := by show _ = _; rw [PC.out]; exact jn_putE HD.out HL.out ic.out
            rw [PE.out] at CP
            clear hp hpl
            go_wp2_with fail
            refine CP.out.mono ?_
            rintro e w6 ⟨rfl, ⟨mo6, hn6⟩, _⟩
            have N6 := hide hn6
            clear hn6 c0 c1 c2 c3 CP
            by_cases hz : 0 < j
            · have z1 : (0 : Int) < (j : Int) := by omega
              go_wp2_with fail
              refine (missing_any N6.out.bm).mono ?_
              rintro e w8 ⟨a8, c8, rfl, hb8, _⟩
              rw [PC.out]
              have N8 := hide (N6.out.next hb8)
              rw [PC.out] at N8
              obtain ⟨L2, eL2⟩ : ∃ L2, L2 = (missL (putS s1 (cutP bs j))).length := ⟨_, rfl⟩
              have LE : ¬ (0 : Int) < (L2 : Int) := by
                have h1 := jn_less HD.out HL.out ic.out (HZ1.out (.inl hz))
                rw [← eL2] at h1
                rw [HM0.out] at h1; simp at h1; omega
              rw [← eL2]
              clear eL2 hb8
              go_wp2_with fail
              go_roundw
              case rel => exact ⟨j + 1, mo6, _, by omega, by go_num, N8, J3, Z3⟩
              case measure => simp [intOf]; omega
            · have z1 : ¬ (0 : Int) < (j : Int) := by omega
              by_cases hy : 0 < k
              · have z2 : (0 : Int) < (k : Int) := by omega
                go_wp2_with fail
                refine (missing_any N6.out.bm).mono ?_
                rintro e w8 ⟨a8, c8, rfl, hb8, _⟩
                rw [PC.out]
                have N8 := hide (N6.out.next hb8)
                rw [PC.out] at N8
                obtain ⟨L2, eL2⟩ : ∃ L2, L2 = (missL (putS s1 (cutP bs j))).length := ⟨_, rfl⟩
                have LE : ¬ (0 : Int) < (L2 : Int) := by
                  have h1 := jn_less HD.out HL.out ic.out (HZ1.out (.inr hy))
                  rw [← eL2] at h1
                  rw [HM0.out] at h1; simp at h1; omega
                rw [← eL2]
                clear eL2 hb8
                go_wp2_with fail
                go_roundw
                case rel => exact ⟨j + 1, mo6, _, by omega, by go_num, N8, J3, Z3⟩
                case measure => simp [intOf]; omega
              · have z2 : ¬ (0 : Int) < (k : Int) := by omega
                rw [PC.out] at N6
                go_wp2_with fail
                go_roundw
                case rel => exact ⟨j + 1, mo6, _, by omega, by go_num, N6, J3, Z3⟩
                case measure => simp [intOf]; omega
          · have nz : 0 < nL := by rw [EL.out]; exact List.length_pos_iff.2 hm
            have b0 : doneB s1 = false := by rw [JD.out.1, decide_eq_false hm]
            rw [b0, done_no b0] at CD
            simp only [List.length_nil] at CD
            have zL : ((nL : Int) == 0) = false := by simp; omega
            clear hm b0
            go_wp2_with fail
            refine CM.out.mono ?_
            rintro e w4 ⟨a4, c4, rfl, hb4, _⟩
            have N4 := hide (HN1.out.next hb4)
            clear hb4 CM
            go_wp2_with fail
            refine (CD.out _ N4.out).mono ?_
            rintro e w5 ⟨a5, c5, rfl, hb5, _⟩
            have N5 := hide (N4.out.next hb5)
            clear hb5 CD
            obtain ⟨b, off, p, rfl, _, hp, hpl, c0, c1, c2, c3⟩ := (LV.out.below N5.out.below).at hlt
            have PC : Hid (p.pc = cutP bs j) := pc_at HE.out hp
            have CP := hide (N5.out.put (any_ok ((LV.out.below N5.out.below).each p hpl)))
            have PE : Hid (putE s1 p.pc = 0) := by show _ = _; rw [PC.out]; exact jn_putE HD.out HL.out ic.out
            rw [PE.out] at CP
            clear hp hpl
            go_wp2_with fail
            refine CP.out.mono ?_
            rintro e w6 ⟨rfl, ⟨mo6, hn6⟩, _⟩
            have N6 := hide hn6
            clear hn6 c0 c1 c2 c3 CP
            by_cases hz : 0 < j
            · have z1 : (0 : Int) < (j : Int) := by omega
              go_wp2_with fail
              refine (missing_any N6.out.bm).mono ?_
              rintro e w8 ⟨a8, c8, rfl, hb8, _⟩
              rw [PC.out]
              have N8 := hide (N6.out.next hb8)
              rw [PC.out] at N8
              obtain ⟨L2, eL2⟩ : ∃ L2, L2 = (missL (putS s1 (cutP bs j))).length := ⟨_, rfl⟩
              have LE : ¬ (nL : Int) < (L2 : Int) := by
                have h1 := jn_less HD.out HL.out ic.out (HZ1.out (.inl hz))
                rw [← eL2] at h1
                rw [← EL.out] at h1; omega
              rw [← eL2]
              clear eL2 hb8
              go_wp2_with fail
              go_roundw
              case rel => exact ⟨j + 1, mo6, _, by omega, by go_num, N8, J3, Z3⟩
              case measure => simp [intOf]; omega
            · have z1 : ¬ (0 : Int) < (j : Int) := by omega
              by_cases hy : 0 < k
              · have z2 : (0 : Int) < (k : Int) := by omega
                go_wp2_with fail
                refine (missing_any N6.out.bm).mono ?_
                rintro e w8 ⟨a8, c8, rfl, hb8, _⟩
                rw [PC.out]
                have N8 := hide (N6.out.next hb8)
                rw [PC.out] at N8
                obtain ⟨L2, eL2⟩ : ∃ L2, L2 = (missL (putS s1 (cutP bs j))).length := ⟨_, rfl⟩
                have LE : ¬ (nL : Int) < (L2 : Int) := by
                  have h1 := jn_less HD.out HL.out ic.out (HZ1.out (.inr hy))
                  rw [← eL2] at h1
                  rw [← EL.out] at h1; omega
                rw [← eL2]
                clear eL2 hb8
                go_wp2_with fail
                go_roundw
                case rel => exact ⟨j + 1, mo6, _, by omega, by go_num, N8, J3, Z3⟩
                case measure => simp [intOf]; omega
              · have z2 : ¬ (0 : Int) < (k : Int) := by omega
                rw [PC.out] at N6
                go_wp2_with fail
                go_roundw
                case rel => exact ⟨j + 1, mo6, _, by omega, by go_num, N6, J3, Z3⟩
                case measure => simp [intOf]; omega
        · have hm : missL s1 = [] := HM.out.2 (fun i hi => HA.out i (by rw [← EN.out] at hi; omega))
          rw [(JD.out.2 hm)] at CD
          rw [JD.out.1, decide_eq_true hm] at CD
          obtain ⟨lb, elb⟩ : ∃ lb, lb = bs.length := ⟨_, rfl⟩
          rw [← elb] at CD
          have ELB := hide elb
          have HM0 := hide hm
          have i1 : ¬ (j : Int) < (n : Int) := by omega
          clear hm elb CM
          go_wp2_with fail
          refine (CD.out _ HN1.out).mono ?_
          rintro e w5 ⟨a5, c5, rfl, hb5, hr5⟩
          have N4b := hide (HN1.out.next hb5)
          have CB : Hid (Calls Tryd.prog 25 #[.slice a5 lb c5, .slice a len cap] w5 fun e w' => e = .returned (.bool true) ∧ Below w5.heap.size w5 w') := by
            obtain ⟨x1, y1, e1, q1⟩ := sq_of_row ELB.out.symm H.out.wf hr5
            obtain ⟨rfl, rfl⟩ : a5 = x1 ∧ c5 = y1 := by simpa using e1
            exact bytes_lit q1 (H.out.below (below_step BV.out N4b.out.below)) (by have := HL.out; have := ELB.out; omega) (by simp)
          clear hb5 hr5
          go_wp2_with fail
          refine CB.out.mono ?_
          rintro e w5b ⟨rfl, hb5⟩
          have N5 := hide (N4b.out.next hb5)
          clear hb5 CB CD
          go_wp2_with fail
          refine (missing_any N5.out.bm).mono ?_
          rintro e w8 ⟨a8, c8, rfl, hb8, _⟩
          have N8 := hide (N5.out.next hb8)
          rw [HM0.out]
          clear hb8
          simp only [List.length_nil]
          go_wp2_with fail
          go_ret
          exact ⟨rfl, below_step BV.out N8.out.below⟩
theorem walk {W : World} {a a2 : Option Addr} {len cap m2 c2 : Nat} {bs zs : List Int} (h : Sq W a len cap bs) (hc : cap * 1 ≤ 140737488351232) (h2 : I8.Sq W a2 m2 c2 zs) (hr : c2 * 8 ≤ 140737488351232) (ht : Tab W) :
    Calls Tryd.prog 5 #[.slice a len cap, .slice a2 m2 c2] W fun e w' => e = .returned (.bool true) ∧ Below W.heap.size W w' := by
  by_cases hl : len ≤ 8192
  · exact short h hl h2 (by have := h2.lecap; omega) ht
  · exact long (by omega) ht
theorem gTab : Tryd.prog.globalNamed "purse/codec.halves" = some 0 := by kernel_rfl
theorem gTabType : (Tryd.prog.globals[0]?).map (·.type) = some 66 := by kernel_rfl
theorem cellsT : Tryd.prog.cellsOf 66 = 16 := by kernel_rfl
theorem cellsE : Tryd.prog.cellsOf 31 = 1 := by kernel_rfl
theorem table {W : World} (h : laidMetH Tryd.prog Rows.chunkBackRow.laid W) : Tab W := by
  have t : Lib.TabIs Tryd.prog W "purse/codec.halves" .u32 Crc.tab := Lib.tabIs_of_head (rest := []) gTab gTabType Tryd.underlying66 Tryd.underlying31 cellsE cellsT h
  intro j hj
  rw [t.cell gTab j hj]
  simp [List.getD]
theorem contract (H : Type) (enc : TypeId × Value → H) (W : World) (base : Nat) (args : Array Value) (ds gs : List (DataW H)) (before : List MemPlace)
    (hval0 : ∀ (j : Nat) t v, Tryd.f5.params[j]? = some t → args[j]? = some v → Value.okWide Tryd.prog W .any base t v)
    (hW : DataW.Whole enc Tryd.prog Tryd.f5.params.toList Rows.chunkBackSpec.vars false W args.toList ds gs before)
    (hsz0 : (DataW.weightsEach Tryd.prog (Tryd.f5.params.toList ++ Rows.chunkBackSpec.plain.varTypes Tryd.prog) (ds ++ gs)).all (· ≤ reachBytes) = true) (hL : laidMetH Tryd.prog Rows.chunkBackRow.laid W) :
    Calls Tryd.prog 5 args W fun e W' => ∃ v, e = .returned v ∧ Rows.chunkBackSpec.post enc Tryd.prog Tryd.f5 false true false false W args v W' := by
  have hsz : (DataW.weightsEach Tryd.prog (Tryd.f5.params.toList ++ Rows.chunkBackSpec.plain.varTypes Tryd.prog) (ds ++ gs)).all (· ≤ reachBytes) = true := hsz0
  have hval : ∀ (j : Nat) t v, Tryd.f5.params[j]? = some t → args[j]? = some v → Value.okWide Tryd.prog W .any base t v := hval0
  have hW' := hW
  obtain ⟨p, q, hA0, hV, rfl, hfz, hnd⟩ := hW
  have hA : DataW.TrodAll enc Tryd.prog W 0 (fun _ => true) true Tryd.f5.params.toList args.toList ds p := hA0
  rw [Tryd.params5] at hA hval hsz
  obtain ⟨v0, vs0, d0, ds0, p0, q0, hargs, rfl, rfl, h0, r0⟩ := trodAll_cons hA
  obtain ⟨v1, vs1, d1, ds1, p1, q1, rfl, rfl, rfl, h1, r1⟩ := trodAll_cons r0
  obtain ⟨rfl, rfl, rfl⟩ := trodAll_nil r1
  obtain rfl : args = #[v0, v1] := by cases args; simp_all
  obtain ⟨rfl, rfl⟩ := trodVars_none hV
  have lt0 : ∀ x ∈ p0, x.block < W.heap.size := by obtain ⟨m, hm⟩ := h0; exact DataW.trod_lt m _ _ _ hm
  obtain ⟨a, len, cap, bs, rfl, h⟩ := open_sq_sized (hval 0 22 v0 rfl rfl) h0 (fun elems spare e => by have h := hsz; rw [e] at h; exact sized_slice h (j := 0) (t := 22) (e := 5) rfl rfl Tryd.underlying22)
  have lt1 : ∀ x ∈ p1, x.block < W.heap.size := by obtain ⟨m, hm⟩ := h1; exact DataW.trod_lt m _ _ _ hm
  obtain ⟨a2, m2, c2, zs, rfl, h2⟩ := I8.open_sq_sized (hval 1 45 v1 rfl rfl) h1 (fun elems spare e => by have h := hsz; rw [e] at h; exact sized_slice h (j := 1) (t := 45) (e := 3) rfl rfl Tryd.underlying45)
  clear hA0 hval0
  refine (walk h.1 h.2 h2.1 h2.2 (table hL)).mono fun e W' ⟨he, bel⟩ => ?_
  subst he
  exact ⟨_, rfl, _, _, _, [], _, [], hW', trodAll_mk1 (shut_bool Tryd.underlying4 _), (trodAll_cons_mk (Below.trod laidOut (by kernel_rfl) (of_decide_eq_true (by kernel_rfl)) h0 bel lt0) (trodAll_cons_mk (Below.trod laidOut (by kernel_rfl) (of_decide_eq_true (by kernel_rfl)) h1 bel lt1) trodAll_mk0)), rfl, bel.frame _, fun h => by cases h⟩

noncomputable def laidWorld (os : Os) : World :=
  { World.holding Tryd.prog os ⟨#[], #[], []⟩ with heap := (World.holding Tryd.prog os ⟨#[], #[], []⟩).heap.modify 0 fun
      | .cells _ t frozen => .cells #[.int .u32 0, .int .u32 498536548, .int .u32 997073096, .int .u32 651767980, .int .u32 1994146192, .int .u32 1802195444, .int .u32 1303535960, .int .u32 1342533948, .int .u32 3988292384, .int .u32 4027552580, .int .u32 3604390888, .int .u32 3412177804, .int .u32 2607071920, .int .u32 2262029012, .int .u32 2685067896, .int .u32 3183342108] t frozen
      | o => o }
theorem laid_met (os : Os) : laidMet Tryd.prog Rows.chunkBackRow.laid ((laidWorld os).forCall (fun _ _ => 0) ⟨#[], #[Value.slice none 0 0, Value.slice none 0 0], []⟩).memory :=
  laidMet_of_run' 8 (by kernel_rfl) (by kernel_rfl)
theorem reads (os : Os) {H : Type} (enc : TypeId × Value → H) : ∃ places, DataW.whole enc Tryd.prog ((laidWorld os).forCall (fun _ _ => 0) ⟨#[], #[Value.slice none 0 0, Value.slice none 0 0], []⟩).memory Tryd.f5.params.toList Rows.chunkBackSpec.vars false #[Value.slice none 0 0, Value.slice none 0 0].toList 8 = some ([.nil, .nil], [], places) :=
  ⟨[], by kernel_rfl⟩
set_option maxRecDepth 100000 in
theorem lifted (os : Os) (started : os.Started) (H : Type) (enc : TypeId × Value → H) (F : Stop.Interp) :
    ReturnsInHanded {} Tryd.checked os 5 .any ((OpenSpec.ofChange Rows.chunkBackSpec).preRow enc Tryd.prog Tryd.f5 Rows.chunkBackRow.domain false Rows.chunkBackRow.laid) (((OpenSpec.ofChange Rows.chunkBackSpec).at F).post enc Tryd.prog Tryd.f5 false true false false) := by
  obtain ⟨places, hx⟩ := reads os enc
  refine returnsInHanded_of_row (C := Tryd.checked) (s := OpenSpec.ofChange Rows.chunkBackSpec) own started (by kernel_rfl) Tryd.func5
    (witness_row_at (enc := enc) (C := Tryd.checked) false (laidWorld os) #[Value.slice none 0 0, Value.slice none 0 0] rfl (by kernel_rfl) (by kernel_rfl) (by kernel_rfl)
      (OpenSpec.preRow_of_cond 8 hx (by kernel_rfl) (fun k hk => by cases hk) (by kernel_rfl) (laid_met os))) ?_
  intro W base args ds gs before hval hW _ _ hsz hL _ _
  exact contract H enc W base args ds gs before hval hW hsz hL

theorem said : Rows.ChunkBackSaid :=
  OpenClaim.holds_of_cond 5 Tryd.f5 rfl rfl rfl rfl rfl rfl rfl ⟨rfl, rfl, rfl, rfl, rfl⟩ rfl rfl rfl rfl rfl (by kernel_rfl) Tryd.func5 (by kernel_rfl)
    (of_decide_eq_true (by kernel_rfl)) (by unfold Func.isWrapper; first | (rw [if_pos (by decide +kernel)]; kernel_rfl) | (rw [if_neg (by decide +kernel)]; exact ⟨rfl, rfl⟩))
    (fun os started H enc _ F => by rw [OpenClaim.pre_eq_preRow]; exact lifted os started H enc F)
theorem plain (f : FuncId) (fn : Func) (hf : Tryd.pinned.checked.prog.funcNamed "purse/purselaw12.ChunkBack" = some f) (hfn : Tryd.pinned.checked.prog.funcs[f]? = some fn) :
    true = Tryd.pinned.checked.prog.looks [] ∧ ∀ (j : Nat) t, fn.params[j]? = some t → Tryd.pinned.checked.prog.wantsStandIn t = false := by
  obtain rfl : f = 5 := Option.some.inj ((show Tryd.prog.funcNamed "purse/purselaw12.ChunkBack" = some 5 by kernel_rfl).symm.trans hf) |>.symm
  obtain rfl : fn = Tryd.f5 := (Option.some.inj (Tryd.func5.symm.trans hfn)).symm
  refine ⟨by kernel_rfl, fun j t ht => ?_⟩
  rw [Tryd.params5] at ht
  have hmem := Array.mem_of_getElem? ht
  have ht2 : t = 22 ∨ t = 45 := by simpa using hmem
  rcases ht2 with rfl | rfl
  · exact (show Tryd.prog.wantsStandIn 22 = false by kernel_rfl)
  · exact (show Tryd.prog.wantsStandIn 45 = false by kernel_rfl)
theorem card : Rows.ChunkBackCardSaid :=
  Claim7.holds_tied_plain_at .later [] _ _ _ _ said (fun _ h => by cases h) (by kernel_rfl) (fun _ h => by cases h) chunkBack_row_tie rfl ⟨rfl, rfl⟩ (by kernel_rfl) rfl plain (by kernel_rfl)
#print axioms card
end ChunkBack
theorem chunkBack_holds : Rows.ChunkBackCardSaid := ChunkBack.card
end Go.Proofs.YtokdlkfjimihjaaDoor
