/- SlotsKinds holds: a log of one kind of things goes as one of any other; for every input. No condition. -/
import Derived.Test.YtpaciknmmceehaaSlotsKindLooks
import Derived.Test.YtpaciknmmceehaaSlotsAwake
import Derived.Test.YtpaciknmmceehaaSlotsOpl
import Derived.Deep.CutRange
import Derived.Deep.CutBlock
import Derived.Deep.RegionHeld3
namespace Go.Proofs.Ytpaciknmmceehaa
open Go.ChangeShapes Go.WideShapes Go.ChangeAt Go.RowKit Sx Kd
set_option linter.unusedVariables false
namespace SlotsKinds
theorem get_put0 {s : Ss (ByteArray × Int)} (h : Ok s) {i : Int} {x : ByteArray × Int} (hp : putE s i = 0) : getV (putS s i x) i = some x := by
  have h1 : ¬ i < s.first := fun hh => by unfold putE at hp; rw [if_pos hh] at hp; omega
  have h2 : ¬ (s.most : Int) ≤ i - s.first := fun hh => by unfold putE at hp; rw [if_neg h1, if_pos hh] at hp; omega
  exact get_put h h1 h2
theorem two_ok {w wr : World} {P R : Nat} {s : Ss (ByteArray × Int)} {t : Ss (Option Addr × Nat × Nat)} (h : Two w wr P R s t) : Ok s := by
  obtain ⟨_, ⟨L, hl, _⟩, _⟩ := h
  exact hl.ok
theorem half_keep {w w' wr : World} {P R b : Nat} {s s4 : Ss (ByteArray × Int)} {t : Ss (Option Addr × Nat × Nat)} {x0 x1 x2 : Value} (h : Half w wr P R s s4 t b #[x0, x1, x2]) (hb : Below wr.heap.size wr w') : w'.cell? ⟨b, 1, none⟩ = some x1 ∧ w'.cell? ⟨b, 2, none⟩ = some x2 := ⟨(h.below hb).cell rfl, (h.below hb).cell rfl⟩
set_option maxRecDepth 100000 in
set_option maxHeartbeats 4000000 in
theorem walk {w : World} {a : Option Addr} {len cap : Nat} {os : Nat → Opd} (f m : Int) (h : Ops w a len os) :
    Calls Try.prog 3 #[.int .i64 f, .int .i64 m, .slice a len cap] w fun e w' => e = .returned (.bool true) ∧ Below w.heap.size w w' := by
  have HO := hide h
  have RM : len ≤ 4398046511104 := by have := h.room; omega
  clear h
  go_enter Try.func3, Try.ntmps3
  go_wp2_with fail
  refine (Lp.new_any w f m).mono ?_
  rintro e w1 ⟨rfl, b1, h1⟩
  have H1 := hide h1
  have B1 := hide b1
  clear b1 h1
  go_wp2_with fail
  refine (Lb.new_any w1 f m).mono ?_
  rintro e w2 ⟨rfl, b2, h2⟩
  have D2 : Hid (Two w w2 w.heap.size w1.heap.size (newS Lp.Al f m) (newS Lb.Al f m)) := ⟨below_step B1.out b2, ⟨_, H1.out.below b2, fun j hj => by
    rcases hj with rfl | hj
    · exact Nat.le_refl _
    · simp [Lay.v, Value.ownBlock] at hj⟩, _, h2, fun j hj => by
    rcases hj with rfl | hj
    · exact B1.out.size
    · simp [Lay.v, Value.ownBlock] at hj⟩
  clear b2 h2 B1 H1
  go_wp2_with fail
  refine (awake_any w2).mono ?_
  rintro e w3 ⟨rfl, b3⟩
  have D3 := hide (D2.out.below b3)
  clear b3 D2
  go_wp2_with fail
  go_loopw [9, 10, 11, 12, 13, 14, 15, 16, 17, 18] (fun iv _ _ _ _ _ _ _ _ _ wr => ∃ k : Nat, k ≤ len ∧ iv = .int .i64 k ∧ Hid (∃ s t, Two w wr w.heap.size w1.heap.size s t ∧ S2 (Rb wr) s t)) (fun iv _ _ _ _ _ _ _ _ _ _ => len - (intOf iv).toNat)
  case atStart => exact ⟨0, by omega, rfl, hide ⟨_, _, D3.out, s2_new f m⟩⟩
  case round =>
    obtain ⟨k, hk, rfl, HD⟩ := hrel
    obtain ⟨s, t, hd, hs⟩ := HD.out
    have DU := hide (And.intro hd hs)
    clear hd hs HD D3
    by_cases hlt : k < len
    · obtain ⟨ob, off, rfl, oblt, hoc⟩ := HO.out.cells (by omega)
      have SZ := hide (HO.out.each k hlt)
      have hr := rangeAt_same (hoc k hlt) (DU.out.1.old.block ob oblt)
      generalize os k = o at *
      obtain ⟨kind, i, v⟩ := o
      obtain ⟨o0, o1, o2⟩ := opc_cells hr
      have i1 : (k : Int) < (len : Int) := by omega
      have i2 : (0 : Int) ≤ (k : Int) := by omega
      clear hr hoc oblt
      go_upto_block 2 with fail
      obtain ⟨W0, eW⟩ : ∃ W0, W0 = wr.alloc (.cells #[.int .i64 kind, .int .i64 i, .string v] 32) := ⟨_, rfl⟩
      rw [← eW]
      have DO : Hid (Done w W0 w.heap.size w1.heap.size s t wr.heap.size #[.int .i64 kind, .int .i64 i, .string v]) := by
        rw [eW]
        have hb := below_alloc (Below.refl wr.heap.size wr) (.cells #[.int .i64 kind, .int .i64 i, .string v] 32)
        exact ⟨DU.out.1.below hb, s2_lift DU.out.2 (fun hy => by_below hy hb), World.alloc_heap_new wr _⟩
      clear o0 o1 o2
      clear eW DU
      go_cut [] from 45 to 96 (fun wc => ∃ s2 t2, Hid (Done w wc w.heap.size w1.heap.size s2 t2 wr.heap.size #[.int .i64 kind, .int .i64 i, .string v]))
      case rest =>
        obtain ⟨s2, t2, D2⟩ := hcut
        have o1 := D2.out.cell (j := 1) rfl
        have CG := hide (getA D2.out.1 i)
        rcases gets D2.out i with ⟨g1, g2⟩ | ⟨x, y, g1, g2, hy⟩
        · rw [g1] at CG
          simp only [Lp.ansV, Lp.zv, Option.isSome_none] at CG
          go_wp2_with fail
          refine CG.out.mono ?_
          rintro e w5 ⟨rfl, hb5⟩
          have D5 := hide (D2.out.below hb5)
          clear o1 hb5 D2 CG
          have o1 := D5.out.cell (j := 1) rfl
          have z5 := World.block_lt_of_cell? _ _ o1
          simp only at z5
          have D6 := hide (D5.out.below (below_alloc (Below.refl _ _) (.cells #[.string ⟨#[]⟩, .int .i64 0] 26)))
          have CB := hide (getB D6.out.1 i)
          rw [g2] at CB
          simp only [Lb.ansV, Lb.zv, Option.isSome_none] at CB
          clear D5 g1 g2
          go_wp2_with fail
          refine CB.out.mono ?_
          rintro e w6 ⟨rfl, hb6⟩
          have EE0 := hide (D6.out.below hb6)
          clear hb6 D6 CB o1 z5
          go_wp2_with fail
          refine (firstA EE0.out).mono ?_
          rintro e v1 ⟨rfl, hb⟩
          have EE1 := hide (EE0.out.below hb)
          clear hb EE0
          go_wp2_with fail
          refine (firstB EE1.out).mono ?_
          rintro e v2 ⟨rfl, hb⟩
          have EE2 := hide (EE1.out.below hb)
          clear hb EE1
          go_wp2_with fail
          refine (nextA EE2.out).mono ?_
          rintro e v3 ⟨rfl, hb⟩
          have EE3 := hide (EE2.out.below hb)
          clear hb EE2
          go_wp2_with fail
          refine (nextB EE3.out).mono ?_
          rintro e v4 ⟨rfl, hb⟩
          have EE4 := hide (EE3.out.below hb)
          clear hb EE3
          go_wp2_with fail
          refine (topA EE4.out).mono ?_
          rintro e v5 ⟨rfl, hb⟩
          have EE5 := hide (EE4.out.below hb)
          clear hb EE4
          go_wp2_with fail
          refine (topB EE5.out).mono ?_
          rintro e v6 ⟨rfl, hb⟩
          have EE6 := hide (EE5.out.below hb)
          clear hb EE5
          go_wp2_with fail
          refine (lenA EE6.out).mono ?_
          rintro e v7 ⟨rfl, hb⟩
          have EE7 := hide (EE6.out.below hb)
          clear hb EE6
          go_wp2_with fail
          refine (lenB EE7.out).mono ?_
          rintro e v8 ⟨rfl, hb⟩
          have EE8 := hide (EE7.out.below hb)
          clear hb EE7
          go_wp2_with fail
          go_roundw
          case rel => exact ⟨k + 1, by omega, by go_num, hide ⟨_, _, EE8.out.1, EE8.out.2.1⟩⟩
          case measure => simp [intOf]; omega
        · obtain ⟨ya, yl, yc⟩ := y
          obtain ⟨xs, xn⟩ := x
          have HY := hide hy
          rw [g1] at CG
          simp only [Lp.ansV, Lp.va, Option.isSome_some] at CG
          clear hy
          go_wp2_with fail
          refine CG.out.mono ?_
          rintro e w5 ⟨rfl, hb5⟩
          have D5 := hide (D2.out.below hb5)
          have Y5 := hide (by_below HY.out hb5)
          clear o1 hb5 D2 CG HY
          have o1 := D5.out.cell (j := 1) rfl
          have z5 := World.block_lt_of_cell? _ _ o1
          simp only at z5
          have D6 := hide (D5.out.below (below_alloc (Below.refl _ _) (.cells #[.string xs, .int .i64 xn] 26)))
          have Y6 := hide (by_below Y5.out (below_alloc (Below.refl _ _) (.cells #[.string xs, .int .i64 xn] 26)))
          have U6 := hide (heap_alloc_new w5 (.cells #[.string xs, .int .i64 xn] 26))
          have CB := hide (getB D6.out.1 i)
          rw [g2] at CB
          simp only [Lb.ansV, Lb.va, Option.isSome_some] at CB
          clear D5 g1 g2 Y5
          go_wp2_with fail
          refine CB.out.mono ?_
          rintro e w6 ⟨rfl, hb6⟩
          have EE0 := hide (D6.out.below hb6)
          have CV := (by_below Y6.out hb6).read
          simp only at CV
          have es := str_eq xs xs
          have hp := (hb6.block w5.heap.size (by simp)).trans U6.out
          have p0 : w6.cell? ⟨w5.heap.size, 0, none⟩ = some (.string xs) := by rw [cell_of_row _ _ _ _ _ _ hp]; rfl
          clear hb6 D6 CB o1 z5 Y6 U6 hp
          go_wp2_with fail
          refine (firstA EE0.out).mono ?_
          rintro e v1 ⟨rfl, hb⟩
          have EE1 := hide (EE0.out.below hb)
          clear hb EE0
          go_wp2_with fail
          refine (firstB EE1.out).mono ?_
          rintro e v2 ⟨rfl, hb⟩
          have EE2 := hide (EE1.out.below hb)
          clear hb EE1
          go_wp2_with fail
          refine (nextA EE2.out).mono ?_
          rintro e v3 ⟨rfl, hb⟩
          have EE3 := hide (EE2.out.below hb)
          clear hb EE2
          go_wp2_with fail
          refine (nextB EE3.out).mono ?_
          rintro e v4 ⟨rfl, hb⟩
          have EE4 := hide (EE3.out.below hb)
          clear hb EE3
          go_wp2_with fail
          refine (topA EE4.out).mono ?_
          rintro e v5 ⟨rfl, hb⟩
          have EE5 := hide (EE4.out.below hb)
          clear hb EE4
          go_wp2_with fail
          refine (topB EE5.out).mono ?_
          rintro e v6 ⟨rfl, hb⟩
          have EE6 := hide (EE5.out.below hb)
          clear hb EE5
          go_wp2_with fail
          refine (lenA EE6.out).mono ?_
          rintro e v7 ⟨rfl, hb⟩
          have EE7 := hide (EE6.out.below hb)
          clear hb EE6
          go_wp2_with fail
          refine (lenB EE7.out).mono ?_
          rintro e v8 ⟨rfl, hb⟩
          have EE8 := hide (EE7.out.below hb)
          clear hb EE7
          go_wp2_with fail
          go_roundw
          case rel => exact ⟨k + 1, by omega, by go_num, hide ⟨_, _, EE8.out.1, EE8.out.2.1⟩⟩
          case measure => simp [intOf]; omega
      case first =>
        have o0 := DO.out.cell (j := 0) rfl
        have o1 := DO.out.cell (j := 1) rfl
        have o2 := DO.out.cell (j := 2) rfl
        by_cases k1 : kind = 2
        · subst k1
          have CC := hide (cutA (DO.out.below (w' := W0.drewN 1) ⟨rfl, rfl, rfl, Nat.le_refl _, fun _ _ => rfl⟩) i)
          go_wp2_with fail
          go_region_held3 (fun u => u.cell? ⟨wr.heap.size, 1, none⟩ = some (.int .i64 i)) (first | go_keep | exact o1 | exact MI.out.cell rfl | exact FI.out.cell rfl) ((first | (go_at_call 7; refine CC.out.mono ?_; rintro e w4 ⟨rfl, mi⟩; have MI := hide mi; clear mi) | (go_at_call 8; refine (cutB i MI.out).mono ?_; rintro e w5 ⟨rfl, fi⟩; have FI := hide fi; clear fi)))
          have D5 := hide FI.out
          clear FI MI CC
          go_wp2_with fail
          go_meet
          case rel => exact ⟨_, _, D5⟩
        · have z1 : (kind == 2) = false := by simpa using k1
          by_cases k2 : kind = 1
          · subst k2
            go_wp2_with fail
            go_meet
            case rel => exact ⟨_, _, DO⟩
          · have z2 : (kind == 1) = false := by simpa using k2
            have CP : Hid (∀ X, Below W0.heap.size W0 X → Calls Try.prog 9 #[.pointer (some ⟨w.heap.size, 0, none⟩), .int .i64 i, .agg #[.string v, .int .i64 k]] X fun e w' => e = .returned (.int .i64 (putE s i)) ∧ Half w w' w.heap.size w1.heap.size s (putS s i (v, (k : Int))) t wr.heap.size #[.int .i64 kind, .int .i64 i, .string v] ∧ ∀ (y : Option Addr × Nat × Nat) (v : ByteArray), By X y v → By w' y v) := fun X hX => putA (DO.out.below hX) i SZ.out.2.2 (v, (k : Int))
            have CV : ∀ u : World, (convert 9 29 (.string v)).run Try.prog u = .ok (.slice (some ⟨u.heap.size, 0, none⟩) v.size (grownCap u v.size 0 5)) (u.drew.alloc (.cells (bytesRow v (grownCap u v.size 0 5)) 5 ((bytesRow v (grownCap u v.size 0 5)).size, (bytesRow v (grownCap u v.size 0 5)).size + 1))) := fun u => run_bytes_of_string u _ _ _ v Try.underlying9 Try.underlying29 Try.underlying5
            have KO : Hid (∀ X, Below W0.heap.size W0 X → X.cell? ⟨wr.heap.size, 1, none⟩ = some (.int .i64 i) ∧ X.cell? ⟨wr.heap.size, 2, none⟩ = some (.string v)) := fun X hX => ⟨(DO.out.below hX).cell rfl, (DO.out.below hX).cell rfl⟩
            go_wp2_with fail
            go_region_held (fun u => u.cell? ⟨wr.heap.size, 1, none⟩ = some (.int .i64 i) ∧ u.cell? ⟨wr.heap.size, 2, none⟩ = some (.string v)) (first | (refine KO.out _ ?_; (repeat (first | exact Below.refl _ _ | refine below_alloc ?_ _ | refine Below.drew ?_)); done) | exact ⟨FI.out.cell rfl, FI.out.cell rfl⟩ | (refine half_keep MI.out ?_; (repeat (first | exact Below.refl _ _ | refine below_alloc ?_ _ | refine Below.drew ?_)); done)) ((first | (go_at_call 9; refine (CP.out _ (by repeat (first | exact Below.refl _ _ | refine below_alloc ?_ _ | refine Below.drew ?_))).mono ?_; rintro e w4 ⟨rfl, mi, my⟩; have MI := hide mi; have MY := hide my; clear mi my) | (go_at_call 10; first | (refine (putB SZ.out.2.2 MI.out (MY.out _ _ (by_new _ v _ _))).mono ?_; rintro e w5 ⟨rfl, fi⟩; have FI := hide fi; clear fi) | (refine (putB SZ.out.2.2 (MI.out.below (below_alloc (Below.drew (Below.refl _ _)) _)) (by_new _ v _ _)).mono ?_; rintro e w5 ⟨rfl, fi⟩; have FI := hide fi; clear fi))))
            all_goals
              have OK := hide (two_ok DO.out.1)
              have D5 := hide FI.out
              clear FI MI MY CP KO CV DO o0 o1 o2
              by_cases hp : putE s i = 0
              · rw [hp]
                have GP := hide (get_put0 (x := (v, (k : Int))) OK.out hp)
                have CG := hide (getA D5.out.1 i)
                rw [GP.out] at CG
                simp only [Lp.ansV, Lp.va, Option.isSome_some] at CG
                have o1 := D5.out.cell (j := 1) rfl
                have o2 := D5.out.cell (j := 2) rfl
                clear hp GP
                go_wp2_with fail
                refine CG.out.mono ?_
                rintro e w6 ⟨rfl, hb6⟩
                have D6 := hide (D5.out.below hb6)
                clear hb6 CG o1 o2 D5
                have o2 := D6.out.cell (j := 2) rfl
                have z6 := World.block_lt_of_cell? _ _ o2
                simp only at z6
                have es := str_eq v v
                go_wp2_with fail
                go_meet
                case rel => exact ⟨_, _, D6.out.below (below_alloc (Below.refl _ _) _)⟩
              · have hp' : (putE s i == 0) = false := by simpa using hp
                have hp2 : ¬ putE s i = 0 := hp
                clear hp
                go_wp2_with fail
                go_meet
                case rel => exact ⟨_, _, D5⟩
    · obtain rfl : k = len := by omega
      clear hk hlt
      go_wp2_with fail
      go_ret
      exact ⟨rfl, DU.out.1.old⟩

set_option maxRecDepth 100000 in
theorem lifted (os : Os) (started : os.Started) (H : Type) (enc : TypeId × Value → H) :
    ReturnsInHanded {} Try.checked os 3 .any (Rows.slotsKindsSpec.pre6 enc Try.prog Try.f3 Rows.slotsKindsRow.domain false) (Rows.slotsKindsSpec.post enc Try.prog Try.f3 false true false false) := by
  refine returnsInHanded_of_change_sized (C := Try.checked) own started (by kernel_rfl) Try.func3
    (ChangeSpec.witness6 (enc := enc) (C := Try.checked) false ⟨#[], #[.int .i64 0, .int .i64 0, .slice none 0 0], []⟩ 8 (by kernel_rfl) (by kernel_rfl) (by kernel_rfl) (by kernel_rfl)) ?_
  intro W base args ds gs before hval0 hW hcnd hsz0 _
  have hsz : (DataW.weightsEach Try.prog (Try.f3.params.toList ++ Rows.slotsKindsSpec.plain.varTypes Try.prog) (ds ++ gs)).all (· ≤ reachBytes) = true := hsz0
  have hval : ∀ (j : Nat) t v, Try.f3.params[j]? = some t → args[j]? = some v → Value.okWide Try.prog W .any base t v := hval0
  have hW' := hW
  obtain ⟨p, q, hA0, hV, rfl, hfz, hnd⟩ := hW
  have hA : DataW.TrodAll enc Try.prog W 0 (fun _ => true) true Try.f3.params.toList args.toList ds p := hA0
  rw [Try.params3] at hA hval hsz
  obtain ⟨v0, vs0, d0, ds0, p0, q0, hargs, rfl, rfl, h0, r0⟩ := trodAll_cons hA
  obtain ⟨v1, vs1, d1, ds1, p1, q1, rfl, rfl, rfl, h1, r1⟩ := trodAll_cons r0
  obtain ⟨v2, vs2, d2, ds2, p2, q2, rfl, rfl, rfl, h2, r2⟩ := trodAll_cons r1
  obtain ⟨rfl, rfl, rfl⟩ := trodAll_nil r2
  obtain rfl : args = #[v0, v1, v2] := by cases args; simp_all
  obtain ⟨rfl, rfl⟩ := trodVars_none hV
  have lt0 : ∀ x ∈ p0, x.block < W.heap.size := by obtain ⟨m, hm⟩ := h0; exact DataW.trod_lt m _ _ _ hm
  obtain ⟨f, rfl, kf⟩ := open_i64 (hval 0 3 v0 rfl rfl) h0
  have lt1 : ∀ x ∈ p1, x.block < W.heap.size := by obtain ⟨m, hm⟩ := h1; exact DataW.trod_lt m _ _ _ hm
  obtain ⟨m, rfl, km⟩ := open_i64 (hval 1 3 v1 rfl rfl) h1
  have lt2 : ∀ x ∈ p2, x.block < W.heap.size := by obtain ⟨m, hm⟩ := h2; exact DataW.trod_lt m _ _ _ hm
  obtain ⟨a, len, cap, os, rfl, ho⟩ := open_ops_held (hval 2 22 v2 rfl rfl) h2 (fun n hn => by have h := List.all_eq_true.1 hsz n (DataW.weights_mem_each (j := 2) rfl rfl n hn); simpa using h)
  clear hA0 hval0
  refine (walk f m ho).mono fun e W' ⟨he, bel⟩ => ?_
  subst he
  exact ⟨_, rfl, _, _, _, [], _, [], hW', trodAll_mk1 (shut_bool Try.underlying4 _), (trodAll_cons_mk (Below.trod laidOut (by kernel_rfl) (of_decide_eq_true (by kernel_rfl)) h0 bel lt0) (trodAll_cons_mk (Below.trod laidOut (by kernel_rfl) (of_decide_eq_true (by kernel_rfl)) h1 bel lt1) (trodAll_cons_mk (Below.trod laidOut (by kernel_rfl) (of_decide_eq_true (by kernel_rfl)) h2 bel lt2) trodAll_mk0))), rfl, bel.frame _, fun h => by cases h⟩

theorem over : Rows.slotsKindsRow.holds Try.pinned (OpenSpec.ofChange Rows.slotsKindsSpec) :=
  OpenClaim.holds_of_wide 3 Try.f3 rfl rfl rfl rfl rfl rfl rfl ⟨rfl, rfl, rfl, rfl, rfl⟩ rfl rfl rfl rfl rfl (by kernel_rfl) Try.func3 (by kernel_rfl)
    (of_decide_eq_true (by kernel_rfl)) (by unfold Func.isWrapper; first | (rw [if_pos (by decide +kernel)]; kernel_rfl) | (rw [if_neg (by decide +kernel)]; exact ⟨rfl, rfl⟩))
    (fun os started H enc _ => lifted os started H enc)

theorem proved : Rows.SlotsKindsSaid := over
#print axioms proved
end SlotsKinds
theorem slotsKinds_holds : Rows.SlotsKindsSaid := SlotsKinds.proved
end Go.Proofs.Ytpaciknmmceehaa
