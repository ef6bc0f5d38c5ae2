/- For every list of things the law BallotBest (P9.4) returns true at the landed code: of things the first one whose ballot no other's is above, and each is asked once at least. No condition. -/
import Derived.Test.YtlcccaiahmbkpaaBallotBestT
import Derived.Test.YtlcccaiahmbkpaaBallotRefMost
import Derived.Test.YtlcccaiahmbkpaaBallotGather
namespace Go.Proofs.Ytlcccaiahmbkpaa
namespace BallotBest
open Go.ChangeShapes Go.WideShapes Go.ChangeAt Go.RowKit
set_option linter.unusedVariables false

/-- the first thing from k on whose ballot is m -/
def wv (g : Nat → (Int × Int) × Int) (m : Int × Int) (len : Nat) : Nat → (Int × Int) × Int
  | 0 => ((0, 0), 0)
  | j + 1 => if (g (len - (j + 1))).1 = m then g (len - (j + 1)) else wv g m len j
theorem wv_find {g : Nat → (Int × Int) × Int} {m : Int × Int} {len i : Nat} (hi : i < len) (he : (g i).1 = m) (hn : ∀ j, j < i → (g j).1 ≠ m) : ∀ j, len - i ≤ j → j ≤ len → wv g m len j = g i
  | 0, h1, _ => absurd h1 (by omega)
  | j + 1, h1, h2 => by
    by_cases e : j + 1 = len - i
    · rw [wv, show len - (j + 1) = i by omega, if_pos he]
    · rw [wv, if_neg (hn _ (by omega))]
      exact wv_find hi he hn j (by omega) (by omega)
theorem wv_best {g : Nat → (Int × Int) × Int} {m x : Int × Int} {len : Nat} {t : (Int × Int) × Int} {is : Bool} (h : BI (fun j => (g j).1) g ((0, 0), 0) len x t is) (hm : Mx (fun j => (g j).1) len m) : wv g m len len = t := by
  obtain rfl := h.mx.one hm
  rcases h with ⟨rfl, _, _, rfl⟩ | ⟨_, i, hi, rfl, hx, _, h2⟩
  · rfl
  · refine wv_find hi hx (fun j hj e => ?_) len (by omega) (Nat.le_refl _)
    have := h2 j hj
    simp only at this
    rw [e, lsB_self] at this
    cases this

theorem wv_next {g : Nat → (Int × Int) × Int} {m : Int × Int} {len j : Nat} (hj : j < len) : wv g m len (len - j) = if (g j).1 = m then g j else wv g m len (len - (j + 1)) := by
  obtain ⟨d, hd⟩ : ∃ d, len - j = d + 1 := ⟨len - (j + 1), by omega⟩
  rw [hd, wv, show len - (d + 1) = j by omega, show len - (j + 1) = d by omega]
/-- the last loop: what is wanted so far, and the greatest ballot -/
structure WtR (w : World) (M : Nat) (m : Int × Int) (t : (Int × Int) × Int) (wr : World) : Prop where
  below : Below w.heap.size w wr
  want : wr.heap[w.heap.size]? = some (.cells #[.int .i64 t.1.1, .int .i64 t.1.2, .int .i64 t.2] 42 (0, 0))
  most : wr.heap[M]? = some (.cells #[.int .i64 m.1, .int .i64 m.2] 23 (0, 0))
theorem WtR.drewN {w wr : World} {M : Nat} {m : Int × Int} {t : (Int × Int) × Int} (h : WtR w M m t wr) (q : Nat) : WtR w M m t (wr.drewN q) := ⟨bel_drewN h.below q, h.want, h.most⟩
theorem WtR.set {w wr : World} {M : Nat} {m : Int × Int} {t : (Int × Int) × Int} (h : WtR w M m t wr) (hM : w.heap.size ≠ M) (u : (Int × Int) × Int) : WtR w M m u (((wr.setCell ⟨w.heap.size, 0, none⟩ (.int .i64 u.1.1)).setCell ⟨w.heap.size, 1, none⟩ (.int .i64 u.1.2)).setCell ⟨w.heap.size, 2, none⟩ (.int .i64 u.2)) := by
  have hb := h.below
  exact ⟨by go_grown, put_row (put_row (put_row h.want)), set_row (set_row (set_row h.most hM) hM) hM⟩

set_option maxHeartbeats 2000000 in
theorem walk {w : World} {a : Option Addr} {len cap : Nat} {g : Nat → (Int × Int) × Int} (h : Rws w 3 24 a len (fun j => tc (g j))) :
    Calls Try.prog 5 #[.slice a len cap] w fun e w' => e = .returned (.bool true) ∧ Below w.heap.size w w' := by
  have hmf : ∀ (fn : Fn) (first cap : Array Value) (w : World), (Instr.makeFunc fn first cap).run Try.prog w = .ok (.func fn first cap) w := fun _ _ _ _ => rfl
  have C := hide (best_t (cap := cap) h rfl)
  have HS := hide h
  have hr : len * 24 ≤ 140737488351232 := h.room
  clear h
  go_enter Try.func5, Try.ntmps5
  go_wp2_with fail
  refine C.out.mono ?_
  rintro e w1 ⟨⟨x, t, is, rfl, hi⟩, hb1, hrow⟩
  have HI := hide hi
  obtain rfl := hi.is
  have z0 := (Array.getElem?_eq_some_iff.1 hrow).1
  have ca : w1.cell? ⟨w.heap.size, 0, none⟩ = some (.int .i64 len) := by rw [cell_of_row _ _ _ _ _ _ hrow]; rfl
  have B1 := hide hb1
  have U1 := hide (show AllCells (w1.alloc (.cells #[.int .i64 t.1.1, .int .i64 t.1.2, .int .i64 t.2] 42)) [(⟨w1.heap.size, 0, none⟩, .int .i64 t.1.1), (⟨w1.heap.size, 1, none⟩, .int .i64 t.1.2), (⟨w1.heap.size, 2, none⟩, .int .i64 t.2), (⟨w.heap.size, 0, none⟩, .int .i64 len)] from ⟨by simp, by simp, by simp, (World.cell?_alloc_past _ _ _ z0).trans ca, trivial⟩)
  clear hi hb1 hrow C z0 ca
  go_wp2_with fail
  refine (awake_any _).mono ?_
  rintro e w2 ⟨rfl, hb2⟩
  have B2 := hide (below_step (below_alloc B1.out _) hb2)
  have U2 := hide (allCells_below hb2 U1.out)
  obtain ⟨q1, q2, q3, q4, _⟩ := U2.out
  simp only at q1 q2 q3 q4
  clear hb2 U1 B1
  have d1 : decide (0 < len) = decide ((0 : Int) < (len : Int)) := decide_eq_decide.2 (by omega)
  rw [d1]
  clear d1
  go_wp2_with fail
  clear q1 q2 q3 q4
  go_loopw [6, 7] (fun sv iv wr => ∃ (k : Nat) (a1 : Option Addr) (c1 : Nat), k ≤ len ∧ iv = .int .i64 k ∧ sv = .slice a1 k c1 ∧ Hid (Gb w2 wr (fun j => (g j).1) k a1 c1)) (fun _ iv _ => len - (intOf iv).toNat)
  case atStart => exact ⟨0, none, 0, Nat.zero_le _, rfl, rfl, Below.refl _ _, World.ownsRow_nil _ _ _ _⟩
  case round =>
    obtain ⟨k, a1, c1, hk, rfl, rfl, HG⟩ := hrel
    by_cases hlt : k < len
    · obtain ⟨b, off, rfl, hbl, hc⟩ := (HS.out.below (below_step B2.out HG.out.below)).cells (by omega)
      obtain ⟨y1, y2, y3⟩ := tc_cells (hc k hlt)
      obtain ⟨b1, cp, wn, run, gn⟩ := gb_add HG.out (by omega) 24
      have RN := hide run
      have GN := hide gn
      clear hbl hc run gn
      go_wp2_with (at_builtin; refine wp_append_run _ rfl (.tmp 38) (.tmp 44) 24 rfl _ _ RN.out ?_)
      go_roundw
      case rel => exact ⟨k + 1, _, _, by omega, by go_num, rfl, GN⟩
      case measure => simp [intOf]; omega
    · obtain rfl : k = len := by omega
      have B3 := hide (below_step B2.out HG.out.below)
      have U3 := hide (allCells_below HG.out.below U2.out)
      have CM := hide (rmost_any (cap := c1) ((HG.out.rows hr).below (below_alloc (Below.refl _ _) (.cells #[.int .i64 0, .int .i64 0, .int .i64 0] 42))))
      clear HG U2 B2
      go_wp2_with fail
      refine CM.out.mono ?_
      rintro e w4 ⟨⟨m, rfl, hm⟩, hb4⟩
      have WB := hide (wv_best HI.out hm)
      have hrow : w4.heap[wr.heap.size]? = some (.cells #[.int .i64 0, .int .i64 0, .int .i64 0] 42 (0, 0)) := (hb4.block _ (by simp)).trans (heap_alloc_new wr _)
      have z4 := (Array.getElem?_eq_some_iff.1 hrow).1
      have B4 : Below wr.heap.size wr w4 := below_step (below_alloc (Below.refl _ _) _) hb4
      have T0 : Hid (WtR wr w4.heap.size m (wv g m k 0) (w4.alloc (.cells #[.int .i64 m.1, .int .i64 m.2] 23))) := ⟨below_alloc B4 _, (Below.heap_alloc _ _ _ z4).trans hrow, heap_alloc_new w4 _⟩
      have NE : Hid (wr.heap.size ≠ w4.heap.size) := by show _ ≠ _; omega
      clear CM hb4 hrow z4 B4 hm HI
      obtain ⟨w3, e3⟩ : ∃ w3, w3 = wr := ⟨_, rfl⟩
      rw [← e3] at B3 U3 T0 NE ⊢
      clear e3
      go_wp2_with fail
      generalize decide (0 < k) = is2
      go_loopw [10] (fun iv wq => ∃ (n : Nat), n ≤ k ∧ iv = .int .i64 ((n : Int) - 1) ∧ Hid (WtR w3 w4.heap.size m (wv g m k (k - n)) wq)) (fun iv _ => (intOf iv + 1).toNat)
      case atStart => exact ⟨k, Nat.le_refl _, rfl, by rw [Nat.sub_self]; exact T0⟩
      case round =>
        obtain ⟨n, hn, rfl, HW⟩ := hrel
        by_cases h0 : n = 0
        · subst h0
          rw [Nat.sub_zero, WB.out] at HW
          have hw := HW.out.want
          have BF := hide (below_step B3.out HW.out.below)
          obtain ⟨y1, y2, y3, _, _⟩ := allCells_below HW.out.below U3.out
          simp only at y1 y2 y3
          have v1 : wr.cell? ⟨w3.heap.size, 0, none⟩ = some (.int .i64 t.1.1) := by rw [cell_of_row _ _ _ _ _ _ hw]; rfl
          have v2 : wr.cell? ⟨w3.heap.size, 1, none⟩ = some (.int .i64 t.1.2) := by rw [cell_of_row _ _ _ _ _ _ hw]; rfl
          have v3 : wr.cell? ⟨w3.heap.size, 2, none⟩ = some (.int .i64 t.2) := by rw [cell_of_row _ _ _ _ _ _ hw]; rfl
          clear hw
          go_wp2_with fail
          go_ret
          exact ⟨rfl, BF.out⟩
        · obtain ⟨j, rfl⟩ : ∃ j, n = j + 1 := ⟨n - 1, by omega⟩
          have ej : ((j + 1 : Nat) : Int) - 1 = (j : Int) := by omega
          rw [ej]
          clear ej
          have NX := hide (wv_next (g := g) (m := m) (len := k) (j := j) (by omega))
          obtain ⟨b, off, rfl, hbl, hc⟩ := (HS.out.below (below_step B3.out HW.out.below)).cells (by omega)
          obtain ⟨y1, y2, y3⟩ := tc_cells (hc j (by omega))
          have hm := HW.out.most
          have hw := HW.out.want
          have m1 : wr.cell? ⟨w4.heap.size, 0, none⟩ = some (.int .i64 m.1) := by rw [cell_of_row _ _ _ _ _ _ hm]; rfl
          have m2 : wr.cell? ⟨w4.heap.size, 1, none⟩ = some (.int .i64 m.2) := by rw [cell_of_row _ _ _ _ _ _ hm]; rfl
          clear hbl hc hm
          have i1 : (j : Int) < (k : Int) := by omega
          have i2 : (0 : Int) ≤ (j : Int) := by omega
          by_cases e : (g j).1 = m
          · have v1 : wr.cell? ⟨w3.heap.size, 0, none⟩ = some (.int .i64 (wv g m k (k - (j + 1))).1.1) := by rw [cell_of_row _ _ _ _ _ _ hw]; rfl
            have v2 : wr.cell? ⟨w3.heap.size, 1, none⟩ = some (.int .i64 (wv g m k (k - (j + 1))).1.2) := by rw [cell_of_row _ _ _ _ _ _ hw]; rfl
            have v3 : wr.cell? ⟨w3.heap.size, 2, none⟩ = some (.int .i64 (wv g m k (k - (j + 1))).2) := by rw [cell_of_row _ _ _ _ _ _ hw]; rfl
            have fz : ∀ o, wr.frozen? ⟨w3.heap.size, o, none⟩ = false := fun o => frozen_of_row _ _ _ _ _ hw
            have FN := hide (HW.out.set NE.out (g j))
            rw [if_pos e] at NX
            clear hw
            rw [← e] at m1 m2
            clear e
            go_wp2_with fail
            go_quiet (fail)
            go_wp2_with fail
            go_roundw
            case rel => exact ⟨j, by omega, by go_num, by rw [NX.out]; exact FN.out.drewN _⟩
            case measure => simp [intOf]
          · rw [if_neg e] at NX
            have e' : ¬ (g j).1.1 = m.1 ∨ (g j).1.1 = m.1 ∧ ¬ (g j).1.2 = m.2 := by
              by_cases h1 : (g j).1.1 = m.1
              · exact .inr ⟨h1, fun h2 => e (Prod.ext h1 h2)⟩
              · exact .inl h1
            clear e hw
            rcases e' with e1 | ⟨e1, e2⟩
            · have d1 : ((g j).1.1 = m.1) = False := by simp [e1]
              have d2 : decide ((g j).1.1 = m.1) = false := decide_eq_false e1
              go_wp2_with fail
              go_quiet (fail)
              go_wp2_with fail
              go_roundw
              case rel => exact ⟨j, by omega, by go_num, by rw [NX.out]; exact HW.out.drewN _⟩
              case measure => simp [intOf]
            · rw [e1] at y1
              clear e1
              have d1 : ((g j).1.2 = m.2) = False := by simp [e2]
              have d2 : decide ((g j).1.2 = m.2) = false := decide_eq_false e2
              go_wp2_with fail
              go_quiet (fail)
              go_wp2_with fail
              go_roundw
              case rel => exact ⟨j, by omega, by go_num, by rw [NX.out]; exact HW.out.drewN _⟩
              case measure => simp [intOf]

set_option maxRecDepth 100000 in
theorem lifted (os : Os) (started : os.Started) (H : Type) (enc : TypeId × Value → H) :
    ReturnsInHanded {} Try.checked os 5 .any (Rows.ballotBestSpec.pre6 enc Try.prog Try.f5 Rows.ballotBestRow.domain false) (Rows.ballotBestSpec.post enc Try.prog Try.f5 false true false false) := by
  refine returnsInHanded_of_change_sized (C := Try.checked) own started (by kernel_rfl) Try.func5
    (ChangeSpec.witness6 (enc := enc) (C := Try.checked) false ⟨#[], #[.slice none 0 0], []⟩ 8 (by kernel_rfl) (by kernel_rfl) (by kernel_rfl) (by kernel_rfl)) ?_
  intro W base args ds gs before hval0 hW hcnd hsz0 _
  have hsz : (DataW.weightsEach Try.prog (Try.f5.params.toList ++ Rows.ballotBestSpec.plain.varTypes Try.prog) (ds ++ gs)).all (· ≤ reachBytes) = true := hsz0
  have hval : ∀ (j : Nat) t v, Try.f5.params[j]? = some t → args[j]? = some v → Value.okWide Try.prog W .any base t v := hval0
  have hW' := hW
  obtain ⟨p, q, hA0, hV, rfl, hfz, hnd⟩ := hW
  have hA : DataW.TrodAll enc Try.prog W 0 (fun _ => true) true Try.f5.params.toList args.toList ds p := hA0
  rw [Try.params5] at hA hval hsz
  obtain ⟨v0, vs0, d0, ds0, p0, q0, hargs, rfl, rfl, h0, r0⟩ := trodAll_cons hA
  obtain ⟨rfl, rfl, rfl⟩ := trodAll_nil r0
  obtain rfl : args = #[v0] := by cases args; simp_all
  obtain ⟨rfl, rfl⟩ := trodVars_none hV
  have lt0 : ∀ x ∈ p0, x.block < W.heap.size := by obtain ⟨m, hm⟩ := h0; exact DataW.trod_lt m _ _ _ hm
  obtain ⟨a, len, cap, g, rfl, kl⟩ := open_things_held (hval 0 40 v0 rfl rfl) h0 (fun n hn => by have h := List.all_eq_true.1 hsz n (DataW.weights_mem_each (j := 0) rfl rfl n hn); simpa using h)
  clear hA0 hval0
  refine (walk kl).mono fun e W' ⟨he, bel⟩ => ?_
  subst he
  exact ⟨_, rfl, _, _, _, [], _, [], hW', trodAll_mk1 (shut_bool Try.underlying4 _), (trodAll_cons_mk (Below.trod laidOut (by kernel_rfl) (of_decide_eq_true (by kernel_rfl)) h0 bel lt0) trodAll_mk0), rfl, bel.frame _, fun h => by cases h⟩

theorem over : Rows.ballotBestRow.holds Try.pinned (OpenSpec.ofChange Rows.ballotBestSpec) :=
  OpenClaim.holds_of_wide 5 Try.f5 rfl rfl rfl rfl rfl rfl rfl ⟨rfl, rfl, rfl, rfl, rfl⟩ rfl rfl rfl rfl rfl (by kernel_rfl) Try.func5 (by kernel_rfl)
    (of_decide_eq_true (by kernel_rfl)) (by unfold Func.isWrapper; first | (rw [if_pos (by decide +kernel)]; kernel_rfl) | (rw [if_neg (by decide +kernel)]; exact ⟨rfl, rfl⟩))
    (fun os started H enc _ => lifted os started H enc)

theorem proved : Rows.BallotBestSaid := over
#print axioms proved
end BallotBest
theorem ballotBest_holds : Rows.BallotBestSaid := BallotBest.proved
end Go.Proofs.Ytlcccaiahmbkpaa
