/- The law's agree: a log tells what the document's has. No condition. -/
import Derived.Test.YtcbijiielikfmaaSlotsAlike
namespace Go.Proofs.Ytcbijiielikfmaa
open Go.ChangeShapes Go.WideShapes Go.ChangeAt Go.RowKit Sx Ls
set_option linter.unusedVariables false
namespace Rf
theorem cnt_step : ∀ (l : List (Option ByteArray)) (a b : Nat), a ≤ b → cnt (l.take b) ≤ cnt (l.take a) + (b - a) := fun l a b h => by
  have e : l.take b = l.take a ++ (l.drop a).take (b - a) := by
    rw [← List.take_append_drop a (l.take b), List.take_take, show min a b = a by omega, List.drop_take]
  rw [e, cnt_append]
  have := cnt_le ((l.drop a).take (b - a))
  simp at this
  omega
theorem holes_up {l : List (Option ByteArray)} {f : Int} {j : Nat} {p q : Int} (h1 : (holesL f l)[j]? = some p) (h2 : (holesL f l)[j + 1]? = some q) : p < q := by
  obtain ⟨k, rfl, _, e1⟩ := holesL_get l f j p h1
  obtain ⟨k', rfl, _, e2⟩ := holesL_get l f (j + 1) q h2
  by_cases hh : k < k'
  · omega
  · have := cnt_step l k' k (by omega)
    omega
set_option maxRecDepth 100000 in
set_option maxHeartbeats 4000000 in
theorem agree_any {w : World} {P R c : Nat} {L : Lay} {a : Option Addr} {s : Ss ByteArray} {hs : List (Int × ByteArray)} (hl : Lg w P L s) (hr : Rg w R a c s hs) :
    Calls Try.prog 18 #[.pointer (some ⟨P, 0, none⟩), .pointer (some ⟨R, 0, none⟩)] w fun e w' => e = .returned (.bool true) ∧ Below w.heap.size w w' := by
  have CT := hide (told_any hl.asks)
  have HL := hide hl
  have HR := hide hr
  have LE := hr.len
  clear hl hr
  go_enter Try.func18, Try.ntmps18
  go_wp2_with fail
  refine CT.out.mono ?_
  rintro e w1 ⟨va1, vr1, vh1, rfl, ht⟩
  obtain ⟨aa, ca, rfl⟩ := ht.sa
  obtain ⟨ar, cr, rfl⟩ := ht.sr
  obtain ⟨ah, ch, rfl⟩ := ht.sh
  have B1 := hide ht.below
  have C1 := hide (cs_row ht.all rfl)
  have C2 := hide (cs_row ht.run rfl)
  have RH := hide ht.holes
  have CA := hide (rall_any (HR.out.below ht.below))
  clear ht CT
  go_wp2_with fail
  refine CA.out.mono ?_
  rintro e w2 ⟨a1, c1, rfl, hg⟩
  have B2 : Hid (Below w.heap.size w w2) := below_step B1.out hg.1
  have C3 := hide (cs_row hg.2.2 hg.2.1)
  have OW := hide hg.2.2
  have C1' := hide (C1.out.below hg.1)
  have C2' := hide (C2.out.below hg.1)
  have RH' : Hid (w2.ownsRow w.heap.size 3 1 (.slice ah (holesL s.first s.ps).length ch) (holesL s.first s.ps).length (icells (holesL s.first s.ps))) := row_same RH.out (fun k hk => hg.1.block k (RH.out.lt k hk).2)
  clear hg CA C1 C2 RH
  have RN : Hid (∀ (k : Nat) (p : Int × ByteArray), (runL s.first s.ps)[k]? = some p → (allL s.first s.ps)[k]? = some p) := fun k p hp => by
    have hk := (List.getElem?_eq_some_iff.1 hp).1
    rw [runL_length] at hk
    rw [← (runL_at s.ps s.first k hk).1]
    exact hp
  have LA := allL_length s.ps s.first
  have LR := runL_length s.ps s.first
  have LH := holesL_length s.ps s.first
  have CM := cnt_le s.ps
  have NM := nxt_le s.ps
  have NC : nxt s.ps ≤ cnt s.ps := nxt_cnt s.ps
  have F1 := HL.out.ok.f1
  have F2 := HL.out.ok.f2
  have LM : s.ps.length ≤ 1024 := Nat.le_trans HL.out.ok.len HL.out.ok.m2
  have XF : Hid (∀ u, Below w2.heap.size w2 u → Calls Try.prog 49 #[.pointer (some ⟨P, 0, none⟩)] u fun e v => e = .returned (.int .i64 s.first) ∧ Below w2.heap.size w2 v) := fun u hu => (first_any (HL.out.below (below_step B2.out hu))).mono (by rintro e v ⟨rfl, rfl⟩; exact ⟨rfl, hu⟩)
  have XN : Hid (∀ u, Below w2.heap.size w2 u → Calls Try.prog 50 #[.pointer (some ⟨P, 0, none⟩)] u fun e v => e = .returned (.int .i64 (s.first + (nxt s.ps : Int))) ∧ Below w2.heap.size w2 v) := fun u hu => (next_any (HL.out.below (below_step B2.out hu))).mono (by rintro e v ⟨rfl, q, rfl⟩; exact ⟨rfl, hu.trans ⟨rfl, rfl, rfl, Nat.le_refl _, fun _ _ => rfl⟩⟩)
  have XT : Hid (∀ u, Below w2.heap.size w2 u → Calls Try.prog 51 #[.pointer (some ⟨P, 0, none⟩)] u fun e v => e = .returned (.int .i64 (s.first + (s.ps.length : Int))) ∧ Below w2.heap.size w2 v) := fun u hu => (top_any (HL.out.below (below_step B2.out hu))).mono (by rintro e v ⟨rfl, q, rfl⟩; exact ⟨rfl, hu.trans ⟨rfl, rfl, rfl, Nat.le_refl _, fun _ _ => rfl⟩⟩)
  have XL : Hid (∀ u, Below w2.heap.size w2 u → Calls Try.prog 58 #[.pointer (some ⟨P, 0, none⟩)] u fun e v => e = .returned (.int .i64 (cnt s.ps)) ∧ Below w2.heap.size w2 v) := fun u hu => (len_any (HL.out.below (below_step B2.out hu))).mono (by rintro e v ⟨rfl, rfl⟩; exact ⟨rfl, hu⟩)
  have YN : Hid (∀ u, Below w2.heap.size w2 u → Calls Try.prog 56 #[.pointer (some ⟨R, 0, none⟩)] u fun e v => e = .returned (.int .i64 (s.first + (nxt s.ps : Int))) ∧ Below w2.heap.size w2 v) := fun u hu => (rnext_any (HR.out.below (below_step B2.out hu))).mono (by rintro e v ⟨rfl, rfl⟩; exact ⟨rfl, hu⟩)
  have YT : Hid (∀ u, Below w2.heap.size w2 u → Calls Try.prog 57 #[.pointer (some ⟨R, 0, none⟩)] u fun e v => e = .returned (.int .i64 (s.first + (s.ps.length : Int))) ∧ Below w2.heap.size w2 v) := fun u hu => (rtop_any (HR.out.below (below_step B2.out hu))).mono (by rintro e v ⟨rfl, rfl⟩; exact ⟨rfl, hu⟩)
  have YG : Hid (∀ u i, Below w2.heap.size w2 u → Calls Try.prog 13 #[.pointer (some ⟨R, 0, none⟩), .int .i64 i] u fun e v => e = .returned (.tuple #[Ls.ansV (getV s i), .bool (getV s i).isSome]) ∧ v = u) := fun u i hu => rget_any (HR.out.below (below_step B2.out hu)) i
  have ZA : Hid (∀ u, Below w2.heap.size w2 u → Calls Try.prog 59 #[.slice aa (cnt s.ps) ca, .slice a1 (cnt s.ps) c1] u fun e v => e = .returned (.bool true) ∧ Below w2.heap.size w2 v) := fun u hu => (alike_any (C1'.out.below hu) (C3.out.below hu) LA.symm (by omega)).mono (by rintro e v ⟨rfl, b⟩; exact ⟨rfl, below_step hu b⟩)
  have ZR : Hid (∀ u c9, Below w2.heap.size w2 u → Calls Try.prog 59 #[.slice ar (nxt s.ps) cr, .slice a1 (nxt s.ps) c9] u fun e v => e = .returned (.bool true) ∧ Below w2.heap.size w2 v) := fun u c9 hu => (alike_any (C2'.out.below hu) ((C3.out.head RN.out).below hu) LR.symm (by omega)).mono (by rintro e v ⟨rfl, b⟩; exact ⟨rfl, below_step hu b⟩)
  have KP : Hid (∀ u, Below w2.heap.size w2 u → u.cell? ⟨R, 0, none⟩ = some (.int .i64 s.first) ∧ u.cell? ⟨R, 2, none⟩ = some (.slice a (cnt s.ps) c)) := fun u hu => by
    have := (HR.out.below (below_step B2.out hu)).cl
    rw [LE.1] at this
    exact ⟨this.1, this.2.2.1⟩
  generalize (allL s.first s.ps).length = na at *
  generalize (runL s.first s.ps).length = nr at *
  subst LA LR
  have HLH := hide LH
  have NH : (holesL s.first s.ps).length ≤ 1024 := by omega
  have W5 : IntKind.i64.wrap (s.first + (nxt s.ps : Int) - s.first) = (nxt s.ps : Int) := by rw [IntKind.wrap_i64]; omega
  have W6 : IntKind.i64.wrap (s.first + (s.ps.length : Int) - s.first) = (s.ps.length : Int) := by rw [IntKind.wrap_i64]; omega
  have W7 : IntKind.i64.wrap ((s.ps.length : Int) - (cnt s.ps : Int)) = ((holesL s.first s.ps).length : Int) := by rw [IntKind.wrap_i64]; omega
  have OC : cnt s.ps ≤ c1 := by
    obtain ⟨_, ⟨_, e2⟩ | ⟨g, cp, cur, e1, _, _, e4, _⟩⟩ := OW.out
    · omega
    · injection e1 with _ _ e3
      omega
  have OC2 : (nxt s.ps : Int) ≤ (c1 : Int) := by omega
  have OC3 : (0 : Int) ≤ (nxt s.ps : Int) := by omega
  clear LH LE
  have YT2 : Hid (∀ u, Below w2.heap.size w2 u → Calls Try.prog 57 #[.pointer (some ⟨R, 0, none⟩)] u fun e v => e = .returned (.int .i64 (s.first + (s.ps.length : Int))) ∧ Below u.heap.size u v) := fun u hu => (rtop_any (HR.out.below (below_step B2.out hu))).mono (by rintro e v ⟨rfl, rfl⟩; exact ⟨rfl, Below.refl _ _⟩)
  have HZ : Hid (∀ j, j < (holesL s.first s.ps).length → ∃ p g, ah = some ⟨g, 0, none⟩ ∧ g < w2.heap.size ∧ w2.cell? ⟨g, j, none⟩ = some (.int .i64 p) ∧ getV s p = none ∧ s.first ≤ p ∧ p < s.first + (s.ps.length : Int) ∧ (0 < j → ∃ q, w2.cell? ⟨g, j - 1, none⟩ = some (.int .i64 q) ∧ q < p)) := fun j hj => by
    obtain ⟨g, e1, _, e2, e3⟩ := row_at RH'.out (by omega)
    have hp := List.getElem?_eq_getElem hj
    obtain ⟨k, h1, h2, h3⟩ := holesL_get s.ps s.first j _ hp
    have hk := (List.getElem?_eq_some_iff.1 h2).1
    refine ⟨_, g, e1, e2, e3 _ _ (icells_get hp), ?_, by omega, by omega, fun h0 => ?_⟩
    · rw [h1, getV_at hk]
      exact (List.getElem?_eq_some_iff.1 h2).2
    · have hq := List.getElem?_eq_getElem (l := holesL s.first s.ps) (i := j - 1) (by omega)
      exact ⟨_, e3 _ _ (icells_get hq), holes_up hq (by rw [show j - 1 + 1 = j by omega]; exact hp)⟩
  have BB := hide (Below.refl w2.heap.size w2)
  go_wp2_with fail
  go_region_held3 (fun u => u.cell? ⟨R, 0, none⟩ = some (.int .i64 s.first) ∧ u.cell? ⟨R, 2, none⟩ = some (.slice a (cnt s.ps) c)) ((first | (refine KP.out _ ?_; repeat (first | exact BB.out | exact Below.refl _ _ | refine Below.drew ?_)))) ((first | (go_at_call 49; refine (XF.out _ (by repeat (first | exact BB.out | exact Below.refl _ _ | refine Below.drew ?_))).mono ?_; rintro e u' ⟨rfl, bb⟩; have BB := hide bb; clear bb) | (go_at_call 50; refine (XN.out _ (by repeat (first | exact BB.out | exact Below.refl _ _ | refine Below.drew ?_))).mono ?_; rintro e u' ⟨rfl, bb⟩; have BB := hide bb; clear bb) | (go_at_call 51; refine (XT.out _ (by repeat (first | exact BB.out | exact Below.refl _ _ | refine Below.drew ?_))).mono ?_; rintro e u' ⟨rfl, bb⟩; have BB := hide bb; clear bb) | (go_at_call 58; refine (XL.out _ (by repeat (first | exact BB.out | exact Below.refl _ _ | refine Below.drew ?_))).mono ?_; rintro e u' ⟨rfl, bb⟩; have BB := hide bb; clear bb) | (go_at_call 56; refine (YN.out _ (by repeat (first | exact BB.out | exact Below.refl _ _ | refine Below.drew ?_))).mono ?_; rintro e u' ⟨rfl, bb⟩; have BB := hide bb; clear bb) | (go_at_call 57; refine (YT.out _ (by repeat (first | exact BB.out | exact Below.refl _ _ | refine Below.drew ?_))).mono ?_; rintro e u' ⟨rfl, bb⟩; have BB := hide bb; clear bb) | (go_at_call 59; refine (ZA.out _ (by repeat (first | exact BB.out | exact Below.refl _ _ | refine Below.drew ?_))).mono ?_; rintro e u' ⟨rfl, bb⟩; have BB := hide bb; clear bb)))
  go_wp2_with fail
  go_region_held3 (fun u => u.cell? ⟨R, 0, none⟩ = some (.int .i64 s.first) ∧ u.cell? ⟨R, 2, none⟩ = some (.slice a (cnt s.ps) c)) ((first | (refine KP.out _ ?_; repeat (first | exact BB.out | exact Below.refl _ _ | refine Below.drew ?_)))) ((first | (go_at_call 56; refine (YN.out _ (by repeat (first | exact BB.out | exact Below.refl _ _ | refine Below.drew ?_))).mono ?_; rintro e u' ⟨rfl, bb⟩; have BB := hide bb; clear bb)))
  go_wp2_with fail
  go_region_held3 (fun u => u.cell? ⟨R, 0, none⟩ = some (.int .i64 s.first) ∧ u.cell? ⟨R, 2, none⟩ = some (.slice a (cnt s.ps) c)) ((first | (refine KP.out _ ?_; repeat (first | exact BB.out | exact Below.refl _ _ | refine Below.drew ?_)))) ((first | (go_at_call 59; refine (ZR.out _ _ (by repeat (first | exact BB.out | exact Below.refl _ _ | refine Below.drew ?_))).mono ?_; rintro e u' ⟨rfl, bb⟩; have BB := hide bb; clear bb) | (go_at_call 57; refine (YT.out _ (by repeat (first | exact BB.out | exact Below.refl _ _ | refine Below.drew ?_))).mono ?_; rintro e u' ⟨rfl, bb⟩; have BB := hide bb; clear bb)))
  have HBB := hide BB.out
  go_wp2_with fail
  go_loopw [11, 12, 13] (fun iv _ _ wr => ∃ j : Nat, j ≤ (holesL s.first s.ps).length ∧ iv = .int .i64 j ∧ Hid (Below w2.heap.size w2 wr)) (fun iv _ _ _ => (holesL s.first s.ps).length - (intOf iv).toNat)
  case atStart => exact ⟨0, by omega, rfl, HBB⟩
  case round =>
    obtain ⟨j, hj, rfl, HB⟩ := hrel
    generalize (holesL s.first s.ps).length = nh at *
    by_cases hjt : j < nh
    · obtain ⟨p, g, rfl, gl, o1, gv, p1, p2, pq⟩ := HZ.out j hjt
      have CG := hide (YG.out wr p HB.out)
      rw [gv] at CG
      simp only [Ls.ansV, Option.isSome_none, Ls.zv] at CG
      have k0 := (KP.out wr HB.out).1
      have q1 : wr.cell? ⟨g, j, none⟩ = some (.int .i64 p) := (HB.out.cell (p := ⟨g, j, none⟩) gl).trans o1
      have i1 : (j : Int) < (nh : Int) := by omega
      have i2 : (0 : Int) ≤ (j : Int) := by omega
      have i3 : decide (p < s.first) = false := decide_eq_false (by omega)
      have i4 : decide (s.first + (s.ps.length : Int) ≤ p) = false := decide_eq_false (by omega)
      have i3' : (p < s.first) = False := eq_false (by omega)
      have i4' : (s.first + (s.ps.length : Int) ≤ p) = False := eq_false (by omega)
      clear gv o1
      by_cases j0 : j = 0
      · subst j0
        clear pq gl
        go_wp2_with fail
        refine CG.out.mono ?_
        rintro e wz ⟨rfl, rfl⟩
        go_wp2_with fail
        refine wp_region_cells w2 [(⟨R, 0, none⟩, .int .i64 s.first), (⟨g, 0, none⟩, .int .i64 p)] (by kernel_rfl) (by kernel_rfl) HB.out (by simp [AllCells, k0, q1]) ?_
        intro hne qq
        simp only [AllCells, and_true] at qq
        clear k0 q1
        repeat (go_big_quiet_step (first | (go_at_call 57; exact Held.call _ (YT2.out _ (Held.below _)))))
        refine wpQuiet_nil ?_
        rintro _ ⟨y, rfl⟩
        have BQ : Hid (Below w2.heap.size w2 y.x) := y.below
        clear qq hne
        go_wp2_with fail
        go_roundw
        case rel => exact ⟨1, by omega, by go_num, BQ⟩
        case measure => simp [intOf]; omega
      · obtain ⟨j, rfl⟩ : ∃ i, j = i + 1 := ⟨j - 1, by omega⟩
        obtain ⟨q, o2, lt⟩ := pq (by omega)
        have q2 : wr.cell? ⟨g, j, none⟩ = some (.int .i64 q) := (HB.out.cell (p := ⟨g, j, none⟩) gl).trans o2
        have i5 : (j : Int) + 1 < (nh : Int) := by omega
        have i6 : (j : Int) < (nh : Int) := by omega
        have i7 : (0 : Int) ≤ (j : Int) := by omega
        have i8 : (0 : Int) ≤ (j : Int) + 1 := by omega
        have i9 : (0 : Int) < (j : Int) + 1 := by omega
        have i10 : decide (p ≤ q) = false := decide_eq_false (by omega)
        have i10' : (p ≤ q) = False := eq_false (by omega)
        have w8 : IntKind.i64.wrap ((j : Int) + 1 - 1) = (j : Int) := by rw [IntKind.wrap_i64]; omega
        have w9 : IntKind.i64.wrap (j : Int) = (j : Int) := by rw [IntKind.wrap_i64]; omega
        clear pq gl o2 lt j0
        go_wp2_with fail
        refine CG.out.mono ?_
        rintro e wz ⟨rfl, rfl⟩
        go_wp2_with fail
        refine wp_region_cells w2 [(⟨R, 0, none⟩, .int .i64 s.first), (⟨g, j + 1, none⟩, .int .i64 p), (⟨g, j, none⟩, .int .i64 q)] (by kernel_rfl) (by kernel_rfl) HB.out (by simp [AllCells, k0, q1, q2]) ?_
        intro hne qq
        simp only [AllCells, and_true] at qq
        clear k0 q1 q2
        repeat (go_big_quiet_step (first | (go_at_call 57; exact Held.call _ (YT2.out _ (Held.below _)))))
        refine wpQuiet_nil ?_
        rintro _ ⟨y, rfl⟩
        have BQ : Hid (Below w2.heap.size w2 y.x) := y.below
        clear qq hne
        go_wp2_with fail
        go_roundw
        case rel => exact ⟨j + 1 + 1, by omega, by go_num, BQ⟩
        case measure => simp [intOf]; omega
    · obtain rfl : j = nh := by omega
      clear hj hjt
      go_wp2_with fail
      go_ret
      exact ⟨rfl, below_step B2.out HB.out⟩
end Rf
end Go.Proofs.Ytcbijiielikfmaa
