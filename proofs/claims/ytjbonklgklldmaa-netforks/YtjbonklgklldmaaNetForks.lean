/- NetForks: a fork is alike, and neither shows what is done to the other; what was handed out stays. -/
import Derived.Test.YtjbonklgklldmaaNetForksMem
import Derived.Deep.RegionHeld3
import Derived.Test.YtjbonklgklldmaaNetFork
import Derived.Test.YtjbonklgklldmaaNetOpen
import Derived.Test.YtjbonklgklldmaaNetRound
import Derived.BigQuiet
import Derived.TacticsInMore
namespace Go.Proofs.Ytjbonklgklldmaa
open Go.ChangeShapes Go.WideShapes Go.ChangeAt Go.RowKit Go.Shelf B8 Nm
set_option linter.unusedVariables false
attribute [local go_sem] Oper.semAt_some

namespace NetForks
def ForkC : Prop := ∀ (w : World) (L : Lay) (kk : Nat) (s : Ns), Nt w L kk s →
    Calls Try.prog 6 #[.pointer (some ⟨L.N, 0, none⟩)] w fun e w' => ∃ F : Lay, e = .returned (.pointer (some ⟨F.N, 0, none⟩)) ∧ Below w.heap.size w w' ∧ Nt w' F kk s ∧ ∀ k, F.M k ∨ F.R k → w.heap.size ≤ k
set_option maxRecDepth 100000 in
set_option maxHeartbeats 4000000 in
theorem walkF (FC : ForkC) {w : World} {a a2 : Option Addr} {len len2 cap cap2 : Nat} {os os2 : Nat → Opd} (h : Ops w a len os) (h2 : Ops w a2 len2 os2) (b : Int) :
    Calls Try.prog 3 #[.int .i64 b, .slice a len cap, .slice a2 len2 cap2] w fun e w' => e = .returned (.bool true) ∧ Below w.heap.size w w' := by
  obtain ⟨u, eu⟩ : ∃ u, u = w.alloc (.cells #[.bool false] 4) := ⟨_, rfl⟩
  have BU : Hid (Below w.heap.size w u) := by rw [eu]; exact below_alloc (Below.refl _ _) _
  have X0 : Hid (Boxed u w.heap.size 4 (.bool false)) := by rw [eu]; exact Boxed.new w _ _
  have RA := hide (ran_any (cap := cap) (h.below BU.out) b)
  have RM := h.room
  have RM2 := h2.room
  have H2 := hide h2
  have EU := hide eu
  clear h h2 eu
  refine (callsIn_wide (n := 9)).1 (callsIn_of_wp_marks Try.func3 rfl trivial (wpIn_wide.2 ?_) rfl)
  simp only [Try.ntmps3, List.size_toArray, List.length_cons, List.length_nil, Nat.reduceAdd, Nat.reduceSub, Array.replicate_succ, Array.replicate_zero, List.push_toArray, List.append_toArray, List.nil_append, List.cons_append]
  go_wp2_with fail
  rw [← EU.out]
  refine RA.out.mono ?_
  rintro e w1 ⟨D, s, rfl, hb1, hn1, hs⟩
  have B1 := hide (below_step BU.out hb1)
  have X1 : Hid (Boxed w1 w.heap.size 4 (.bool false)) := (hb1.block _ X0.out.lt).trans X0.out
  have N1 := hide hn1
  clear hb1 hn1 hs
  go_wp2_with fail
  refine (awake_any _).mono ?_
  rintro e w2 ⟨rfl, hb2⟩
  have B2 := hide (below_step B1.out hb2)
  have X2 : Hid (Boxed w2 w.heap.size 4 (.bool false)) := (hb2.block _ X1.out.lt).trans X1.out
  have W2 : Hid (w.heap.size < w2.heap.size) := X2.out.lt
  have SU : Hid (u.heap.size = w.heap.size + 1) := by rw [EU.out]; show _ = _; simp
  obtain ⟨L, hc2, hLN, hL⟩ := N1.out.below hb2
  have LM : Hid (∀ k, L.M k → w.heap.size < k) := fun k hk => by have h1 := hL k hk; have h2 := SU.out; omega
  have LD := hide hc2.dis
  have LC : Hid (∀ k, L.M k ∨ L.R k → k < w2.heap.size) := fun k hk => by
    rcases hk with hk | hk
    · exact hc2.lt k hk
    · exact hc2.ltR k hk
  have CF := hide (FC w2 L _ s hc2)
  have C2 := hide hc2
  subst hLN
  clear hL SU
  clear hb2 B1 N1 hc2 RA X0 X1 BU
  go_wp2_with fail
  refine CF.out.mono ?_
  rintro e w3 ⟨F, rfl, hb3, hF, hnew⟩
  have B3 := hide (below_step B2.out hb3)
  have X3 : Hid (Boxed w3 w.heap.size 4 (.bool false)) := (hb3.block _ X2.out.lt).trans X2.out
  have C3 := hide (C2.out.below hb3)
  have F3 := hide hF
  have NF := hide hnew
  have FL : Hid (∀ k, F.M k → k < w3.heap.size) := hF.lt
  have S23 : Hid (w2.heap.size ≤ w3.heap.size) := hb3.size
  clear hb3 hF hnew CF
  go_wp2_with fail
  refine (list_net C3.out).mono ?_
  rintro e w4 ⟨la, lc, l1, rfl, hr4, hm4, ho4, hb4⟩
  have B4 := hide (below_step B3.out hb4)
  have X4 : Hid (Boxed w4 w.heap.size 4 (.bool false)) := (hb4.block _ X3.out.lt).trans X3.out
  have C4 := hide (C3.out.below hb4)
  have F4 := hide (F3.out.below hb4)
  have R4 := hide hr4
  have M4 := hide hm4
  have O4 := hide ho4
  have S34 : Hid (w3.heap.size ≤ w4.heap.size) := hb4.size
  clear hb4 hr4 hm4 ho4
  go_wp2_with fail
  obtain ⟨Bb, eB⟩ : ∃ Bb, Bb = w4.heap.size := ⟨_, rfl⟩
  obtain ⟨w5, e5⟩ : ∃ w5, w5 = w4.alloc (.cells #[.slice la L.m lc] 27) := ⟨_, rfl⟩
  have Y5 : Hid (Boxed w5 Bb 27 (.slice la L.m lc)) := by rw [e5, eB]; exact Boxed.new _ _ _
  have b45 : Below w4.heap.size w4 w5 := by rw [e5]; exact below_alloc (Below.refl _ _) _
  have B5 := hide (below_step B4.out b45)
  have X5 : Hid (Boxed w5 w.heap.size 4 (.bool false)) := (b45.block _ X4.out.lt).trans X4.out
  have C5 := hide (C4.out.below b45)
  have F5 := hide (F4.out.below b45)
  have R5 : Hid (w5.ownsRow w3.heap.size 33 3 (.slice la L.m lc) L.m (pcells l1)) := row_same R4.out (fun k hk => b45.block k (R4.out.lt k hk).2)
  have O5 : Hid (∀ p ∈ l1, Own1 w5 w3.heap.size p) := fun p hp => (O4.out p hp).same (fun k cs hk => (b45.block k (Array.getElem?_eq_some_iff.1 hk).1).trans hk)
  have SB : Hid (w3.heap.size ≤ Bb) := by rw [eB]; exact S34
  have EM : Hid (F.m = L.m) := by show _ = _; rw [F5.out.len, C5.out.len, ← List.length_map (f := Pv.pk), ← List.length_map (f := Pv.pk), ← F5.out.ps, ← C5.out.ps]
  rw [← e5, ← eB]
  clear e5 eB b45 R4 O4 X4 B4 C4 F4 S34 B3 X3 C3 F3 X2 B2 EU
  refine (list_net F5.out).mono ?_
  rintro e w6 ⟨xa, xc, l2, rfl, hr6, hm6, ho6, hb6⟩
  rw [EM.out] at hr6 ⊢
  have B6 := hide (below_step B5.out hb6)
  have C6 := hide (C5.out.below hb6)
  have F6 := hide (F5.out.below hb6)
  have X6 : Hid (Boxed w6 w.heap.size 4 (.bool false)) := (hb6.block _ X5.out.lt).trans X5.out
  have Y6 : Hid (Boxed w6 Bb 27 (.slice la L.m lc)) := (hb6.block _ Y5.out.lt).trans Y5.out
  have R6 : Hid (w6.ownsRow w3.heap.size 33 3 (.slice la L.m lc) L.m (pcells l1)) := row_same R5.out (fun k hk => hb6.block k (R5.out.lt k hk).2)
  have O6 : Hid (∀ p ∈ l1, Own1 w6 w3.heap.size p) := fun p hp => (O5.out p hp).same (fun k cs hk => (hb6.block k (Array.getElem?_eq_some_iff.1 hk).1).trans hk)
  have OK := hide C6.out.ok
  have hm : L.m ≤ 256 := by have := OK.out.most; rw [C6.out.ps, List.length_map, ← C6.out.len] at this; exact this
  have PL := hide (same_pk (cp := xc) (cp' := lc) (own_lst hr6 hm6 ho6 OK.out) (own_lst R6.out M4.out O6.out OK.out) hm (hm6.trans M4.out.symm))
  have y6 := Y6.out.cell
  clear hr6 hm6 ho6 hb6 B5 C5 F5 X5 Y5 R5 O5
  go_wp2_with fail
  refine PL.out.mono ?_
  rintro e w7 ⟨rfl, hb7⟩
  have B7 := hide (below_step B6.out hb7)
  have C7 := hide (C6.out.below hb7)
  have F7 := hide (F6.out.below hb7)
  have X7 : Hid (Boxed w7 w.heap.size 4 (.bool false)) := (hb7.block _ X6.out.lt).trans X6.out
  have Y7 : Hid (Boxed w7 Bb 27 (.slice la L.m lc)) := (hb7.block _ Y6.out.lt).trans Y6.out
  have R7 : Hid (w7.ownsRow w3.heap.size 33 3 (.slice la L.m lc) L.m (pcells l1)) := row_same R6.out (fun k hk => hb7.block k (R6.out.lt k hk).2)
  have O7 : Hid (∀ p ∈ l1, Own1 w7 w3.heap.size p) := fun p hp => (O6.out p hp).same (fun k cs hk => (hb7.block k (Array.getElem?_eq_some_iff.1 hk).1).trans hk)
  have S37 : Hid (w3.heap.size ≤ w7.heap.size) := by have h1 := Y7.out.lt; have h2 := SB.out; show _ ≤ _; omega
  have CA := hide (all_net C7.out)
  clear hb7 PL y6 B6 C6 F6 X6 Y6 R6 O6
  go_wp2_with fail
  refine CA.out.mono ?_
  rintro e w8 ⟨Bs, v, rfl, hb8, hk8⟩
  have B8 := hide (below_step B7.out hb8)
  have C8 := hide (C7.out.below hb8)
  have F8 := hide (F7.out.below hb8)
  have K8 : Hid (Keep w8 w3.heap.size w7.heap.size w.heap.size Bb Bs L.m la lc l1 L.l v) := ⟨(hb8.block _ X7.out.lt).trans X7.out, (hb8.block _ Y7.out.lt).trans Y7.out, row_same R7.out (fun k hk => hb8.block k (R7.out.lt k hk).2), fun p hp => (O7.out p hp).same (fun k cs hk => (hb8.block k (Array.getElem?_eq_some_iff.1 hk).1).trans hk), hk8⟩
  have KF : Hid (∀ k, KB w.heap.size Bb Bs L.m la lc l1 L.l v k → ¬ F.M k) := fun k hk hf => by
    have f1 := NF.out k (.inl hf)
    have f2 := FL.out k hf
    have f3 := W2.out
    have f4 := SB.out
    have f5 := S37.out
    rcases hk with rfl | rfl | hk | ⟨p, hp, ad, e, rfl⟩ | rfl | hk | ⟨p, hp, ad, e, rfl⟩
    · omega
    · omega
    · have := (K8.out.bf.lt k hk).1; omega
    · obtain ⟨g, e2, _, _, hg⟩ := K8.out.own p hp
      rw [e2] at e
      obtain rfl := Option.some.inj e
      have : w3.heap.size ≤ g := hg
      have f6 : g < w3.heap.size := f2
      omega
    · have := K8.out.it.lo; omega
    · have := (K8.out.it.row.lt k hk).1; omega
    · have := LC.out _ (.inr ⟨p, hp, ad, e, rfl⟩); omega
  have KL : Hid (∀ k, KB w.heap.size Bb Bs L.m la lc l1 L.l v k → ¬ L.M k) := fun k hk hf => by
    have f1 := LC.out k (.inl hf)
    have f2 := S23.out
    have f3 := LM.out k hf
    have f4 := SB.out
    have f5 := S37.out
    rcases hk with rfl | rfl | hk | ⟨p, hp, ad, e, rfl⟩ | rfl | hk | ⟨p, hp, ad, e, rfl⟩
    · omega
    · omega
    · have := (K8.out.bf.lt k hk).1; omega
    · obtain ⟨g, e2, _, _, hg⟩ := K8.out.own p hp
      rw [e2] at e
      obtain rfl := Option.some.inj e
      have f6 : g < w2.heap.size := f1
      omega
    · have := K8.out.it.lo; omega
    · have := (K8.out.it.row.lt k hk).1; omega
    · exact LD.out _ hf ⟨p, hp, ad, e, rfl⟩
  have S28 : Hid (w2.heap.size ≤ w8.heap.size) := by have f2 := S23.out; have f5 := S37.out; have f6 := hb8.size; show _ ≤ _; omega
  have FO : Hid (∀ k, F.M k → w.heap.size ≤ k) := fun k hk => by have f1 := NF.out k (.inl hk); have f3 := W2.out; omega
  have S8 : Hid (w.heap.size ≤ w8.heap.size) := B8.out.size
  clear hb8 hk8 CA B7 C7 F7 X7 Y7 R7 O7
  go_wp2_with fail
  go_loopw [14] (fun i wr => ∃ (k : Nat) (s2 : Ns), k ≤ len2 ∧ i = .int .i64 k ∧ Hid (Mv w8 F (len + k) s2 wr)) (fun i _ => len2 - (intOf i).toNat)
  case atStart => exact ⟨0, s, Nat.zero_le _, rfl, Mv.stay F8.out⟩
  case round =>
    obtain ⟨k, s2, hk, rfl, HM⟩ := hrel
    by_cases hlt : k < len2
    · obtain ⟨hc, F1, hn1, e1, m1, r1⟩ := HM.out
      obtain ⟨ob, off, rfl, oblt, hoc⟩ := H2.out.cells (by omega)
      have HO := hide (H2.out.each k hlt)
      have BR : Hid (Below w.heap.size w wr) := B8.out.trans (hc.below S8.out FO.out)
      have hr := rangeAt_same (hoc k hlt) (BR.out.block ob oblt)
      have NO : Hid (¬ F1.M ob) := fun hx => by
        have h2 := S8.out
        rcases m1 ob hx with h1 | h1
        · have := FO.out ob h1; omega
        · omega
      have LO : Hid (ob < wr.heap.size) := Nat.lt_of_lt_of_le oblt BR.out.size
      have STP : Hid (∀ {w9 : World} {k2 : Nat} {s3 : Ns}, k2 ≤ len + (k + 1) → Mv wr F1 k2 s3 w9 → Mv w8 F (len + (k + 1)) s3 w9) := fun hk2 h9 => mv_step hc e1 m1 r1 hk2 h9
      have STD : Hid (∀ {w9 : World} {k2 : Nat} {s3 : Ns}, k2 ≤ len + (k + 1) → Mv wr.drew F1 k2 s3 w9 → Mv w8 F (len + (k + 1)) s3 w9) := fun hk2 h9 => mv_step hc.drew e1 m1 r1 hk2 h9
      have CK := hide hn1
      have E1 := hide e1
      generalize os2 k = o at *
      obtain ⟨kind, x, y, ka, kl, kc, ks⟩ := o
      obtain ⟨o0, o1, o2, o3⟩ := opc_cells hr
      have i1 : (k : Int) < (len2 : Int) := by omega
      have i2 : (0 : Int) ≤ (k : Int) := by omega
      have KM : Hid (len + k < maxLen) := by show _ < _; unfold maxLen; omega
      clear hr hoc oblt hc hn1 e1 m1 r1
      rw [← E1.out]
      by_cases k1 : kind = 1
      · subst k1
        have CS := hide (deliver_any CK.out x)
        go_wp2_with fail
        refine CS.out.mono ?_
        rintro e w9 ⟨p9, rfl, _, hmv⟩
        have MV := hide (STP.out (by omega) hmv.mv)
        clear hmv
        go_wp2_with fail
        go_roundw
        case rel => exact ⟨k + 1, _, by omega, by go_num, MV⟩
        case measure => simp [intOf]; omega
      · have z1 : (kind == 1) = false := by simpa using k1
        by_cases k2 : kind = 2
        · subst k2
          have CS := hide (drop_any CK.out x)
          go_wp2_with fail
          refine CS.out.mono ?_
          rintro e w9 ⟨rfl, hmv⟩
          have MV := hide (STP.out (by omega) hmv.mv)
          clear hmv
          go_wp2_with fail
          go_roundw
          case rel => exact ⟨k + 1, _, by omega, by go_num, MV⟩
          case measure => simp [intOf]; omega
        · have z2 : (kind == 2) = false := by simpa using k2
          by_cases k4 : kind = 4
          · subst k4
            have CS := hide (cut_any CK.out.drew KM.out x y)
            clear k1 k2
            go_wp2_with fail
            go_region_held3 (fun u => u.cell? ⟨ob, off + k * 4 + 1, none⟩ = some (.int .i64 x) ∧ u.cell? ⟨ob, off + k * 4 + 2, none⟩ = some (.int .i64 y)) (first | go_keep | exact ⟨o1, o2⟩ | exact ⟨q1, q2⟩) ((first | (go_at_call 13; refine CS.out.mono ?_; rintro e w9 ⟨rfl, hmv⟩; have MV := hide (STD.out (by omega) hmv); have q0 := hmv.1.block ob LO.out NO.out; have q1 : w9.cell? ⟨ob, off + k * 4 + 1, none⟩ = some (.int .i64 x) := (World.cell?_of_block (a := ⟨ob, off + k * 4 + 1, none⟩) q0).trans o1; have q2 : w9.cell? ⟨ob, off + k * 4 + 2, none⟩ = some (.int .i64 y) := (World.cell?_of_block (a := ⟨ob, off + k * 4 + 2, none⟩) q0).trans o2; clear hmv q0)))
            go_wp2_with fail
            go_roundw
            case rel => exact ⟨k + 1, _, by omega, by go_num, MV⟩
            case measure => simp [intOf]; omega
          · have z4 : (kind == 4) = false := by simpa using k4
            have CS := hide (send_any CK.out.drew x y (HO.out.q.below BR.out.drew))
            clear k1 k2 k4
            go_wp2_with fail
            go_region_held3 (fun u => u.cell? ⟨ob, off + k * 4 + 1, none⟩ = some (.int .i64 x) ∧ u.cell? ⟨ob, off + k * 4 + 2, none⟩ = some (.int .i64 y) ∧ u.cell? ⟨ob, off + k * 4 + 3, none⟩ = some (.slice ka kl kc)) (first | go_keep | exact ⟨o1, o2, o3⟩ | exact ⟨q1, q2, q3⟩) ((first | (go_at_call 14; refine CS.out.mono ?_; rintro e w9 ⟨rfl, hmv⟩; have MV := hide (STD.out (by omega) hmv); have q0 := hmv.1.block ob LO.out NO.out; have q1 : w9.cell? ⟨ob, off + k * 4 + 1, none⟩ = some (.int .i64 x) := (World.cell?_of_block (a := ⟨ob, off + k * 4 + 1, none⟩) q0).trans o1; have q2 : w9.cell? ⟨ob, off + k * 4 + 2, none⟩ = some (.int .i64 y) := (World.cell?_of_block (a := ⟨ob, off + k * 4 + 2, none⟩) q0).trans o2; have q3 : w9.cell? ⟨ob, off + k * 4 + 3, none⟩ = some (.slice ka kl kc) := (World.cell?_of_block (a := ⟨ob, off + k * 4 + 3, none⟩) q0).trans o3; clear hmv q0)))
            go_wp2_with fail
            go_roundw
            case rel => exact ⟨k + 1, _, by omega, by go_num, MV⟩
            case measure => simp [intOf]; omega
    · obtain rfl : k = len2 := by omega
      obtain ⟨hc, F1, hn1, e1, m1, r1⟩ := HM.out
      have K9 := hide (K8.out.far hc KF.out)
      have B9 : Hid (Below w.heap.size w wr) := B8.out.trans (hc.below S8.out FO.out)
      have C9 := hide (C8.out.far hc (fun k hk hf => by have h1 := LC.out k hk; have h2 := NF.out k (.inl hf); omega))
      have S9 : Hid (w8.heap.size ≤ wr.heap.size) := hc.size
      obtain ⟨w9, e9⟩ : ∃ w9, w9 = wr := ⟨_, rfl⟩
      subst e9
      clear hc hn1 e1 m1 r1 HM hlt hk
      go_wp2_with fail
      refine (list_net C9.out).mono ?_
      rintro e w10 ⟨aa, ac, l3, rfl, hr10, hm10, ho10, hb10⟩
      have K10 := hide (K9.out.below hb10)
      have B10 := hide (below_step B9.out hb10)
      have C10 := hide (C9.out.below hb10)
      have y10 := K10.out.bb.cell
      have PL := hide (same_pk (cp := ac) (cp' := lc) (own_lst hr10 hm10 ho10 OK.out) (own_lst K10.out.bf M4.out K10.out.own OK.out) hm (hm10.trans M4.out.symm))
      have NL := hide (own_lst hr10 hm10 ho10 OK.out).short
      have R10 := hide hr10
      have O10 := hide ho10
      clear hr10 hm10 ho10 hb10 B9 C9 K9
      go_wp2_with fail
      refine PL.out.mono ?_
      rintro e w11 ⟨rfl, hb11⟩
      have K11 := hide (K10.out.below hb11)
      have B11 := hide (below_step B10.out hb11)
      have C11 := hide (C10.out.below hb11)
      have R11 : Hid (w11.ownsRow w9.heap.size 33 3 (.slice aa L.m ac) L.m (pcells l3)) := row_same R10.out (fun k hk => hb11.block k (R10.out.lt k hk).2)
      have O11 : Hid (∀ p ∈ l3, Own1 w11 w9.heap.size p) := fun p hp => (O10.out p hp).same (fun k cs hk => (hb11.block k (Array.getElem?_eq_some_iff.1 hk).1).trans hk)
      have CD := hide (drop_any C11.out 0)
      clear hb11 PL y10 B10 C10 K10 R10 O10
      go_wp2_with fail
      refine CD.out.mono ?_
      rintro e w12 ⟨rfl, hmv⟩
      have hc := hmv.1
      have LX : ∀ k, w9.heap.size ≤ k → ¬ L.M k := fun k hk hl => by have f1 := LC.out k (.inl hl); have f2 := S28.out; have f3 := S9.out; omega
      have K12 := hide (K11.out.far hc KL.out)
      have B12 : Hid (Below w.heap.size w w12) := B11.out.trans (hc.below B11.out.size (fun k hk => Nat.le_of_lt (LM.out k hk)))
      have R12 : Hid (w12.ownsRow w9.heap.size 33 3 (.slice aa L.m ac) L.m (pcells l3)) := row_same R11.out (fun k hk => hc.block k (R11.out.lt k hk).2 (LX k (R11.out.lt k hk).1))
      have O12 : Hid (∀ p ∈ l3, Own1 w12 w9.heap.size p) := fun p hp => by
        obtain ⟨g, e, e2, ho, hg⟩ := O11.out p hp
        exact ⟨g, e, e2, ⟨(hc.block g (Array.getElem?_eq_some_iff.1 ho.row).1 (LX g hg)).trans ho.row, ho.len, ho.wf⟩, hg⟩
      have I0 := hide (BodI.start O12.out)
      have LN := hide (row_len R12.out)
      have NB : Hid (∀ p ∈ l3, p.n ≤ 16384) := fun p hp => (NL.out p hp)
      clear hmv hc LX B11 C11 K11 R11 O11 CD
      go_wp2_with fail
      go_loopw [17, 18] (fun i _ wq => ∃ (k : Nat), k ≤ L.m ∧ i = .int .i64 k ∧ Hid (BodI w12 wq l3)) (fun i _ _ => L.m - (intOf i).toNat)
      case atStart => exact ⟨0, Nat.zero_le _, rfl, I0⟩
      case round =>
        obtain ⟨k, hk, rfl, HI⟩ := hrel
        by_cases hlt : k < L.m
        · have hkl : k < l3.length := by have := LN.out; omega
          obtain ⟨p, hp⟩ : ∃ p, l3[k]? = some p := ⟨l3[k], by simp [hkl]⟩
          have hpm : p ∈ l3 := List.mem_of_getElem? hp
          have PM := hide hpm
          have PA := hide hp
          have hn := NB.out p hpm
          have i1 : (k : Int) < (L.m : Int) := by omega
          have i2 : (0 : Int) ≤ (k : Int) := by omega
          clear hkl hp hpm
          go_wp2_with fail
          go_loopw [18] (fun j wq => ∃ (t : Nat), t ≤ p.n ∧ j = .int .i64 t ∧ Hid (BodI w12 wq l3)) (fun j _ => p.n - (intOf j).toNat)
          case atStart => exact ⟨0, Nat.zero_le _, rfl, HI⟩
          case round =>
            clear HI
            obtain ⟨t, ht, rfl, HI⟩ := hrel
            obtain ⟨ga, ea, _, _, k2⟩ := row_at (HI.out.row I0.out R12.out) PA.out hlt
            obtain ⟨gb, cs, eb, hbk, hcs, _⟩ := HI.out.bod p PM.out
            rw [eb] at k2
            by_cases hlt2 : t < p.n
            · obtain ⟨⟨v0, cb⟩, fb⟩ := body_cell hbk (j := t) (by omega)
              have WR := hide (HI.out.write PM.out eb t (.int .u8 99))
              have j1 : (t : Int) < (p.n : Int) := by omega
              have j2 : (0 : Int) ≤ (t : Int) := by omega
              subst ea
              clear hbk hcs eb
              go_wp2_with fail
              go_roundw
              case rel => exact ⟨t + 1, by omega, by go_num, WR⟩
              case measure => simp [intOf]; omega
            · obtain rfl : t = p.n := by omega
              subst ea
              clear hbk hcs eb hlt2 ht
              go_wp2_with fail
              go_roundw
              case rel => exact ⟨k + 1, by omega, by go_num, HI⟩
              case measure => simp [intOf]; omega
        · obtain rfl : k = L.m := by omega
          clear hlt hk
          have K13 : Hid (Keep wr w3.heap.size w7.heap.size w.heap.size Bb Bs L.m la lc l1 L.l v) := K12.out.far HI.out.chg (fun j hj ⟨p, hp, ad, e, ek⟩ => by
            obtain ⟨g, e2, _, _, hg⟩ := O12.out p hp
            rw [e2] at e
            obtain rfl := Option.some.inj e
            have f1 := K8.out.lt hj
            have f2 := S9.out
            have f3 : g = j := ek
            omega)
          have B13 : Hid (Below w.heap.size w wr) := B12.out.trans (HI.out.chg.below B12.out.size (fun j ⟨p, hp, ad, e, ek⟩ => by
            obtain ⟨g, e2, _, _, hg⟩ := O12.out p hp
            rw [e2] at e
            obtain rfl := Option.some.inj e
            have f1 := S8.out
            have f2 := S9.out
            have f3 : g = j := ek
            omega))
          obtain ⟨w13, e13⟩ : ∃ w13, w13 = wr := ⟨_, rfl⟩
          subst e13
          obtain ⟨Kb, eK⟩ : ∃ Kb, Kb = w13.heap.size := ⟨_, rfl⟩
          obtain ⟨w14, e14⟩ : ∃ w14, w14 = w13.alloc (.cells #[.int .i64 0] 3) := ⟨_, rfl⟩
          have b14 : Below w13.heap.size w13 w14 := by rw [e14]; exact below_alloc (Below.refl _ _) _
          have Z14 : Hid (Boxed w14 Kb 3 (.int .i64 0)) := by rw [e14, eK]; exact Boxed.new _ _ _
          have K14 := hide (K13.out.below b14)
          have B14 := hide (below_step B13.out b14)
          have KBL : Hid (∀ j, KB w.heap.size Bb Bs L.m la lc l1 L.l v j → j < Kb) := fun j hj => by rw [eK]; exact K13.out.lt hj
          have WK : Hid (w.heap.size ≤ Kb) := by rw [eK]; exact B13.out.size
          have hw : Hid (w.heap.size ≤ w14.heap.size) := B14.out.size
          have hbd : Hid (∀ p ∈ L.l, p.n ≤ 16384) := fun p hp => by
            have h1 := OK.out.body p.pk (by rw [C8.out.ps]; exact List.mem_map.2 ⟨p, hp, rfl⟩)
            have h2 := (C8.out.ins p hp).1.length
            have h3 : p.b.length ≤ 16384 := h1
            omega
          have MP : Hid (l1.map Pv.pk = L.l.map Pv.pk) := M4.out.trans C8.out.ps
          clear b14 HI I0 O12 R12 K12 B12 K13 B13
          go_wp2_with fail
          rw [← e14, ← eK]
          clear e14 eK
          refine (wpIn_wide (n := 9)).1 (range_own (gf := 23) (lb := #[.pointer (some ⟨Bs, 0, none⟩)]) rfl (enters_of Try.func23 (by kernel_rfl) rfl) L.m (IterK Bs v L.l) (fun k hk => K14.out.it.ltK hk) (RI w w14 w3.heap.size Kb w.heap.size Bb L.m la lc l1) (Comes w.heap.size L.l)
            (fun k W W' h hs => h.soft hs hw.out)
            (fun l J hJ hY W hW hj => all2_in (9 - 1) l w7.heap.size w.heap.size Bs L.m hm hbd.out J hJ hY W (K14.out.it.below hW) (Nat.le_trans hw.out hW.size) hj)
            ⟨Z14.out, K14.out.x, K14.out.bb, K14.out.bf, K14.out.own, B14.out, Nat.le_refl _⟩ ?round ?done)
          case round =>
            rintro l k args W hl hk hi2 ⟨p, g0, hp, rfl, ho, hg⟩
            refine ⟨rfl, ?_⟩
            gi_wp2
            have lt0 : ∀ j, IterK Bs v L.l j → j < W.heap.size := fun j hj => Nat.lt_of_lt_of_le (K14.out.it.ltK hj) hi2.big
            refine ⟨(KeepsOthers.alloc _ _).from _, keepK_below lt0 (below_alloc (Below.refl _ _) _), fun W2 hs => ?_⟩
            have S1 : Soft w14.heap.size W W2 := (Soft.of_below (below_alloc (Below.refl _ _) _)).trans hs
            have P2 := hide (hs.same _ _ (heap_alloc_new W _) (.inr rfl))
            have i2 := hi2.soft S1 hw.out
            have Q2 : Hid (Own1 W2 w.heap.size ⟨p.f, p.t, some ⟨g0, 0, none⟩, p.n, p.n, p.b⟩) := ⟨g0, rfl, rfl, ⟨S1.same _ _ ho.row (.inr rfl), ho.len, ho.wf⟩, hg⟩
            obtain ⟨q, hq, eq, hqm⟩ := pk_at MP.out hp
            obtain ⟨g1, eg1, q0, q1, q2⟩ := row_at i2.bf hq hk
            have pn := hbd.out p (List.mem_of_getElem? hp)
            have ED : Hid (decide ((⟨p.f, p.t, some ⟨g0, 0, none⟩, p.n, p.n, p.b⟩ : Pv).pk = q.pk) = true) := by show _ = true; rw [decide_eq_true_iff]; exact eq.symm
            have CO : Hid (∀ W', Below W2.heap.size W2 W' → Calls Try.prog 9 #[.agg #[.int .i64 p.f, .int .i64 p.t, .slice (some ⟨g0, 0, none⟩) p.n p.n], .agg #[.int .i64 q.f, .int .i64 q.t, .slice q.a q.n q.cp]] W' fun e w' => e = .returned (.bool true) ∧ Below W'.heap.size W' w') := fun W' hb' => by
              have := packet_dec (w := W') (p := ⟨p.f, p.t, some ⟨g0, 0, none⟩, p.n, p.n, p.b⟩) (q := q) (Q2.out.ins.below hb').1 ((i2.own q hqm).ins.below hb').1 (by show p.n ≤ _; omega)
              rw [ED.out] at this
              exact this
            have ck := i2.kb.cell
            have cb := i2.bb.cell
            have p0 : W2.cell? ⟨W.heap.size, 0, none⟩ = some (.int .i64 p.f) := by rw [cell_of_row W2 _ 0 _ _ _ P2.out]; rfl
            have p1 : W2.cell? ⟨W.heap.size, 1, none⟩ = some (.int .i64 p.t) := by rw [cell_of_row W2 _ 1 _ _ _ P2.out]; rfl
            have p2 : W2.cell? ⟨W.heap.size, 2, none⟩ = some (.slice (some ⟨g0, 0, none⟩) p.n p.n) := by rw [cell_of_row W2 _ 2 _ _ _ P2.out]; rfl
            have I2 := hide i2
            have KL2 : Hid (Kb < W2.heap.size) := i2.kb.lt
            have k1 : (k : Int) < (L.m : Int) := by omega
            have k2 : (0 : Int) ≤ (k : Int) := by omega
            have k3 : IntKind.i64.wrap ((k : Int) + 1) = (k : Int) + 1 := by rw [IntKind.wrap_i64]; omega
            have k4 : ¬ ((L.m : Int) ≤ (k : Int)) := by omega
            have k5 : ((L.m : Int) ≤ (k : Int)) = False := by simpa using hk
            have k6 : ¬ (L.m ≤ k) := by omega
            have k7 : (L.m ≤ k) = False := by simpa using hk
            subst eg1
            clear i2 hi2 hp ho hg hs S1 P2 hq eq hqm Q2 ED
            gi_wp2
            refine region_round W2 [(⟨Kb, 0, none⟩, .int .i64 k), (⟨Bb, 0, none⟩, .slice (some ⟨g1, 0, none⟩) L.m lc), (⟨W.heap.size, 0, none⟩, .int .i64 p.f), (⟨W.heap.size, 1, none⟩, .int .i64 p.t), (⟨W.heap.size, 2, none⟩, .slice (some ⟨g0, 0, none⟩) p.n p.n), (⟨g1, k * 3, none⟩, .int .i64 q.f), (⟨g1, k * 3 + 1, none⟩, .int .i64 q.t), (⟨g1, k * 3 + 2, none⟩, .slice q.a q.n q.cp)] (by kernel_rfl) (by kernel_rfl) (by kernel_rfl) (by rintro ⟨_, _, hx⟩; exact absurd hx.1 (by simp)) (Below.refl _ _) (by simp [AllCells, ck, cb, p0, p1, p2, q0, q1, q2]) ?_
            intro hne qq
            simp only [AllCells, and_true] at qq
            repeat (go_big_quiet_step (first | (go_at_call 9; exact Held.call _ (CO.out _ (Held.below _)))))
            refine wpQuiet_nil ?_
            rintro _ ⟨y, rfl⟩
            have NX := hide (I2.out.next y.below KBL.out WK.out)
            have kk3 : Boxed y.x Kb 3 (.int .i64 k) := (y.below.block _ KL2.out).trans I2.out.kb
            have ck3 := kk3.cell
            have fk3 := kk3.frozen
            obtain ⟨W3, eW⟩ : ∃ W3, W3 = y.x := ⟨_, rfl⟩
            rw [← eW] at NX ck3 fk3 ⊢
            clear kk3 qq hne eW CO ck cb p0 p1 p2 q0 q1 q2
            gi_wp2
            exact NX.out
          case done =>
            intro D W hD hi2 hK
            have c0 := hi2.kb.cell
            have c1 := hi2.bb.cell
            have c2 := hi2.x.cell
            have f2 := hi2.x.frozen
            have HI := hide hi2
            have HD := hide hD
            have HKK := hide hK
            clear hi2 hK hD
            dsimp only
            go_wp2_with fail
            have hd := HD.out
            have hw' := hw.out
            have K5 : Hid ((W.setCell ⟨w.heap.size, 0, none⟩ (.bool true)).heap[D]? = some (.deferred (some []))) := by
              have n0 : D ≠ w.heap.size := fun e => by have := HKK.out; rw [e, show W.heap[w.heap.size]? = _ from HI.out.x] at this; cases this
              exact (Below.heap_setCell _ _ _ _ n0).trans HKK.out
            have b0' : Hid (Boxed (W.setCell ⟨w.heap.size, 0, none⟩ (.bool true)) w.heap.size 4 (.bool true)) := HI.out.x.set _
            have b2' : Hid (Below w.heap.size W (W.setCell ⟨w.heap.size, 0, none⟩ (.bool true))) := (Below.refl w.heap.size W).setCell (p := ⟨w.heap.size, 0, none⟩) (Nat.le_refl _) _
            refine ⟨by simp, .inl ⟨_, _, rfl, run_takeDeferred K5.out, ?_⟩⟩
            refine ⟨_, results_cell rfl _ _ w.heap.size (.bool true) rfl (run_loadVar_box (boxed_put b0'.out K5.out rfl _) Try.underlying4 rfl), rfl, ?_⟩
            exact (HI.out.below.trans b2'.out).trans ((Below.refl _ _).grown (grownBy_putObj' _ D _) (by have := (Array.getElem?_eq_some_iff.1 K5.out).1; have := HI.out.below.size; have := b2'.out.size; omega) (fun k e => by cases e; omega))
theorem walk {w : World} {a a2 : Option Addr} {len len2 cap cap2 : Nat} {os os2 : Nat → Opd} (h : Ops w a len os) (h2 : Ops w a2 len2 os2) (b : Int) :
    Calls Try.prog 3 #[.int .i64 b, .slice a len cap, .slice a2 len2 cap2] w fun e w' => e = .returned (.bool true) ∧ Below w.heap.size w w' :=
  walkF (fun _ _ _ _ hn => fork_net hn) h h2 b

set_option maxRecDepth 100000 in
theorem lifted (os : Os) (started : os.Started) (H : Type) (enc : TypeId × Value → H) :
    ReturnsInHanded {} Try.checked os 3 .any (Rows.netForksSpec.pre6 enc Try.prog Try.f3 Rows.netForksRow.domain false) (Rows.netForksSpec.post enc Try.prog Try.f3 false true false false) := by
  refine returnsInHanded_of_change_sized (C := Try.checked) own started (by kernel_rfl) Try.func3
    (ChangeSpec.witness6 (enc := enc) (C := Try.checked) false ⟨#[], #[.int .i64 0, .slice none 0 0, .slice none 0 0], []⟩ 8 (by kernel_rfl) (by kernel_rfl) (by kernel_rfl) (by kernel_rfl)) ?_
  intro W base args ds gs before hval0 hW hcnd hsz0 _
  have hsz : (DataW.weightsEach Try.prog (Try.f3.params.toList ++ Rows.netForksSpec.plain.varTypes Try.prog) (ds ++ gs)).all (· ≤ reachBytes) = true := hsz0
  have hval : ∀ (j : Nat) t v, Try.f3.params[j]? = some t → args[j]? = some v → Value.okWide Try.prog W .any base t v := hval0
  have hW' := hW
  obtain ⟨p, q, hA0, hV, rfl, hfz, hnd⟩ := hW
  have hA : DataW.TrodAll enc Try.prog W 0 (fun _ => true) true Try.f3.params.toList args.toList ds p := hA0
  rw [Try.params3] at hA hval hsz
  obtain ⟨v0, vs0, d0, ds0, p0, q0, hargs, rfl, rfl, h0, r0⟩ := trodAll_cons hA
  obtain ⟨v1, vs1, d1, ds1, p1, q1, rfl, rfl, rfl, h1, r1⟩ := trodAll_cons r0
  obtain ⟨v2, vs2, d2, ds2, p2, q2, rfl, rfl, rfl, h2, r2⟩ := trodAll_cons r1
  obtain ⟨rfl, rfl, rfl⟩ := trodAll_nil r2
  obtain rfl : args = #[v0, v1, v2] := by cases args; simp_all
  obtain ⟨rfl, rfl⟩ := trodVars_none hV
  have lt0 : ∀ x ∈ p0, x.block < W.heap.size := by obtain ⟨m, hm⟩ := h0; exact DataW.trod_lt m _ _ _ hm
  obtain ⟨b, rfl, bb⟩ := open_i64 (hval 0 3 v0 rfl rfl) h0
  have lt1 : ∀ x ∈ p1, x.block < W.heap.size := by obtain ⟨m, hm⟩ := h1; exact DataW.trod_lt m _ _ _ hm
  obtain ⟨a, len, cap, os, rfl, ho⟩ := open_ops_held (hval 1 22 v1 rfl rfl) h1 (fun n hn => by have h := List.all_eq_true.1 hsz n (DataW.weights_mem_each (j := 1) rfl rfl n hn); simpa using h)
  have lt2 : ∀ x ∈ p2, x.block < W.heap.size := by obtain ⟨m, hm⟩ := h2; exact DataW.trod_lt m _ _ _ hm
  obtain ⟨a2, len2, cap2, os2, rfl, ho2⟩ := open_ops_held (hval 2 22 v2 rfl rfl) h2 (fun n hn => by have h := List.all_eq_true.1 hsz n (DataW.weights_mem_each (j := 2) rfl rfl n hn); simpa using h)
  clear hA0 hval0
  refine (walk ho ho2 b).mono fun e W' ⟨he, bel⟩ => ?_
  subst he
  exact ⟨_, rfl, _, _, _, [], _, [], hW', trodAll_mk1 (shut_bool Try.underlying4 _), (trodAll_cons_mk (Below.trod laidOut (by kernel_rfl) (of_decide_eq_true (by kernel_rfl)) h0 bel lt0) (trodAll_cons_mk (Below.trod laidOut (by kernel_rfl) (of_decide_eq_true (by kernel_rfl)) h1 bel lt1) (trodAll_cons_mk (Below.trod laidOut (by kernel_rfl) (of_decide_eq_true (by kernel_rfl)) h2 bel lt2) trodAll_mk0))), rfl, bel.frame _, fun h => by cases h⟩

theorem over : Rows.netForksRow.holds Try.pinned (OpenSpec.ofChange Rows.netForksSpec) :=
  OpenClaim.holds_of_wide 3 Try.f3 rfl rfl rfl rfl rfl rfl rfl ⟨rfl, rfl, rfl, rfl, rfl⟩ rfl rfl rfl rfl rfl (by kernel_rfl) Try.func3 (by kernel_rfl)
    (of_decide_eq_true (by kernel_rfl)) (by unfold Func.isWrapper; first | (rw [if_pos (by decide +kernel)]; kernel_rfl) | (rw [if_neg (by decide +kernel)]; exact ⟨rfl, rfl⟩))
    (fun os started H enc _ => lifted os started H enc)

theorem proved : Rows.NetForksSaid := over
#print axioms proved
end NetForks
theorem netForks_holds : Rows.NetForksSaid := NetForks.proved
end Go.Proofs.Ytjbonklgklldmaa
