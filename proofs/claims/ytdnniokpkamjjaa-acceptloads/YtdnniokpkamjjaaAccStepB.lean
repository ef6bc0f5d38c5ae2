/- The law folder's step: Forget and Accept on both acceptors. No condition. -/
import Derived.Test.YtdnniokpkamjjaaAccStep
namespace Go.Proofs.Ytdnniokpkamjjaa
open Go.ChangeShapes Go.WideShapes Go.ChangeAt Go.RowKit B8 Am
set_option linter.unusedVariables false

set_option maxRecDepth 100000 in
set_option maxHeartbeats 2000000 in
theorem step_forget {w : World} {N : Nat} {P Q : Nat → Prop} {A mb R : Nat} {s : As} (h : Half w N P Q A mb R s s) (hN : N ≤ w.heap.size) (v : Vv) :
    Calls Try.prog 12 #[.pointer (some ⟨A, 0, none⟩), .pointer (some ⟨R, 0, none⟩), .agg #[.int .i64 2, .int .i64 v.s, .int .i64 v.r, .int .i64 v.n, .slice v.a v.m v.cp]] w fun e w' => e = .returned (.bool true) ∧ Below N w w' ∧ Half w' N P Q A mb R (forgS s v.s) (forgS s v.s) := by
  obtain ⟨K, eK⟩ : ∃ K, K = w.heap.size := ⟨_, rfl⟩
  obtain ⟨u, eu⟩ : ∃ u, u = w.alloc (.cells #[.int .i64 2, .int .i64 v.s, .int .i64 v.r, .int .i64 v.n, .slice v.a v.m v.cp] 33) := ⟨_, rfl⟩
  have BU : Hid (Below w.heap.size w u) := by rw [eu]; exact below_alloc (Below.refl _ _) _
  have X : Hid (V5 u K 2 v) := by rw [eu, eK]; exact v5_new w 2 v
  have H := hide (h.below BU.out)
  have HD : Hid (Half u.drew N P Q A mb R s s) := by
    obtain ⟨a, m, c, l, hr⟩ := H.out.rf
    exact ⟨⟨H.out.an.ac.drew, H.out.an.hA, H.out.an.hM⟩, ⟨a, m, c, l, hr.drew⟩, H.out.hR⟩
  have NU : Hid (N ≤ u.drew.heap.size) := Nat.le_trans hN BU.out.size
  have NK : Hid (¬ AM A mb K) := fun hk => by have := h.an.ac.lt K hk; omega
  have RK : Hid (K ≠ R) := fun e => by obtain ⟨a, m, c, l, hr⟩ := h.rf; have := hr.ltR; omega
  have BN : Hid (Below N w u) := BU.out.mono hN
  have EU := hide eu
  have EK := hide eK
  obtain ⟨x0, x1, x2, x3, x4⟩ := X.out
  clear h eu eK
  go_enter Try.func12, Try.ntmps12
  go_wp2_with fail
  rw [← EU.out, ← EK.out]
  go_wp2_with fail
  go_region_held3 (fun y => y.cell? ⟨K, 1, none⟩ = some (.int .i64 v.s)) (first | go_keep | exact x1 | exact y1 | exact z1) ((first
    | (go_at_call 22; refine (forget_any HD.out.an.ac v.s).mono ?_; rintro e w1 ⟨rfl, hm1⟩; have H1 := hide (HD.out.landed NU.out hm1); have y1 : w1.cell? ⟨K, 1, none⟩ = some (.int .i64 v.s) := (X.out.chg (u := u.drew) hm1.1 NK.out).2.1; have S1 : Hid (N ≤ w1.heap.size) := Nat.le_trans NU.out hm1.1.size; clear hm1)
    | (go_at_call 29; refine (rforget_any H1.out.1.rf v.s).mono ?_; rintro e w2 ⟨rfl, hm2⟩; have H2 := hide (H1.out.1.docs S1.out hm2); have z1 : w2.cell? ⟨K, 1, none⟩ = some (.int .i64 v.s) := (World.cell?_of_block (a := ⟨K, 1, none⟩) (hm2.1.block K (World.block_lt_of_cell? _ _ y1) RK.out)).trans y1; clear hm2)))
  all_goals (go_wp2_with fail; go_ret; exact ⟨by simp, BN.out.trans ((Below.refl _ _).drew.trans (H1.out.2.trans H2.out.2)), H2.out.1⟩)
set_option maxRecDepth 100000 in
set_option maxHeartbeats 4000000 in
theorem step_acc {w : World} {N : Nat} {P Q : Nat → Prop} {A mb R : Nat} {s : As} (h : Half w N P Q A mb R s s) (hN : N ≤ w.heap.size) (hP : ∀ k, w.heap.size ≤ k → P k) (hQ : ∀ k, w.heap.size ≤ k → ¬ Q k) (kind : Int) (k1 : kind ≠ 1) (k2 : kind ≠ 2) (v : Vv) (hv : VOk w v) (hvQ : v.In w Q) :
    Calls Try.prog 12 #[.pointer (some ⟨A, 0, none⟩), .pointer (some ⟨R, 0, none⟩), .agg #[.int .i64 kind, .int .i64 v.s, .int .i64 v.r, .int .i64 v.n, .slice v.a v.m v.cp]] w fun e w' => e = .returned (.bool true) ∧ Below N w w' ∧ Half w' N P Q A mb R (accS s v.vt) (accS s v.vt) := by
  obtain ⟨K, eK⟩ : ∃ K, K = w.heap.size := ⟨_, rfl⟩
  obtain ⟨u, eu⟩ : ∃ u, u = w.alloc (.cells #[.int .i64 kind, .int .i64 v.s, .int .i64 v.r, .int .i64 v.n, .slice v.a v.m v.cp] 33) := ⟨_, rfl⟩
  have BU : Hid (Below w.heap.size w u) := by rw [eu]; exact below_alloc (Below.refl _ _) _
  have X : Hid (V5 u K kind v) := by rw [eu, eK]; exact v5_new w kind v
  have SU : Hid (u.heap.size = K + 1) := by show _ = _; rw [eu, eK]; simp
  have H := hide (h.below BU.out)
  have NK : Hid (∀ k, AM A mb k → k < K) := fun k hk => by have := h.an.ac.lt k hk; omega
  have RK : Hid (R < K) := by obtain ⟨a, m, c, l, hr⟩ := h.rf; have := hr.ltR; show _ < _; omega
  have NN : Hid (N ≤ K) := by show _ ≤ _; omega
  have HP : Hid (∀ k, K ≤ k → P k) := by rw [eK]; exact hP
  have HQ : Hid (∀ k, K ≤ k → ¬ Q k) := by rw [eK]; exact hQ
  have BN : Hid (Below K w u) := by rw [eK]; exact BU.out
  have HV := hide hv
  have VQ := hide hvQ
  have z1 : (kind == 1) = false := by simpa using k1
  have z2 : (kind == 2) = false := by simpa using k2
  have EU := hide eu
  have EK := hide eK
  obtain ⟨x0, x1, x2, x3, x4⟩ := X.out
  clear h eu eK hP hQ hv hvQ k1 k2 hN
  go_enter Try.func12, Try.ntmps12
  go_wp2_with fail
  rw [← EU.out, ← EK.out]
  go_wp2_with fail
  refine (vote_any kind v _).mono ?_
  rintro e w1 ⟨rfl, hb1⟩
  have B1 := hide hb1
  obtain ⟨V, eV⟩ : ∃ V, V = w1.heap.size := ⟨_, rfl⟩
  obtain ⟨w2, e2⟩ : ∃ w2, w2 = w1.alloc (.cells #[.int .i64 v.s, .int .i64 v.r, .int .i64 v.n, .slice v.a v.m v.cp] 48) := ⟨_, rfl⟩
  have B2 : Hid (Below w1.heap.size w1 w2) := by rw [e2]; exact below_alloc (Below.refl _ _) _
  have Y2 : Hid (V4 w2 V v) := by rw [e2, eV]; exact v4_new w1 v
  have F2 : Hid (∀ o, w2.frozen? ⟨V, o, none⟩ = false) := fun o => by rw [e2, eV]; unfold World.frozen?; rw [heap_alloc_new]; simp
  have KV : Hid (K < V) := by show _ < _; have := hb1.size; have := SU.out; omega
  have E2 := hide e2
  have EV := hide eV
  have H1 := hide (H.out.below hb1)
  have X1 := hide (X.out.below hb1)
  have X2 := hide (X1.out.below B2.out)
  clear e2 eV hb1 x0 x1 x2 x3 x4
  go_upto_region 9 with fail
  rw [← E2.out, ← EV.out]
  obtain ⟨x0, x1, x2, x3, x4⟩ := X2.out
  have Q2 : Hid (Sq w2 v.a v.m v.cp v.b) := ((HV.out.q.below BU.out).below B1.out).below B2.out
  have VR : Hid (v.m * 1 ≤ 140737488351232) := by show _ ≤ _; have := HV.out.room; have := HV.out.q.lecap; omega
  go_wp2_with fail
  refine (own_sq 71 Q2.out VR.out).mono ?_
  rintro e w3 ⟨rfl, hb3, hr3⟩
  obtain ⟨G, eG⟩ : ∃ G, G = w2.heap.size := ⟨_, rfl⟩
  rw [← eG] at hb3 hr3 ⊢
  have B3 : Hid (Below G w2 w3) := hb3
  have VG : Hid (V < G) := by rw [eG]; exact World.block_lt_of_cell? _ _ Y2.out.1
  have Y3 : Hid (V4 w3 V v) := Y2.out.below (by rw [← eG]; exact hb3)
  have FV : ∀ o, w3.frozen? ⟨V, o, none⟩ = false := fun o => (hb3.frozen (p := ⟨V, o, none⟩) VG.out).trans (F2.out o)
  obtain ⟨y0, y1, y2, y3⟩ := Y3.out
  obtain ⟨w4, e4⟩ : ∃ w4, w4 = w3.setCell ⟨V, 3, none⟩ (.slice (some ⟨G, 0, none⟩) v.m (v.m + 2)) := ⟨_, rfl⟩
  have E4 := hide e4
  have EG := hide eG
  have B14 : Hid (Below w1.heap.size w1 w4) := by
    rw [e4]
    exact (B2.out.trans (hb3.mono (by rw [eG]; exact B2.out.size))).setCell (p := ⟨V, 3, none⟩) (by rw [EV.out]; exact Nat.le_refl _) _
  have R3 := hide hr3
  have GC : Hid (∃ cs, w4.heap[G]? = some (.cells cs 5 (0, 0)) ∧ v.m ≤ cs.size) := by
    obtain ⟨_, ⟨e, _⟩ | ⟨g, cp, cur, e, _, hg, hle, _, hsz, _⟩⟩ := hr3
    · cases e
    · obtain ⟨rfl, rfl⟩ : G = g ∧ v.m + 2 = cp := by simpa using e
      refine ⟨cur, ?_, by omega⟩
      rw [e4, Below.heap_setCell _ _ _ _ (by show G ≠ V; have := VG.out; omega)]
      exact hg
  have SG : Hid (Sq w4 (some ⟨G, 0, none⟩) v.m (v.m + 2) v.b ∧ w4.cell? ⟨G, v.m, none⟩ = some (.int .u8 71) ∧ w4.cell? ⟨G, v.m + 1, none⟩ = some (.int .u8 71)) := by
    obtain ⟨q1, q2, q3⟩ := sq_own HV.out.q.length HV.out.q.wf hr3
    have hG : w4.heap[G]? = w3.heap[G]? := by rw [e4]; exact Below.heap_setCell _ _ _ _ (by show G ≠ V; have := VG.out; omega)
    have cc : ∀ o, w4.cell? ⟨G, o, none⟩ = w3.cell? ⟨G, o, none⟩ := fun o => World.cell?_of_block (a := ⟨G, o, none⟩) hG
    refine ⟨⟨q1.length, q1.lecap, q1.nil, fun h0 => ?_, q1.wf⟩, (cc _).trans q2, (cc _).trans q3⟩
    obtain ⟨b, off, e, hc⟩ := q1.cells h0
    cases e
    exact ⟨G, 0, rfl, fun j hj => (cc _).trans (hc j hj)⟩
  have Y4 : Hid (V4 w4 V ⟨v.s, v.r, v.n, some ⟨G, 0, none⟩, v.m, v.m + 2, v.b⟩) := by
    rw [e4]
    exact ⟨(World.cell?_setCell_other _ _ _ _ (by simp)).trans y0, (World.cell?_setCell_other _ _ _ _ (by simp)).trans y1, (World.cell?_setCell_other _ _ _ _ (by simp)).trans y2, World.cell?_setCell_same' _ _ _ (by rw [y3]; rfl)⟩
  have S4 : Hid (G < w4.heap.size) := by obtain ⟨cs, hg, _⟩ := GC.out; exact (Array.getElem?_eq_some_iff.1 hg).1
  have H4 : Hid (Half w4 N (fun k => P k ∧ k ≠ G) Q A mb R s s) := (H1.out.mono (fun k hk hl => ⟨hk, fun e => by have := VG.out; have := EV.out; omega⟩)).below B14.out
  have X4 : Hid (V5 w4 K kind v) := X1.out.below B14.out
  have BW4 : Hid (Below K w w4) := (BN.out.trans (B1.out.mono (by have := SU.out; omega))).trans (B14.out.mono (show K ≤ w1.heap.size by have := KV.out; have := EV.out; omega))
  clear e4 eG hb3 hr3 x0 x1 x2 x3 x4 y0 y1 y2 Y2 F2
  go_upto_region 10 with fail
  rw [← E4.out]
  clear y3 FV
  obtain ⟨y0, y1, y2, y3⟩ := Y4.out
  dsimp only at y0 y1 y2 y3
  go_wp2_with fail
  refine (accept_any (p := ⟨v.s, v.r, v.n, some ⟨G, 0, none⟩, v.m, v.m + 2, v.b⟩) H4.out.an.ac (fun k hk => ⟨HP.out k (by have := S4.out; have := VG.out; have := KV.out; omega), fun e => by have := S4.out; omega⟩) SG.out.1).mono ?_
  rintro e w5 ⟨rfl, hm5⟩
  have ev : (⟨v.s, v.r, v.n, some ⟨G, 0, none⟩, v.m, v.m + 2, v.b⟩ : Vv).vt = v.vt := rfl
  rw [ev] at hm5 ⊢
  have NS4 : Hid (N ≤ w4.heap.size) := by show _ ≤ _; have := NN.out; have := S4.out; have := VG.out; have := KV.out; omega
  have H5 := hide (H4.out.landed NS4.out hm5)
  have nK : ∀ k, K ≤ k → ¬ AM A mb k := fun k hk ha => by have := NK.out k ha; omega
  have X5 : Hid (V5 w5 K kind v) := X4.out.chg hm5.1 (nK K (Nat.le_refl _))
  have Y5 : Hid (V4 w5 V ⟨v.s, v.r, v.n, some ⟨G, 0, none⟩, v.m, v.m + 2, v.b⟩) := Y4.out.chg hm5.1 (nK V (by have := KV.out; omega))
  have G5 : Hid (w5.heap[G]? = w4.heap[G]?) := hm5.1.block G S4.out (nK G (by have := KV.out; have := VG.out; omega))
  have V4Q : Hid (v.In w4 Q) := by
    have h1 : v.In w1 Q := (VQ.out.below BU.out).below B1.out
    exact h1.below B14.out
  have V5Q : Hid (v.In w5 Q) := V4Q.out.chg hm5.1 (fun k hk => .inr (H4.out.an.ac.noB k hk))
  have B5 : Hid (Below N w w5) := (BW4.out.mono NN.out).trans H5.out.2
  have S5 : Hid (w4.heap.size ≤ w5.heap.size) := hm5.1.size
  obtain ⟨er, eer⟩ : ∃ er, er = accE s v.vt := ⟨_, rfl⟩
  rw [← eer]
  have ER := hide eer
  clear hm5 ev y0 y1 y2 y3 nK eer
  go_upto_region 11 with fail
  obtain ⟨x0, x1, x2, x3, x4⟩ := X5.out
  go_wp2_with fail
  refine (vote_any kind v _).mono ?_
  rintro e w6 ⟨rfl, hb6⟩
  have H6 := hide (H5.out.1.below hb6)
  have X6 := hide (X5.out.below hb6)
  have Y6 := hide (Y5.out.below hb6)
  have V6Q := hide (V5Q.out.below hb6)
  have G6 : Hid (w6.heap[G]? = w4.heap[G]?) := (hb6.block G (Nat.lt_of_lt_of_le S4.out S5.out)).trans G5.out
  have S6 : Hid (w4.heap.size ≤ w6.heap.size) := Nat.le_trans S5.out hb6.size
  have B6 : Hid (Below N w w6) := B5.out.trans (hb6.mono (Nat.le_trans NS4.out S5.out))
  clear hb6 x0 x1 x2 x3 x4
  go_wp2_with fail
  refine (raccept_any H6.out.rf v V6Q.out HV.out.sw).mono ?_
  rintro e w7 ⟨rfl, hm7⟩
  rw [← ER.out]
  have NS6 : Hid (N ≤ w6.heap.size) := Nat.le_trans NS4.out S6.out
  have H7 := hide (H6.out.docs NS6.out hm7)
  have nR : ∀ k, K ≤ k → ¬ k = R := fun k hk e => by have := RK.out; omega
  have X7 : Hid (V5 w7 K kind v) := X6.out.chg hm7.1 (nR K (Nat.le_refl _))
  have Y7 : Hid (V4 w7 V ⟨v.s, v.r, v.n, some ⟨G, 0, none⟩, v.m, v.m + 2, v.b⟩) := Y6.out.chg hm7.1 (nR V (by have := KV.out; omega))
  have G7 : Hid (w7.heap[G]? = w4.heap[G]?) := (hm7.1.block G (Nat.lt_of_lt_of_le S4.out S6.out) (nR G (by have := KV.out; have := VG.out; omega))).trans G6.out
  have V7Q : Hid (v.In w7 Q) := V6Q.out.chg hm7.1 (fun k hk => by obtain ⟨a, m, c, l, hr⟩ := H6.out.rf; rw [hk]; exact .inr hr.noB)
  have B7 : Hid (Below N w w7) := B6.out.trans H7.out.2
  have c7 : ∀ o, w7.cell? ⟨G, o, none⟩ = w4.cell? ⟨G, o, none⟩ := fun o => World.cell?_of_block (a := ⟨G, o, none⟩) G7.out
  have SQ7 : Sq w7 (some ⟨G, 0, none⟩) v.m (v.m + 2) v.b := by
    obtain ⟨q1, _, _⟩ := SG.out
    refine ⟨q1.length, q1.lecap, q1.nil, fun h0 => ?_, q1.wf⟩
    obtain ⟨b, off, e, hc⟩ := q1.cells h0
    cases e
    exact ⟨G, 0, rfl, fun j hj => (c7 _).trans (hc j hj)⟩
  have CK := hide (kept_sq 71 SQ7 V7Q.out.1 VR.out ((c7 _).trans SG.out.2.1) ((c7 _).trans SG.out.2.2))
  clear hm7 nR c7 SQ7
  obtain ⟨x0, x1, x2, x3, x4⟩ := X7.out
  obtain ⟨y0, y1, y2, y3⟩ := Y7.out
  dsimp only at y0 y1 y2 y3
  go_wp2_with fail
  refine CK.out.mono ?_
  rintro e w8' ⟨rfl, n8, e8⟩
  obtain ⟨w8, e9⟩ : ∃ w8, w8 = w8' := ⟨_, rfl⟩
  rw [← e9] at e8 ⊢
  have H8 : Hid (Half w8 N (fun k => P k ∧ k ≠ G) Q A mb R (accS s v.vt) (accS s v.vt)) := by
    rw [e8]
    obtain ⟨a, m, c, l, hr⟩ := H7.out.1.rf
    exact ⟨⟨H7.out.1.an.ac.drewN _, H7.out.1.an.hA, H7.out.1.an.hM⟩, ⟨a, m, c, l, hr.drewN _⟩, H7.out.1.hR⟩
  have Y8 : Hid (V4 w8 V ⟨v.s, v.r, v.n, some ⟨G, 0, none⟩, v.m, v.m + 2, v.b⟩) := by rw [e8]; exact Y7.out
  have G8 : Hid (∃ cs, w8.heap[G]? = some (.cells cs 5 (0, 0)) ∧ v.m ≤ cs.size) := by
    obtain ⟨cs, hg, hc⟩ := GC.out
    exact ⟨cs, by rw [e8]; exact G7.out.trans hg, hc⟩
  have B8 : Hid (Below N w w8) := by rw [e8]; exact ⟨B7.out.os, B7.out.tape, B7.out.output, B7.out.size, B7.out.block⟩
  clear e8 e9 x0 x1 x2 x3 x4 y0 y1 y2 y3
  have M63 : v.m ≤ 140737488351232 := by have := VR.out; omega
  go_wp2_with fail
  go_loopw [14] (fun i wr => ∃ k : Nat, k ≤ v.m ∧ i = .int .i64 k ∧ Hid (Chg (fun k => k = G) w8 wr) ∧ Hid (∃ cs, wr.heap[G]? = some (.cells cs 5 (0, 0)) ∧ v.m ≤ cs.size)) (fun i _ => v.m - (intOf i).toNat)
  case atStart => exact ⟨0, Nat.zero_le _, rfl, Chg.refl _ _, G8⟩
  case round =>
    obtain ⟨k, hk, rfl, HC, HG⟩ := hrel
    have YR : Hid (V4 wr V ⟨v.s, v.r, v.n, some ⟨G, 0, none⟩, v.m, v.m + 2, v.b⟩) := Y8.out.chg HC.out (fun e => by have := VG.out; omega)
    obtain ⟨y0, y1, y2, y3⟩ := YR.out
    dsimp only at y0 y1 y2 y3
    obtain ⟨cs, hg, hcs⟩ := HG.out
    by_cases hlt : k < v.m
    · have i1 : (k : Int) < (v.m : Int) := by omega
      have i2 : (0 : Int) ≤ (k : Int) := by omega
      obtain ⟨xv, hx⟩ : ∃ xv, wr.cell? ⟨G, k, none⟩ = some xv := ⟨cs[k]'(by omega), by rw [cell_of_row _ _ _ _ _ _ hg]; simp [show k < cs.size by omega]⟩
      have fz : ∀ o, wr.frozen? ⟨G, o, none⟩ = false := fun o => by simp [World.frozen?, hg]
      have C2 : Hid (Chg (fun k => k = G) w8 (wr.setCell ⟨G, k, none⟩ (.int .u8 98))) := HC.out.setCell (p := ⟨G, k, none⟩) (.inl rfl) _
      have G2 : Hid (∃ cs, (wr.setCell ⟨G, k, none⟩ (.int .u8 98)).heap[G]? = some (.cells cs 5 (0, 0)) ∧ v.m ≤ cs.size) := ⟨_, put_row hg, by simpa using hcs⟩
      clear hg
      go_wp2_with fail
      go_roundw
      case rel => exact ⟨k + 1, by omega, by go_num, C2, G2⟩
      case measure => simp [intOf]; omega
    · go_wp2_with fail
      go_ret
      obtain ⟨cs0, hg0, _⟩ := G8.out
      have HW := H8.out.write HC.out hg0 (fun hp => hp.2 rfl) (HQ.out G (by have := KV.out; have := VG.out; omega))
      exact ⟨rfl, B8.out.trans (HC.out.below (Nat.le_trans (by have := NN.out; have := KV.out; show N ≤ V; omega) (Nat.le_of_lt (World.block_lt_of_cell? _ _ Y8.out.1))) (fun k hk => by have := NN.out; have := KV.out; have := VG.out; omega)), HW.mono (fun k hk _ => hk.1)⟩
theorem step_any {w : World} {N : Nat} {P Q : Nat → Prop} {A mb R : Nat} {s : As} (h : Half w N P Q A mb R s s) (hN : N ≤ w.heap.size) (hP : ∀ k, w.heap.size ≤ k → P k) (hQ : ∀ k, w.heap.size ≤ k → ¬ Q k) (kind : Int) (v : Vv) (hv : VOk w v) (hvQ : v.In w Q) :
    Calls Try.prog 12 #[.pointer (some ⟨A, 0, none⟩), .pointer (some ⟨R, 0, none⟩), .agg #[.int .i64 kind, .int .i64 v.s, .int .i64 v.r, .int .i64 v.n, .slice v.a v.m v.cp]] w fun e w' => e = .returned (.bool true) ∧ Below N w w' ∧ Half w' N P Q A mb R (opS s ⟨kind, v⟩) (opS s ⟨kind, v⟩) := by
  unfold opS
  by_cases k1 : kind = 1
  · subst k1
    exact step_prep h hN v
  · by_cases k2 : kind = 2
    · subst k2
      exact step_forget h hN v
    · simp only [k1, k2, if_false]
      exact step_acc h hN hP hQ kind k1 k2 v hv hvQ
end Go.Proofs.Ytdnniokpkamjjaa
