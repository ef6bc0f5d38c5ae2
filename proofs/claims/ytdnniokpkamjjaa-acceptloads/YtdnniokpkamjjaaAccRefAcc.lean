/- The document's acceptor: Accept. No condition. -/
import Derived.Test.YtdnniokpkamjjaaAccRefCalls
import Derived.Test.YtdnniokpkamjjaaAccAccept
import Derived.Deep.Cut
namespace Go.Proofs.Ytdnniokpkamjjaa
open Go.ChangeShapes Go.WideShapes Go.ChangeAt Go.RowKit B8 Am
set_option linter.unusedVariables false

/-- a list behind another -/
theorem vl_cat {w : World} {B : Nat} {P : Nat → Prop} {a a2 : Option Addr} {m c m2 c2 : Nat} {l l2 : List Vv} (h : Vl w B P a m c l) (h2 : Vl w B P a2 m2 c2 l2) (hm : m + m2 ≤ 4000000000000) (hB : B ≤ w.heap.size) (hPB : ∀ k, P k → k < B) (ty : TypeId) :
    ∃ a' c' w', (Builtin.append_ #[35, 35] ty #[.slice a m c, .slice a2 m2 c2]).run Try.prog w = .ok (.slice a' (m + m2) c') w' ∧ Vl w' B P a' (m + m2) c' (l ++ l2) ∧ Below B w w' := by
  obtain ⟨i0, hi, hz0, hz1, hz2⟩ := info_parts voteinfo
  have fin : ∀ v' w', w'.ownsRow B 48 4 v' (m + m2) (vcells (l ++ l2)) → w.grownBy w' (Value.slice a m c).ownBlock → ∃ a' c', v' = .slice a' (m + m2) c' ∧ Vl w' B P a' (m + m2) c' (l ++ l2) ∧ Below B w w' := fun v' w' ho hg => by
    have hc : Chg (fun k => (Value.slice a m c).ownBlock = some k) w w' := (Chg.refl _ _).grown hg (fun k hk => .inl hk)
    have key : ∃ a' c', v' = .slice a' (m + m2) c' := by
      obtain ⟨_, ⟨e, e2⟩ | ⟨g, cp, cur, e, _⟩⟩ := ho
      · exact ⟨none, 0, by rw [e, e2]⟩
      · exact ⟨_, _, e⟩
    obtain ⟨a', c', rfl⟩ := key
    refine ⟨a', c', rfl, ⟨ho, by simp [h.len, h2.len], fun p hp => ?_⟩, hc.below hB (fun k hk => (h.row.lt k hk).1)⟩
    have hin : p.In w P := by
      rcases List.mem_append.1 hp with hp | hp
      · exact h.ins p hp
      · exact h2.ins p hp
    exact hin.same (fun h0 ad e => hc.block _ (hin.lt h0 ad e) (fun e2 => by
      have h1 := (h.row.lt _ e2).1
      have := hPB _ (hin.2 h0 ad e)
      omega))
  obtain ⟨hlen2, ⟨e, e2⟩ | ⟨g, cp, cur, e, hB2, hg2, _⟩⟩ := id h2.row
  · obtain ⟨rfl, rfl, rfl⟩ : a2 = none ∧ m2 = 0 ∧ c2 = 0 := by simpa using e
    have hr := run_append_owned_none (P := Try.prog) (w := w) B 35 ty 48 i0 4 Try.underlying35 hi (.slice a m c) m (vcells l) h.row
    have hl2 : l2 = [] := List.eq_nil_of_length_eq_zero h2.len
    obtain ⟨a', c', e', r1, r2⟩ := fin (.slice a m c) w (by rw [hl2]; simpa using h.row) (World.grownBy.refl _ _)
    exact ⟨a', c', w, by rw [hr, e'], r1, r2⟩
  · obtain ⟨rfl, rfl⟩ : a2 = some ⟨g, 0, none⟩ ∧ c2 = cp := by simpa using e
    obtain ⟨v', w', hr, ho, hg, _⟩ := run_append_own_wide (P := Try.prog) w B 35 ty 48 i0 zvote 4 48 Try.underlying35 hi hz0 hz1 hz2 rfl (by omega) (.slice a m c) m (vcells l) h.row
      ⟨g, 0, none⟩ m2 c2 (vcells l2) hlen2 (fun j u hu => by rw [Addr.add_lit, Nat.zero_add, h2.row.cellAt j (by have := (List.getElem?_eq_some_iff.1 hu).1; omega)]; exact hu) (vcells_one l2) (by unfold maxLen; omega) (by omega) hB
    obtain ⟨a', c', rfl, r1, r2⟩ := fin v' w' (by rw [vcells_append]; exact ho) hg
    exact ⟨a', c', w', hr, r1, r2⟩
/-- two lists under way beside each other -/
structure Duo (w : World) (B : Nat) (P : Nat → Prop) (a1 : Option Addr) (m1 c1 : Nat) (l1 : List Vv) (a2 : Option Addr) (m2 c2 : Nat) (l2 : List Vv) : Prop where
  v1 : Vl w B P a1 m1 c1 l1
  v2 : Vl w B P a2 m2 c2 l2
  d : ∀ k, (Value.slice a1 m1 c1).ownBlock = some k → (Value.slice a2 m2 c2).ownBlock ≠ some k
theorem Duo.swap {w : World} {B : Nat} {P : Nat → Prop} {a1 a2 : Option Addr} {m1 c1 m2 c2 : Nat} {l1 l2 : List Vv} (h : Duo w B P a1 m1 c1 l1 a2 m2 c2 l2) : Duo w B P a2 m2 c2 l2 a1 m1 c1 l1 := ⟨h.v2, h.v1, fun k h1 h2 => h.d k h2 h1⟩
theorem Duo.drewN {w : World} {B : Nat} {P : Nat → Prop} {a1 a2 : Option Addr} {m1 c1 m2 c2 : Nat} {l1 l2 : List Vv} (h : Duo w B P a1 m1 c1 l1 a2 m2 c2 l2) (n : Nat) : Duo (w.drewN n) B P a1 m1 c1 l1 a2 m2 c2 l2 :=
  ⟨⟨row_same h.v1.row (fun _ _ => rfl), h.v1.len, fun p hp => (h.v1.ins p hp).same (fun _ _ _ => rfl)⟩, ⟨row_same h.v2.row (fun _ _ => rfl), h.v2.len, fun p hp => (h.v2.ins p hp).same (fun _ _ _ => rfl)⟩, h.d⟩
theorem duo_push {w : World} {B : Nat} {P : Nat → Prop} {a1 a2 : Option Addr} {m1 c1 m2 c2 : Nat} {l1 l2 : List Vv} (h : Duo w B P a1 m1 c1 l1 a2 m2 c2 l2) (hm : m1 ≤ 4000000000000) (hB : B ≤ w.heap.size) (hPB : ∀ k, P k → k < B) {p : Vv} (hp : p.In w P) (ty : TypeId) :
    ∃ g cp w', (Builtin.append_ #[35, 35] ty #[.slice a1 m1 c1, .slice (some ⟨w.heap.size, 0, none⟩) 1 1]).run Try.prog (w.alloc (.cells #[.int .i64 p.s, .int .i64 p.r, .int .i64 p.n, .slice p.a p.m p.cp] 48)) = .ok (.slice (some ⟨g, 0, none⟩) (m1 + 1) cp) w'
      ∧ Duo w' B P (some ⟨g, 0, none⟩) (m1 + 1) cp (l1 ++ [p]) a2 m2 c2 l2 ∧ Below B w w' := by
  obtain ⟨g, cp, w', hr, hv, hc, hb, hl⟩ := vl_push h.v1 hm hB hPB hp ty
  refine ⟨g, cp, w', hr, ⟨hv, ⟨row_same h.v2.row (fun k hk => hc.block k (h.v2.row.lt k hk).2 (fun e => h.d k e hk)), h.v2.len, fun q hq => ?_⟩, fun k h1 h2 => ?_⟩, hb⟩
  · have hin := h.v2.ins q hq
    exact hin.same (fun h0 ad e => hc.block _ (hin.lt h0 ad e) (fun e2 => by
      have h1 := (h.v1.row.lt _ e2).1
      have := hPB _ (hin.2 h0 ad e)
      omega))
  · have e : g = k := by simpa [Value.ownBlock] using h1
    subst e
    rcases hl with hl | hl
    · exact h.d _ hl h2
    · have := (h.v2.row.lt _ h2).2
      omega
theorem chg_of_below {w w' : World} {B : Nat} {M : Nat → Prop} (h : Below B w w') : Chg (fun k => B ≤ k ∨ M k) w w' := ⟨h.os, h.tape, h.output, h.size, fun k _ hn => h.block k (by simp only [not_or, Nat.not_le] at hn; exact hn.1)⟩
def lowL (vs : List Vt) (x : Int) : List Vt := vs.filter (fun u => decide (u.s < x))
def highL (vs : List Vt) (x : Int) : List Vt := vs.filter (fun u => decide (x < u.s))
theorem lowL_snoc (vs : List Vt) (v : Vt) (x : Int) : lowL (vs ++ [v]) x = if v.s < x then lowL vs x ++ [v] else lowL vs x := by
  unfold lowL
  rw [List.filter_append]
  by_cases h : v.s < x
  · rw [if_pos h]; simp [h]
  · rw [if_neg h]; simp [h]
theorem highL_snoc (vs : List Vt) (v : Vt) (x : Int) : highL (vs ++ [v]) x = if x < v.s then highL vs x ++ [v] else highL vs x := by
  unfold highL
  rw [List.filter_append]
  by_cases h : x < v.s
  · rw [if_pos h]; simp [h]
  · rw [if_neg h]; simp [h]
set_option maxRecDepth 100000 in
set_option maxHeartbeats 2000000 in
theorem raccept_any {w : World} {Q : Nat → Prop} {R : Nat} {s : As} (h : Rf w Q R s) (p : Vv) (q : p.In w Q) (hs : p.s ≤ 9223372036854775807) :
    Calls Try.prog 31 #[.pointer (some ⟨R, 0, none⟩), .agg #[.int .i64 p.s, .int .i64 p.r, .int .i64 p.n, .slice p.a p.m p.cp]] w fun e w' => e = .returned (.int .i64 (accE s p.vt)) ∧ RMv w Q R (accS s p.vt) w' := by
  obtain ⟨a, m, c, l, h⟩ := h
  obtain ⟨N, eN⟩ : ∃ N, N = w.heap.size := ⟨_, rfl⟩
  obtain ⟨u, eu⟩ : ∃ u, u = w.alloc (.cells #[.int .i64 p.s, .int .i64 p.r, .int .i64 p.n, .slice p.a p.m p.cp] 48) := ⟨_, rfl⟩
  have BU : Hid (Below w.heap.size w u) := by rw [eu]; exact below_alloc (Below.refl _ _) _
  have X : Hid (V4 u N p) := by rw [eu, eN]; exact v4_new w p
  have H := hide (h.below BU.out)
  have OK := hide h.ok
  have QW := hide q
  have NR : Hid (N ≠ R) := fun e => by have := h.ltR; omega
  have lo := h.ok.lo
  have hi := h.ok.hi
  have hbl : Hid (p.b.length = p.m) := q.1.length
  have EU := hide eu
  have EN := hide eN
  clear h eu q eN
  have CM := hide (fun w => turn_any p.r p.n w)
  cases hm : mayB p.r p.n
  · rw [hm] at CM
    have e1 : accE s p.vt = 1 := by have : fitsB p.vt = false := by { simp [fitsB, Vv.vt, hm] }; simp [accE, this]
    have e2 : accS s p.vt = s := by simp [accS, e1]
    rw [e1, e2]
    obtain ⟨x0, x1, x2, x3⟩ := X.out
    clear hm e1 e2
    go_enter Try.func31, Try.ntmps31
    go_wp2_with fail
    rw [← EU.out, ← EN.out]
    go_wp2_with fail
    refine (CM.out _).mono ?_
    rintro e w1 ⟨rfl, rfl⟩
    go_wp2_with fail
    go_ret
    have B1 : Below u.heap.size u (u.alloc (.cells #[.int .i64 p.r, .int .i64 p.n] 30)) := below_alloc (Below.refl _ _) _
    exact ⟨rfl, (RMv.stay ⟨_, _, _, _, H.out⟩ B1).behind BU.out⟩
  · rw [hm] at CM
    by_cases hf : p.m ≤ 2048
    · have HF : Hid (fitsB p.vt = true) := by show _ = _; simp [fitsB, Vv.vt, hm, hbl.out, hf]
      have hf' : (p.m : Int) ≤ 2048 := by omega
      have EE : Hid (accE s p.vt = if lessB p.r p.n s.pr s.pn = true then 90 else if p.s < s.first then 80 else if s.first + 16 ≤ p.s then 81 else 0) := acc_e HF.out
      obtain ⟨x0, x1, x2, x3⟩ := X.out
      clear hm hf
      have CL := hide (fun w => rless_lit (a := p.r) (b := p.n) (c := s.pr) (d := s.pn) rfl w)
      go_enter Try.func31, Try.ntmps31
      go_wp2_with fail
      rw [← EU.out, ← EN.out]
      go_wp2_with fail
      refine (CM.out _).mono ?_
      rintro e w1 ⟨rfl, ew1⟩
      have B1 : Hid (Below u.heap.size u w1) := by rw [ew1]; exact below_alloc (Below.refl _ _) _
      have H1 := hide (H.out.below B1.out)
      have X1 := hide (X.out.below B1.out)
      clear ew1 x0 x1 x2 x3
      obtain ⟨y0, y1, y2, y3⟩ := X1.out
      have c0 := H1.out.c0
      have c1 := H1.out.c1
      generalize lessB p.r p.n s.pr s.pn = lb at *
      go_wp2_with fail
      go_region_held3 (fun v => v.cell? ⟨N, 1, none⟩ = some (.int .i64 p.r) ∧ v.cell? ⟨N, 2, none⟩ = some (.int .i64 p.n) ∧ v.cell? ⟨R, 0, none⟩ = some (.int .i64 s.pr) ∧ v.cell? ⟨R, 1, none⟩ = some (.int .i64 s.pn)) (first | go_keep | exact ⟨y1, y2, c0, c1⟩ | exact ⟨z1, z2, k0, k1⟩) ((first | (go_at_call 41; refine (CL.out _).mono ?_; rintro e w2 ⟨rfl, hb2⟩; obtain ⟨z0, z1, z2, z3⟩ := X1.out.drew.below hb2; have k0 := (H1.out.drew.below hb2).c0; have k1 := (H1.out.drew.below hb2).c1; have B2 := hide hb2; clear hb2)))
      have B12 : Hid (Below u.heap.size u w2) := below_step B1.out ((Below.refl _ _).drew.trans B2.out)
      have H2 : Hid (Rf0 w2 Q R s a m c l) := H1.out.drew.below B2.out
      have X2 : Hid (V4 w2 N p) := X1.out.drew.below B2.out
      clear y0 y1 y2 y3 c0 c1 k0 k1 B1 H1 X1 B2
      have c2 := H2.out.c2
      cases lb
      · by_cases h1 : p.s < s.first
        · have E1 : Hid (accE s p.vt = 80) := by show _ = _; rw [EE.out, if_neg (by decide), if_pos h1]
          have E2 : Hid (accS s p.vt = s) := by show _ = _; simp [accS, E1.out]
          go_wp2_with fail
          go_quiet (fail)
          go_wp2_with fail
          go_ret
          rw [E1.out, E2.out]
          exact ⟨rfl, (RMv.stay ⟨_, _, _, _, H.out⟩ (below_drewN B12.out _)).behind BU.out⟩
        · have h1' : s.first ≤ p.s := by omega
          have wr1 : IntKind.i64.wrap (p.s - s.first) = p.s - s.first := by rw [IntKind.wrap_i64]; omega
          go_wp2_with fail
          go_quiet (fail)
          obtain ⟨w3, e3⟩ : ∃ w3, w3 = w2.drewN nq := ⟨_, rfl⟩
          rw [← e3]
          have H3 : Hid (Rf0 w3 Q R s a m c l) := by rw [e3]; exact H2.out.drewN _
          have X3 : Hid (V4 w3 N p) := by rw [e3]; exact X2.out
          have B3 : Hid (Below u.heap.size u w3) := by rw [e3]; exact below_drewN B12.out _
          clear e3
          clear z0 z1 z2 z3 c2
          obtain ⟨z0, z1, z2, z3⟩ := X3.out
          have c2 := H3.out.c2
          go_wp2_with fail
          by_cases h2 : s.first + 16 ≤ p.s
          · have E1 : Hid (accE s p.vt = 81) := by show _ = _; rw [EE.out, if_neg (by decide), if_neg (by omega), if_pos h2]
            have E2 : Hid (accS s p.vt = s) := by show _ = _; simp [accS, E1.out]
            have h2' : 16 ≤ p.s - s.first := by omega
            go_quiet (fail)
            go_wp2_with fail
            go_ret
            rw [E1.out, E2.out]
            exact ⟨rfl, (RMv.stay ⟨_, _, _, _, H.out⟩ (below_drewN B3.out _)).behind BU.out⟩
          · have E1 : Hid (accE s p.vt = 0) := by show _ = _; rw [EE.out, if_neg (by decide), if_neg (by omega), if_neg h2]
            have E2 : Hid (accS s p.vt = { s with pr := p.r, pn := p.n, vs := put s.vs p.vt }) := by show _ = _; simp [accS, E1.out]; exact ⟨rfl, rfl⟩
            have OK2 := hide (ok_acc OK.out p.vt)
            rw [E2.out] at OK2
            have OK1 : Hid (Ok { s with pr := p.r, pn := p.n }) := ok_pr OK.out E1.out
            have h2' : p.s - s.first < 16 := by omega
            have h2'' : ¬ 16 ≤ p.s - s.first := by omega
            go_quiet (fail)
            obtain ⟨w4, e3⟩ : ∃ w4, w4 = w3.drewN nq := ⟨_, rfl⟩
            rw [← e3]
            have H4 : Hid (Rf0 w4 Q R s a m c l) := by rw [e3]; exact H3.out.drewN _
            have X4 : Hid (V4 w4 N p) := by rw [e3]; exact X3.out
            have B4 : Hid (Below u.heap.size u w4) := by rw [e3]; exact below_drewN B3.out _
            clear e3
            clear z0 z1 z2 z3 c2 wr1 h1 h1' h2 h2' h2'' hf'
            have PI : Hid (p.In w4 (fun k => Q k ∧ k < w.heap.size)) := ((QW.out.mono (fun k h1 h2 => ⟨h1, h2⟩)).below BU.out).below B4.out
            have BW : Hid (Below w.heap.size w w4) := below_step BU.out B4.out
            have M16 := H4.out.m16
            have LN := hide H4.out.vl.len
            go_wp2_with fail
            go_loopw [5, 6, 7] (fun t1 t2 i wr => ∃ (k : Nat) (a1 a2 : Option Addr) (m1 c1 m2 c2 : Nat) (l1 l2 : List Vv), k ≤ m ∧ i = .int .i64 k ∧ t1 = .slice a1 m1 c1 ∧ t2 = .slice a2 m2 c2 ∧ Hid (Below w4.heap.size w4 wr) ∧ Hid (Duo wr w4.heap.size (fun j => Q j ∧ j < w4.heap.size) a1 m1 c1 l1 a2 m2 c2 l2) ∧ Hid (l1.map Vv.vt = lowL ((l.take k).map Vv.vt) p.s) ∧ Hid (l2.map Vv.vt = highL ((l.take k).map Vv.vt) p.s) ∧ Hid (m1 ≤ k ∧ m2 ≤ k)) (fun _ _ i _ => m - (intOf i).toNat)
            case atStart => exact ⟨0, none, none, 0, 0, 0, 0, [], [], Nat.zero_le _, rfl, rfl, rfl, Below.refl _ _, ⟨vl_nil _ _ _, vl_nil _ _ _, fun k e => by cases e⟩, rfl, rfl, ⟨Nat.le_refl _, Nat.le_refl _⟩⟩
            case round =>
              obtain ⟨k, a1, a2, m1, c1, m2, c2, l1, l2, hk, rfl, rfl, rfl, HB, HV, HE1, HE2, HM⟩ := hrel
              have HR := hide (H4.out.below HB.out)
              have XR := hide (X4.out.below HB.out)
              have c3 := HR.out.c3
              obtain ⟨z0, z1, z2, z3⟩ := XR.out
              by_cases hlt : k < m
              · have i1 : (k : Int) < (m : Int) := by omega
                have i2 : (0 : Int) ≤ (k : Int) := by omega
                have lk : k < l.length := by have := LN.out; omega
                obtain ⟨v, hv⟩ : ∃ v, l[k]? = some v := ⟨l[k], by simp [lk]⟩
                have TK : Hid ((l.take (k + 1)).map Vv.vt = (l.take k).map Vv.vt ++ [v.vt]) := by
                  show _ = _
                  rw [List.take_succ_eq_append_getElem lk, (List.getElem?_eq_some_iff.1 hv).2]
                  simp
                obtain ⟨g, eg, _, hg, d0, d1, d2, d3⟩ := HR.out.vl.at hv
                rw [eg] at c3
                have VI4 : Hid (v.In w4 (fun j => Q j ∧ j < w4.heap.size)) := (H4.out.vl.ins v (List.mem_of_getElem? hv)).mono (fun k h1 h2 => ⟨h1, h2⟩)
                have HVK := hide hv
                clear hv lk
                rcases Int.lt_trichotomy v.s p.s with hc | hc | hc
                · have hc' : ¬ p.s < v.s := by omega
                  have E1n : Hid (lowL ((l.take (k + 1)).map Vv.vt) p.s = lowL ((l.take k).map Vv.vt) p.s ++ [v.vt]) := by show _ = _; rw [TK.out, lowL_snoc, if_pos (show v.vt.s < p.s from hc)]
                  have E2n : Hid (highL ((l.take (k + 1)).map Vv.vt) p.s = highL ((l.take k).map Vv.vt) p.s) := by show _ = _; rw [TK.out, highL_snoc, if_neg (show ¬ p.s < v.vt.s from hc')]
                  go_wp2_with fail
                  go_quiet (fail)
                  obtain ⟨w5, e3⟩ : ∃ w5, w5 = wr.drewN nq := ⟨_, rfl⟩
                  rw [← e3]
                  have HBw5 : Hid (Below w4.heap.size w4 w5) := by rw [e3]; exact below_drewN HB.out _
                  have HVw5 : Hid (Duo w5 w4.heap.size (fun j => Q j ∧ j < w4.heap.size) a1 m1 c1 l1 a2 m2 c2 l2) := by rw [e3]; exact HV.out.drewN _
                  clear e3
                  clear c3 z0 z1 z2 z3 d0 d1 d2 d3 eg hg
                  have HR5 := hide (H4.out.below HBw5.out)
                  have XR5 := hide (X4.out.below HBw5.out)
                  have VI5 : Hid (v.In w5 (fun j => Q j ∧ j < w4.heap.size)) := (VI4.out).below HBw5.out
                  have c3 := HR5.out.c3
                  obtain ⟨z0, z1, z2, z3⟩ := XR5.out
                  obtain ⟨g5, eg5, _, _, d0, d1, d2, d3⟩ := HR5.out.vl.at HVK.out
                  rw [eg5] at c3
                  obtain ⟨gg, cq, w6, hr6, hd6, hb6⟩ := duo_push HVw5.out (by have := HM.out; omega) HBw5.out.size (fun k hk => hk.2) VI5.out 35
                  have D6 := hide hd6
                  have HBw6 : Hid (Below w4.heap.size w4 w6) := HBw5.out.trans hb6
                  clear hd6 hb6
                  go_wp2_with (at_builtin; refine wp_append_run _ rfl _ _ 35 rfl _ _ hr6 ?_)
                  clear c3 z0 z1 z2 z3 d0 d1 d2 d3
                  clear hr6 eg5
                  have HR6 := hide (H4.out.below HBw6.out)
                  have XR6 := hide (X4.out.below HBw6.out)
                  have VI6 : Hid (v.In w6 (fun j => Q j ∧ j < w4.heap.size)) := (VI4.out).below HBw6.out
                  have c3 := HR6.out.c3
                  obtain ⟨z0, z1, z2, z3⟩ := XR6.out
                  obtain ⟨g6, eg6, _, _, d0, d1, d2, d3⟩ := HR6.out.vl.at HVK.out
                  rw [eg6] at c3
                  go_wp2_with fail
                  go_quiet (fail)
                  go_wp2_with fail
                  go_roundw
                  case rel => exact ⟨k + 1, _, _, _, _, _, _, _, _, by omega, by go_num, rfl, rfl, below_drewN HBw6.out _, D6.out.drewN _, by show _ = _; rw [E1n.out, List.map_append, HE1.out]; rfl, by show _ = _; rw [E2n.out, HE2.out], ⟨Nat.succ_le_succ HM.out.1, Nat.le_succ_of_le HM.out.2⟩⟩
                  case measure => simp [intOf]; omega
                · have hc1 : ¬ v.s < p.s := by omega
                  have hc2 : ¬ p.s < v.s := by omega
                  have E1n : Hid (lowL ((l.take (k + 1)).map Vv.vt) p.s = lowL ((l.take k).map Vv.vt) p.s) := by show _ = _; rw [TK.out, lowL_snoc, if_neg (show ¬ v.vt.s < p.s from hc1)]
                  have E2n : Hid (highL ((l.take (k + 1)).map Vv.vt) p.s = highL ((l.take k).map Vv.vt) p.s) := by show _ = _; rw [TK.out, highL_snoc, if_neg (show ¬ p.s < v.vt.s from hc2)]
                  have HC := hide hc
                  clear hc
                  go_wp2_with fail
                  go_quiet (fail)
                  obtain ⟨w5, e3⟩ : ∃ w5, w5 = wr.drewN nq := ⟨_, rfl⟩
                  rw [← e3]
                  have HBw5 : Hid (Below w4.heap.size w4 w5) := by rw [e3]; exact below_drewN HB.out _
                  have HVw5 : Hid (Duo w5 w4.heap.size (fun j => Q j ∧ j < w4.heap.size) a1 m1 c1 l1 a2 m2 c2 l2) := by rw [e3]; exact HV.out.drewN _
                  clear e3
                  clear c3 z0 z1 z2 z3 d0 d1 d2 d3 eg hg
                  have HR5 := hide (H4.out.below HBw5.out)
                  have XR5 := hide (X4.out.below HBw5.out)
                  have VI5 : Hid (v.In w5 (fun j => Q j ∧ j < w4.heap.size)) := (VI4.out).below HBw5.out
                  have c3 := HR5.out.c3
                  obtain ⟨z0, z1, z2, z3⟩ := XR5.out
                  obtain ⟨g5, eg5, _, _, d0, d1, d2, d3⟩ := HR5.out.vl.at HVK.out
                  rw [eg5] at c3
                  go_wp2_with fail
                  go_quiet (fail)
                  go_wp2_with fail
                  go_roundw
                  case rel => exact ⟨k + 1, _, _, _, _, _, _, _, _, by omega, by go_num, rfl, rfl, below_drewN HBw5.out _, HVw5.out.drewN _, by show _ = _; rw [E1n.out, HE1.out], by show _ = _; rw [E2n.out, HE2.out], ⟨Nat.le_succ_of_le HM.out.1, Nat.le_succ_of_le HM.out.2⟩⟩
                  case measure => simp [intOf]; omega
                · have hc' : ¬ v.s < p.s := by omega
                  have E1n : Hid (lowL ((l.take (k + 1)).map Vv.vt) p.s = lowL ((l.take k).map Vv.vt) p.s) := by show _ = _; rw [TK.out, lowL_snoc, if_neg (show ¬ v.vt.s < p.s from hc')]
                  have E2n : Hid (highL ((l.take (k + 1)).map Vv.vt) p.s = highL ((l.take k).map Vv.vt) p.s ++ [v.vt]) := by show _ = _; rw [TK.out, highL_snoc, if_pos (show p.s < v.vt.s from hc)]
                  go_wp2_with fail
                  go_quiet (fail)
                  obtain ⟨w5, e3⟩ : ∃ w5, w5 = wr.drewN nq := ⟨_, rfl⟩
                  rw [← e3]
                  have HBw5 : Hid (Below w4.heap.size w4 w5) := by rw [e3]; exact below_drewN HB.out _
                  have HVw5 : Hid (Duo w5 w4.heap.size (fun j => Q j ∧ j < w4.heap.size) a1 m1 c1 l1 a2 m2 c2 l2) := by rw [e3]; exact HV.out.drewN _
                  clear e3
                  clear c3 z0 z1 z2 z3 d0 d1 d2 d3 eg hg
                  have HR5 := hide (H4.out.below HBw5.out)
                  have XR5 := hide (X4.out.below HBw5.out)
                  have VI5 : Hid (v.In w5 (fun j => Q j ∧ j < w4.heap.size)) := (VI4.out).below HBw5.out
                  have c3 := HR5.out.c3
                  obtain ⟨z0, z1, z2, z3⟩ := XR5.out
                  obtain ⟨g5, eg5, _, _, d0, d1, d2, d3⟩ := HR5.out.vl.at HVK.out
                  rw [eg5] at c3
                  go_wp2_with fail
                  go_quiet (fail)
                  obtain ⟨w6, e3⟩ : ∃ w6, w6 = w5.drewN nq := ⟨_, rfl⟩
                  rw [← e3]
                  have HBw6 : Hid (Below w4.heap.size w4 w6) := by rw [e3]; exact below_drewN HBw5.out _
                  have HVw6 : Hid (Duo w6 w4.heap.size (fun j => Q j ∧ j < w4.heap.size) a1 m1 c1 l1 a2 m2 c2 l2) := by rw [e3]; exact HVw5.out.drewN _
                  clear e3
                  clear c3 z0 z1 z2 z3 d0 d1 d2 d3
                  clear eg5
                  have HR6 := hide (H4.out.below HBw6.out)
                  have XR6 := hide (X4.out.below HBw6.out)
                  have VI6 : Hid (v.In w6 (fun j => Q j ∧ j < w4.heap.size)) := (VI4.out).below HBw6.out
                  have c3 := HR6.out.c3
                  obtain ⟨z0, z1, z2, z3⟩ := XR6.out
                  obtain ⟨g6, eg6, _, _, d0, d1, d2, d3⟩ := HR6.out.vl.at HVK.out
                  rw [eg6] at c3
                  obtain ⟨gg, cq, w7, hr7, hd7, hb7⟩ := duo_push HVw6.out.swap (by have := HM.out; omega) HBw6.out.size (fun k hk => hk.2) VI6.out 35
                  have D7 := hide hd7
                  have HBw7 : Hid (Below w4.heap.size w4 w7) := HBw6.out.trans hb7
                  clear hd7 hb7
                  go_wp2_with (at_builtin; refine wp_append_run _ rfl _ _ 35 rfl _ _ hr7 ?_)
                  go_roundw
                  case rel => exact ⟨k + 1, _, _, _, _, _, _, _, _, by omega, by go_num, rfl, rfl, HBw7, D7.out.swap, by show _ = _; rw [E1n.out, HE1.out], by show _ = _; rw [E2n.out, List.map_append, HE2.out]; rfl, ⟨Nat.le_succ_of_le HM.out.1, Nat.succ_le_succ HM.out.2⟩⟩
                  case measure => simp [intOf]; omega
              · obtain rfl : k = m := by omega
                have EL1 : Hid (l1.map Vv.vt = lowL s.vs p.s) := by show _ = _; rw [HE1.out, H4.out.vs, List.take_of_length_le (by have := LN.out; omega)]
                have EL2 : Hid (l2.map Vv.vt = highL s.vs p.s) := by show _ = _; rw [HE2.out, H4.out.vs, List.take_of_length_le (by have := LN.out; omega)]
                have F4 := HR.out.f
                have q0 := HR.out.c0
                have q1 := HR.out.c1
                have MV := hide (rf_prom HR.out p.r p.n OK1.out)
                obtain ⟨w6, e6⟩ : ∃ w6, w6 = (wr.setCell ⟨R, 0, none⟩ (.int .i64 p.r)).setCell ⟨R, 1, none⟩ (.int .i64 p.n) := ⟨_, rfl⟩
                rw [← e6] at MV
                have E6 := hide e6
                clear e6 hlt hk
                go_upto_region 18 with fail
                rw [← E6.out]
                clear E6 c3 z0 z1 z2 z3 q0 q1 F4
                have X6 : Hid (V4 w6 N p) := XR.out.chg MV.out.1 NR.out
                have D6 : Hid (Duo w6 w4.heap.size (fun j => Q j ∧ j < w4.heap.size) a1 m1 c1 l1 a2 m2 c2 l2) :=
                  ⟨HV.out.v1.chg MV.out.1 (fun k hk => by rw [hk]; exact ⟨HR.out.noV, .inr HR.out.noB⟩), HV.out.v2.chg MV.out.1 (fun k hk => by rw [hk]; exact ⟨HR.out.noV, .inr HR.out.noB⟩), HV.out.d⟩
                have S6 : Hid (w4.heap.size ≤ w6.heap.size) := Nat.le_trans HB.out.size MV.out.1.size
                have P6 : Hid (p.In w6 (fun j => Q j ∧ j < w4.heap.size)) := (((PI.out.mono (fun k h1 h2 => ⟨h1.1, h2⟩)).below HB.out).chg MV.out.1 (fun k hk => by rw [hk]; exact .inr HR.out.noB))
                obtain ⟨gg, cq, w7, hr7, hd7, hb7⟩ := duo_push D6.out (by have := HM.out; omega) S6.out (fun k hk => hk.2) P6.out 35
                obtain ⟨a8, c8, w8, hr8, hv8, hb8⟩ := vl_cat hd7.v1 hd7.v2 (by have := HM.out; omega) (Nat.le_trans S6.out hb7.size) (fun k hk => hk.2) 35
                have B8 : Hid (Below w4.heap.size w6 w8) := hb7.trans hb8
                have V8 := hide hv8
                have RW : Hid (w8.heap[R]? = some (.cells (rrow { s with pr := p.r, pn := p.n } a k c) 37 (0, 0))) := (B8.out.block R H4.out.ltR).trans MV.out.2.row
                have f8 : ∀ o, w8.frozen? ⟨R, o, none⟩ = false := fun o => by simp [World.frozen?, RW.out]
                have t3 : w8.cell? ⟨R, 3, none⟩ = some (.slice a k c) := by rw [cell_of_row _ _ _ _ _ _ RW.out]; rfl
                obtain ⟨z0, z1, z2, z3⟩ := X6.out
                clear hd7 hb7 hv8 hb8
                go_wp2_with (first | (at_builtin; refine wp_append_run _ rfl (.tmp 97) (.tmp 99) 35 rfl _ _ hr7 ?_) | (at_builtin; refine wp_append_run _ rfl (.tmp 100) (.tmp 101) 35 rfl _ _ hr8 ?_))
                go_ret
                rw [E1.out, E2.out]
                have hcR : Chg (fun k => k = R) w8 (w8.setCell ⟨R, 3, none⟩ (.slice a8 (m1 + 1 + m2) c8)) := (Chg.refl (fun k => k = R) _).setCell (p := ⟨R, 3, none⟩) (.inl rfl) _
                have nV := NoV.of_row RW.out (by decide)
                have nB := NoB.of_row RW.out (fun v hv x e => by subst e; simp [rrow] at hv)
                refine ⟨rfl, ?_, a8, _, c8, l1 ++ [p] ++ l2, ?_, (((V8.out.mono (fun k h1 _ => h1.1)).base (Nat.zero_le _)).chg hcR (fun k hk => by rw [hk]; exact ⟨nV, .inr nB⟩)), ?_, OK2.out⟩
                · have s1 := BW.out.size
                  refine (((Chg.of_below BW.out (fun k => k = R)).trans (Chg.of_below HB.out (fun k => k = R)) (fun k _ hk => hk)).trans MV.out.1 (fun k _ hk => hk)).trans ((chg_of_below (M := fun k => k = R) B8.out).trans hcR (fun k _ hk => .inr hk)) (fun k hk h => ?_)
                  rcases h with h | h
                  · omega
                  · exact h
                · rw [put_row RW.out]
                  rfl
                · show put s.vs p.vt = _
                  rw [List.map_append, List.map_append, EL1.out, EL2.out]
                  simp only [put, lowL, highL, List.map_cons, List.map_nil, List.append_assoc, List.cons_append, List.nil_append]
                  rfl
      · have E1 : Hid (accE s p.vt = 90) := by show _ = _; rw [EE.out, if_pos rfl]
        have E2 : Hid (accS s p.vt = s) := by show _ = _; simp [accS, E1.out]
        go_wp2_with fail
        go_ret
        rw [E1.out, E2.out]
        exact ⟨rfl, (RMv.stay ⟨_, _, _, _, H.out⟩ B12.out).behind BU.out⟩
    · have e1 : accE s p.vt = 1 := by have : fitsB p.vt = false := by { simp [fitsB, Vv.vt, hbl.out]; omega }; simp [accE, this]
      have e2 : accS s p.vt = s := by simp [accS, e1]
      have hf' : ¬ (p.m : Int) ≤ 2048 := by omega
      rw [e1, e2]
      obtain ⟨x0, x1, x2, x3⟩ := X.out
      clear hm e1 e2 hf
      go_enter Try.func31, Try.ntmps31
      go_wp2_with fail
      rw [← EU.out, ← EN.out]
      go_wp2_with fail
      refine (CM.out _).mono ?_
      rintro e w1 ⟨rfl, ew1⟩
      have B1 : Hid (Below u.heap.size u w1) := by rw [ew1]; exact below_alloc (Below.refl _ _) _
      have X1 := hide (X.out.below B1.out)
      clear ew1 x0 x1 x2 x3
      obtain ⟨y0, y1, y2, y3⟩ := X1.out
      go_wp2_with fail
      go_ret
      exact ⟨rfl, (RMv.stay ⟨_, _, _, _, H.out⟩ B1.out).behind BU.out⟩
end Go.Proofs.Ytdnniokpkamjjaa
