/- The document's box: Done. No condition. -/
import Derived.Test.YtanfmpeblhegpaaDoorChuRefB
namespace Go.Proofs.YtanfmpeblhegpaaDoor
open Go.ChangeShapes Go.WideShapes Go.ChangeAt Go.RowKit B8 Ck
set_option linter.unusedVariables false

/-- bytes appended to bytes of one's own, as a run -/
theorem append_row {w : World} {B : Nat} {a : Option Addr} {n c : Nat} {zs : List Int} (ty : TypeId) (hown : w.ownsRow B 5 1 (.slice a n c) n (B8.vals zs)) (hl : zs.length = n) (hz : wfs zs) {x : Option Addr} {m cx : Nat} {bs : List Int} (q : Sq w x m cx bs) (hr : n + m ≤ 140737488355328) (hB : B ≤ w.heap.size) :
    ∃ a' c' w', (Builtin.append_ #[30, 30] ty #[.slice a n c, .slice x m cx]).run Tryd.prog w = .ok (.slice a' (n + m) c') w' ∧ w'.ownsRow B 5 1 (.slice a' (n + m) c') (n + m) (B8.vals (zs ++ bs)) ∧ Below B w w' := by
  obtain ⟨i0, hi, hz0, hz1, hz2⟩ := info_parts B8.info
  cases x with
  | none =>
    obtain ⟨rfl, rfl⟩ := q.noAddr rfl
    obtain rfl : bs = [] := List.eq_nil_of_length_eq_zero q.length
    exact ⟨a, c, w, run_append_owned_none (P := Tryd.prog) w B 30 ty 5 i0 1 Tryd.underlying30 hi (.slice a n c) n (vals zs) hown, by rw [List.append_nil]; exact hown, Below.refl _ _⟩
  | some ad =>
    obtain ⟨v', w1, hrun, hown1, hg, _⟩ := run_append_own (P := Tryd.prog) w B 30 ty 5 i0 (.int .u8 0) 1 1 Tryd.underlying30 hi hz0 hz1 hz2 rfl (by decide) (.slice a n c) n (vals zs) hown ad m cx (vals bs) q.valsLength (q.news ad rfl) (vals_one _) (by unfold maxLen; omega) (by omega) hB
    rw [← vals_append] at hown1
    obtain ⟨a', cp', rfl, _⟩ := sq_of_row (by rw [List.length_append, hl, q.length]) (wfs_append hz q.wf) hown1
    exact ⟨a', cp', w1, hrun, hown1, (Chg.refl (fun k => (Value.slice a n c).ownBlock = some k) w |>.grown hg (fun k hk => .inl hk)).below hB (fun k hk => (hown.lt k hk).1)⟩
set_option maxRecDepth 100000 in
set_option maxHeartbeats 2000000 in
theorem rdone_any {w : World} {B R : Nat} {a : Option Addr} {m c : Nat} {l : List Pv} {s : Bx} (h : Rb w B R a m c l) (hr : Rl s (l.map Pv.pc)) :
    Calls Tryd.prog 12 #[.pointer (some ⟨R, 0, none⟩)] w fun e w' => ∃ a' c', e = .returned (.tuple #[.slice a' (doneL s).length c', .bool (doneB s)]) ∧ Below w.heap.size w w' ∧ w'.ownsRow w.heap.size 5 1 (.slice a' (doneL s).length c') (doneL s).length (B8.vals (doneL s)) := by
  have hm := rl_m h hr
  have H := hide h
  have HR := hide hr
  have C := hide (rmissing_any h hr)
  by_cases hmi : missL s = []
  · rw [hmi] at C
    simp only [List.length_nil] at C
    have hne : s.ps ≠ [] := fun e => by
      have := missN_nil.1 hmi 0 (by omega)
      rw [e] at this
      simp [lookP] at this
    have h0 : 0 < m := by
      rcases Nat.eq_zero_or_pos m with e | e
      · exfalso
        subst e
        have hl : l = [] := List.eq_nil_of_length_eq_zero h.lw.len
        exact hne (hr.nil.1 (by rw [hl]; rfl))
      · exact e
    obtain ⟨b, off, p0, rfl, hb, hp, hpl, _, d1, d2, _⟩ := h.lw.at (by omega) h0
    obtain ⟨hof, hsum, _⟩ := hr.all p0.pc (List.mem_map.2 ⟨p0, hpl, rfl⟩)
    have hof : p0.of = s.of := hof
    have hsum : p0.sum = s.sum := hsum
    have o1 := hr.ok.of1 hne
    have o2 := hr.ok.of.2
    obtain ⟨n, en⟩ : ∃ n : Nat, (n : Int) = s.of := ⟨s.of.toNat, by omega⟩
    have hn16 : n ≤ 16 := by omega
    have ALL : Hid (∀ j : Nat, j < n → (lookP s.ps (j : Int)).isNone = false) := fun j hj => missN_nil.1 hmi j (by omega)
    have EC : Hid (catL s = catN s.ps n) := by show _ = _; unfold catL; rw [show s.of.toNat = n by omega]
    have CL : Hid (∀ k, (catN s.ps k).length ≤ k * 512) := fun k => catN_length hr.ok k
    rw [hof, ← en] at d1
    rw [hsum] at d2
    simp only [Nat.zero_mul, Nat.add_zero] at d1 d2
    have D1 := hide d1
    have D2 := hide d2
    have LB := hide hb
    have HM := hide hmi
    clear h hr hp hpl hof hsum hne en hb d1 d2 hmi o1 o2
    go_enter Tryd.func12, Tryd.ntmps12
    go_wp2_with fail
    refine C.out.mono ?_
    rintro e w1 ⟨a1, c1, rfl, hb1, _⟩
    have B1 := hide hb1
    clear hb1 C
    go_wp2_with fail
    go_loopw [4, 5] (fun t x wr => ∃ (k : Nat) (a1 : Option Addr) (m1 c1 : Nat), k ≤ n ∧ x = .int .i64 k ∧ t = .slice a1 m1 c1 ∧ Hid (m1 = (catN s.ps k).length) ∧ Hid (Below w.heap.size w wr) ∧ Hid (wfs (catN s.ps k)) ∧ Hid (wr.ownsRow w.heap.size 5 1 (.slice a1 m1 c1) m1 (B8.vals (catN s.ps k)))) (fun _ x _ => n - (intOf x).toNat)
    case atStart => exact ⟨0, none, 0, 0, Nat.zero_le _, rfl, rfl, rfl, B1, wfs_nil, World.ownsRow_nil _ _ _ _⟩
    case round =>
      obtain ⟨k, a2, m2, c2, hk, rfl, rfl, EM, HB, HW, HO⟩ := hrel
      have H1 := hide (H.out.below HB.out)
      have c0 := H1.out.c0
      have d1 := (HB.out.cell (p := ⟨b, off + 1, none⟩) LB.out).trans D1.out
      have d2 := (HB.out.cell (p := ⟨b, off + 2, none⟩) LB.out).trans D2.out
      have g0 : (0 : Int) < (m : Int) := by omega
      by_cases hlt : k < n
      · have i1 : (k : Int) < (n : Int) := by omega
        have MS := hide (catN_succ s.ps k)
        have hal := ALL.out k hlt
        have HD : Hid (Rb wr.drew B R (some ⟨b, off, none⟩) m c l) := H1.out.below (Below.refl _ _).drew
        have CH := hide (rhas_any HD.out (by omega) (k : Int))
        cases hq : hasI (l.map Pv.pc) (k : Int) with
        | none =>
          rw [(rl_look HR.out (k : Int)).2 hq] at hal
          cases hal
        | some i =>
          rw [has_pos hq] at CH
          obtain ⟨pp, hpp, hpk⟩ := hasI_some hq
          have hil : i < m := by
            have := (List.getElem?_eq_some_iff.1 hpp).1
            have h3 := H.out.lw.len
            simp at this
            omega
          obtain ⟨b', off', p, e', _, hp, hpl, _, _, _, f3⟩ := H1.out.lw.at (by omega) hil
          obtain ⟨rfl, rfl⟩ : b = b' ∧ off = off' := by simpa using e'
          have e5 : p.pc = pp := by
            rw [List.getElem?_map, hp] at hpp
            exact Option.some.inj hpp
          have hlk : lookP s.ps (k : Int) = some p.b := by
            have h3 := (HR.out.all p.pc (List.mem_map.2 ⟨p, hpl, rfl⟩)).2.2
            rw [← hpk, ← e5]
            exact h3
          have E1 : Hid (catN s.ps (k + 1) = catN s.ps k ++ p.b) := by show _ = _; rw [MS.out, hlk]; rfl
          obtain ⟨r1, r2, r3, _⟩ := H1.out.lw.each p hpl
          have SQ : Hid (Sq wr.drew p.a p.m p.cp p.b) := (bi_row (P := fun _ => True) r2 r3 r1 (fun _ _ => trivial)).1.drew 1
          have q5 : Hid (p.m ≤ 512) := by
            show _ ≤ _
            have h4 := HR.out.ok.blen (look_mem hlk)
            rw [r2] at h4
            exact h4
          have OD : Hid (wr.drew.ownsRow w.heap.size 5 1 (.slice a2 m2 c2) m2 (B8.vals (catN s.ps k))) := HO.out
          obtain ⟨a3, c3, w3, hr3, ho3, hb3⟩ := append_row 30 OD.out EM.out.symm HW.out SQ.out (by have h5 := CL.out k; have := q5.out; rw [← EM.out] at h5; omega) HB.out.size
          rw [← E1.out] at ho3
          have W2 : Hid (wfs (catN s.ps (k + 1))) := by show wfs _; rw [E1.out]; exact wfs_append HW.out SQ.out.wf
          have L2 : Hid (m2 + p.m = (catN s.ps (k + 1)).length) := by show _ = _; rw [E1.out, List.length_append, ← EM.out, r2]
          have B3 : Hid (Below w.heap.size w w3) := HB.out.drew.trans hb3
          have O3 := hide ho3
          have i3 : (i : Int) < (m : Int) := by omega
          have i4 : (0 : Int) ≤ (i : Int) := by omega
          have FI : Hid (Rb w3 B R (some ⟨b, off, none⟩) m c l → True) := fun _ => trivial
          have K0 : Hid (w3.cell? ⟨R, 0, none⟩ = some (.slice (some ⟨b, off, none⟩) m c)) := (H.out.below B3.out).c0
          have K3 : Hid (w3.cell? ⟨b, off + i * 4 + 3, none⟩ = some (.slice p.a p.m p.cp)) := by
            obtain ⟨b'', off'', p', e'', _, hp', _, _, _, _, f3'⟩ := (H.out.below B3.out).lw.at (by omega) hil
            obtain ⟨rfl, rfl⟩ : b = b'' ∧ off = off'' := by simpa using e''
            rw [hp] at hp'
            cases hp'
            exact f3'
          have x0 := K0.out
          have x3 := K3.out
          clear hq hpp hpk hil hp hpl e5 hlk r1 r2 r3 ho3 hb3 hal e'
          go_wp2_with fail
          go_region_held3 (fun v => v.cell? ⟨R, 0, none⟩ = some (.slice (some ⟨b, off, none⟩) m c) ∧ v.cell? ⟨b, off + i * 4 + 3, none⟩ = some (.slice p.a p.m p.cp)) (first | go_keep | exact ⟨c0, f3⟩ | exact ⟨x0, x3⟩) ((first | (go_at_call 23; refine CH.out.mono ?_; rintro e w9 ⟨rfl, rfl⟩) | (refine step_append_runs _ (by rfl) (.tmp 21) (.tmp 31) 30 (by rfl) hr3 ?_)))
          all_goals
            go_wp2_with fail
            go_roundw
            case rel => exact ⟨k + 1, _, _, _, by omega, by go_num, rfl, L2, B3, W2, O3⟩
            case measure => simp [intOf]; omega
      · obtain rfl : k = n := by omega
        have i1 : ¬ (k : Int) < (k : Int) := by omega
        have SQ : Hid (Sq wr a2 m2 c2 (catL s)) := by
          show Sq _ _ _ _ _
          obtain ⟨a3, c3, e3, h3⟩ := sq_of_row EM.out.symm HW.out HO.out
          obtain ⟨rfl, rfl⟩ : a2 = a3 ∧ c2 = c3 := by simpa using e3
          rw [EC.out]
          exact h3
        have LM : Hid (m2 ≤ 8192) := by show _ ≤ _; have := CL.out k; rw [EM.out]; omega
        have CS : Hid (∀ i, Calls Tryd.prog 26 #[.slice a2 m2 c2] (wr.drewN i) fun e w' => e = .returned (.int .u32 (fsum (catL s) : Nat)) ∧ w' = wr.drewN i) := fun i => by have h1 := refsum_sq (SQ.out.drew i) (by have := LM.out; omega); rw [sumB_fsum] at h1; exact h1
        have EF : Hid ((catL s).length = m2) := by show _ = _; rw [EM.out, EC.out]
        have RF : Hid (wr.ownsRow w.heap.size 5 1 (.slice a2 m2 c2) m2 (B8.vals (catL s))) := by show World.ownsRow _ _ _ _ _ _ _; rw [EC.out]; exact HO.out
        obtain ⟨F, eF⟩ : ∃ F : Nat, F = fsum (catL s) := ⟨_, rfl⟩
        rw [← eF] at CS
        have EFS := hide eF
        clear eF
        go_wp2_with fail
        go_quiet ((go_at_call 26; exact Calls.quiet_of_same (CS.out _)))
        by_cases hs : ((F : Nat) : Int) = s.sum
        · have D1 : Hid (doneB s = true) := by show _ = _; unfold doneB; rw [HM.out, ← EFS.out]; simp [hs]
          have D2 : Hid (doneL s = catL s) := by show _ = _; unfold doneL; rw [if_pos D1.out]
          go_wp2_with fail
          go_returns
          rw [D1.out, D2.out, EF.out]
          exact ⟨a2, c2, rfl, below_drewN8 HB.out _, RF.out⟩
        · have D1 : Hid (doneB s = false) := by show _ = _; unfold doneB; rw [HM.out, ← EFS.out]; simp [hs]
          have D2 : Hid (doneL s = []) := by show _ = _; unfold doneL; rw [D1.out]; rfl
          have n1 : (((F : Nat) : Int) != s.sum) = true := by simpa using hs
          go_wp2_with fail
          go_returns
          rw [D1.out, D2.out]
          exact ⟨none, 0, rfl, below_drewN8 HB.out _, World.ownsRow_nil _ _ _ _⟩
  · have D1 : Hid (doneB s = false) := by show _ = _; unfold doneB; simp [hmi]
    have D2 : Hid (doneL s = []) := by show _ = _; unfold doneL; rw [D1.out]; rfl
    obtain ⟨L, eL⟩ : ∃ L, L = (missL s).length := ⟨_, rfl⟩
    have hL : 0 < L := by rw [eL]; exact List.length_pos_iff.2 hmi
    have hL2 : (0 : Int) < (L : Int) := by omega
    rw [← eL] at C
    rw [D1.out, D2.out]
    clear h hr hmi eL H HR
    go_enter Tryd.func12, Tryd.ntmps12
    go_wp2_with fail
    refine C.out.mono ?_
    rintro e w1 ⟨a1, c1, rfl, hb1, _⟩
    have B1 := hide hb1
    clear hb1
    go_wp2_with fail
    go_returns
    exact ⟨none, 0, rfl, B1.out, World.ownsRow_nil _ _ _ _⟩
end Go.Proofs.YtanfmpeblhegpaaDoor
