/- The landed disk's small calls: ready, reach, count, Size, Waiting, Down, Arm. No condition. -/
import Derived.Test.YtfkclebngldjmaaDiskMem
import Derived.BigQuiet
namespace Go.Proofs.Ytfkclebngldjmaa
open Go.ChangeShapes Go.WideShapes Go.ChangeAt Go.RowKit B8 Dm
set_option linter.unusedVariables false

section
variable {w : World} {D gk ck gs cs m cv : Nat} {av : Option Addr} {s : Ds} {L : Nat → Prop}
theorem ready_any (h4 : w.cell? ⟨D, 4, none⟩ = some (.bool s.down)) :
    Calls Try.prog 40 #[.pointer (some ⟨D, 0, none⟩)] w fun e w' => e = .returned (.int .i64 (armE s)) ∧ w' = w := by
  cases hd : s.down with
  | true =>
    rw [hd] at h4
    have HV : Hid (armE s = 40) := by show _ = _; unfold armE; rw [hd]; rfl
    clear hd
    go_enter Try.func40, Try.ntmps40
    go_wp2_with fail
    go_ret
    rw [HV.out]
    exact ⟨rfl, rfl⟩
  | false =>
    rw [hd] at h4
    have HV : Hid (armE s = 0) := by show _ = _; unfold armE; rw [hd]; rfl
    clear hd
    go_enter Try.func40, Try.ntmps40
    go_wp2_with fail
    go_ret
    rw [HV.out]
    exact ⟨rfl, rfl⟩
theorem reach_any (h : Dk w D gk ck gs cs av m cv s) (at_ : Int) :
    Calls Try.prog 42 #[.pointer (some ⟨D, 0, none⟩), .int .i64 at_] w fun e w' => e = .returned (.int .i64 (reachE s at_)) ∧ w' = w := by
  have C := hide (ready_any h.c4)
  have c0 := h.c0
  have hn := h.ok.hi
  clear h
  cases hd : s.down with
  | true =>
    have HA : Hid (armE s = 40) := by show _ = _; unfold armE; rw [hd]; rfl
    have HV : Hid (reachE s at_ = 40) := by show _ = _; unfold reachE; rw [hd]; rfl
    clear hd
    go_enter Try.func42, Try.ntmps42
    go_wp2_with fail
    refine C.out.mono ?_
    rintro e w1 ⟨rfl, rfl⟩
    rw [HA.out]
    go_wp2_with fail
    go_ret
    rw [HV.out]
    exact ⟨rfl, rfl⟩
  | false =>
    have HA : Hid (armE s = 0) := by show _ = _; unfold armE; rw [hd]; rfl
    by_cases h1 : at_ < 0
    · have HV : Hid (reachE s at_ = 41) := by show _ = _; unfold reachE; rw [hd]; simp [h1]
      clear hd
      go_enter Try.func42, Try.ntmps42
      go_wp2_with fail
      refine C.out.mono ?_
      rintro e w1 ⟨rfl, rfl⟩
      rw [HA.out]
      go_wp2_with fail
      go_ret
      rw [HV.out]
      exact ⟨rfl, rfl⟩
    · by_cases h2 : (s.n : Int) ≤ at_
      · have HV : Hid (reachE s at_ = 41) := by show _ = _; unfold reachE; rw [hd]; simp [h1, h2]
        clear hd
        go_enter Try.func42, Try.ntmps42
        go_wp2_with fail
        refine C.out.mono ?_
        rintro e w1 ⟨rfl, rfl⟩
        rw [HA.out]
        go_wp2_with fail
        go_ret
        rw [HV.out]
        exact ⟨rfl, rfl⟩
      · have HV : Hid (reachE s at_ = 0) := by show _ = _; unfold reachE; rw [hd]; simp [h1, h2]
        have h3 : at_ < (s.n : Int) := by omega
        clear hd
        go_enter Try.func42, Try.ntmps42
        go_wp2_with fail
        refine C.out.mono ?_
        rintro e w1 ⟨rfl, rfl⟩
        rw [HA.out]
        go_wp2_with fail
        go_ret
        rw [HV.out]
        exact ⟨rfl, rfl⟩
theorem size_any (h : Dsk w D s L) :
    Calls Try.prog 12 #[.pointer (some ⟨D, 0, none⟩)] w fun e w' => e = .returned (.int .i64 s.n) ∧ w' = w := by
  obtain ⟨gk, ck, gs, cs, av, m, cv, h, hl⟩ := h
  have c0 := h.c0
  clear h hl
  go_enter Try.func12, Try.ntmps12
  go_wp2_with fail
  go_ret
  exact ⟨rfl, rfl⟩
theorem waiting_any (h : Dsk w D s L) :
    Calls Try.prog 15 #[.pointer (some ⟨D, 0, none⟩)] w fun e w' => e = .returned (.int .i64 s.ws.length) ∧ w' = w := by
  obtain ⟨gk, ck, gs, cs, av, m, cv, h, hl⟩ := h
  have c2 := h.c2
  have HL := hide h.len
  clear h hl
  go_enter Try.func15, Try.ntmps15
  go_wp2_with fail
  go_ret
  rw [← HL.out]
  exact ⟨rfl, rfl⟩
theorem down_any (h : Dsk w D s L) :
    Calls Try.prog 14 #[.pointer (some ⟨D, 0, none⟩)] w fun e w' => e = .returned (.bool s.down) ∧ w' = w := by
  obtain ⟨gk, ck, gs, cs, av, m, cv, h, hl⟩ := h
  have c4 := h.c4
  clear h hl
  go_enter Try.func14, Try.ntmps14
  go_wp2_with fail
  go_ret
  exact ⟨rfl, rfl⟩
end

section
variable {w : World} {D gk ck gs cs m cv : Nat} {av : Option Addr} {s : Ds} {L : Nat → Prop}
/-- the numbers are set anew -/
theorem Dk.setL (h : Dk w D gk ck gs cs av m cv s) (z : Int) (z0 : 0 ≤ z) (z1 : z ≤ 9223372036854775807) : Dk (w.setCell ⟨D, 3, none⟩ (.int .i64 z)) D gk ck gs cs av m cv { s with left := z } := by
  have o : ∀ k, k ≠ D → (w.setCell ⟨D, 3, none⟩ (.int .i64 z)).heap[k]? = w.heap[k]? := fun k hk => Below.heap_setCell _ _ _ _ hk
  refine ⟨?_, ?_, ?_, World.cell?_setCell_same _ _ _ h.c3, ?_, fun o => by rw [World.frozen?_setCell]; exact h.f o, h.kept.same (o gk h.k1), h.shown.same (o gs h.s1), h.len, row_same h.ws (fun k hk => o k (fun e => by subst e; exact h.v1 hk)), h.kcap, h.scap, h.k1, h.s1, h.ks, h.v1, h.v2, h.v3, ⟨h.ok.lo, h.ok.hi, h.ok.kept, h.ok.ws, z0, z1⟩⟩
  · rw [World.cell?_setCell_other _ _ _ _ (by simp)]; exact h.c0
  · rw [World.cell?_setCell_other _ _ _ _ (by simp)]; exact h.c1
  · rw [World.cell?_setCell_other _ _ _ _ (by simp)]; exact h.c2
  · rw [World.cell?_setCell_other _ _ _ _ (by simp)]; exact h.c4
theorem Dk.setD (h : Dk w D gk ck gs cs av m cv s) (b : Bool) : Dk (w.setCell ⟨D, 4, none⟩ (.bool b)) D gk ck gs cs av m cv { s with down := b } := by
  have o : ∀ k, k ≠ D → (w.setCell ⟨D, 4, none⟩ (.bool b)).heap[k]? = w.heap[k]? := fun k hk => Below.heap_setCell _ _ _ _ hk
  refine ⟨?_, ?_, ?_, ?_, World.cell?_setCell_same _ _ _ h.c4, fun o => by rw [World.frozen?_setCell]; exact h.f o, h.kept.same (o gk h.k1), h.shown.same (o gs h.s1), h.len, row_same h.ws (fun k hk => o k (fun e => by subst e; exact h.v1 hk)), h.kcap, h.scap, h.k1, h.s1, h.ks, h.v1, h.v2, h.v3, ⟨h.ok.lo, h.ok.hi, h.ok.kept, h.ok.ws, h.ok.left0, h.ok.left1⟩⟩
  · rw [World.cell?_setCell_other _ _ _ _ (by simp)]; exact h.c0
  · rw [World.cell?_setCell_other _ _ _ _ (by simp)]; exact h.c1
  · rw [World.cell?_setCell_other _ _ _ _ (by simp)]; exact h.c2
  · rw [World.cell?_setCell_other _ _ _ _ (by simp)]; exact h.c3
/-- nothing waits any more -/
theorem Dk.setN (h : Dk w D gk ck gs cs av m cv s) (hs : Bks w gs s.n s.kept) : Dk (w.setCell ⟨D, 2, none⟩ (.slice none 0 0)) D gk ck gs cs none 0 0 { s with ws := [] } := by
  have o : ∀ k, k ≠ D → (w.setCell ⟨D, 2, none⟩ (.slice none 0 0)).heap[k]? = w.heap[k]? := fun k hk => Below.heap_setCell _ _ _ _ hk
  refine ⟨?_, ?_, World.cell?_setCell_same _ _ _ h.c2, ?_, ?_, fun o => by rw [World.frozen?_setCell]; exact h.f o, h.kept.same (o gk h.k1), hs.same (o gs h.s1), rfl, World.ownsRow_nil _ _ _ _, h.kcap, h.scap, h.k1, h.s1, h.ks, by simp [Value.ownBlock], by simp [Value.ownBlock], by simp [Value.ownBlock], ⟨h.ok.lo, h.ok.hi, h.ok.kept, fun x hx => by simp at hx, h.ok.left0, h.ok.left1⟩⟩
  · rw [World.cell?_setCell_other _ _ _ _ (by simp)]; exact h.c0
  · rw [World.cell?_setCell_other _ _ _ _ (by simp)]; exact h.c1
  · rw [World.cell?_setCell_other _ _ _ _ (by simp)]; exact h.c3
  · rw [World.cell?_setCell_other _ _ _ _ (by simp)]; exact h.c4

theorem count_any (h : Dk w D gk ck gs cs av m cv s) (hu : s.down = false) :
    Calls Try.prog 41 #[.pointer (some ⟨D, 0, none⟩)] w fun e w' => e = .returned (.int .i64 (hitE s)) ∧ Dk w' D gk ck gs cs av m cv (hitS s) ∧ Chg (· = D) w w' := by
  have c3 := h.c3
  have f3 := h.f 3
  have f4 := h.f 4
  have c4 := h.c4
  have z0 := h.ok.left0
  have z1 := h.ok.left1
  have H := hide h
  clear h
  by_cases h0 : s.left = 0
  · have HE : Hid (hitE s = 0) := by show _ = _; unfold hitE; rw [if_pos h0]
    have HS : Hid (hitS s = s) := by show _ = _; unfold hitS; rw [if_pos h0]
    rw [h0] at c3
    clear h0 hu
    go_enter Try.func41, Try.ntmps41
    go_wp2_with fail
    go_ret
    rw [HE.out, HS.out]
    exact ⟨rfl, H.out, Chg.refl _ _⟩
  · have HS : Hid (hitS s = { s with left := s.left - 1, down := decide (s.left - 1 = 0) }) := by show _ = _; unfold hitS; rw [if_neg h0]
    have hx : (s.left == 0) = false := by simpa using h0
    have K := hide ((H.out.setL (s.left - 1) (by omega) (by omega)).setD (decide (s.left - 1 = 0)))
    have KC : Hid (Chg (· = D) w ((w.setCell ⟨D, 3, none⟩ (.int .i64 (s.left - 1))).setCell ⟨D, 4, none⟩ (.bool (decide (s.left - 1 = 0))))) := ((Chg.refl (· = D) w).setCell (p := ⟨D, 3, none⟩) (.inl rfl) _).setCell (p := ⟨D, 4, none⟩) (.inl rfl) _
    have C := hide (ready_any K.out.c4)
    by_cases h1 : s.left - 1 = 0
    · have HE : Hid (hitE s = 40) := by show _ = _; unfold hitE; rw [if_neg h0, if_pos h1]
      have HA : Hid (armE { s with left := s.left - 1, down := decide (s.left - 1 = 0) } = 40) := by show _ = _; unfold armE; simp [h1]
      have hy : (s.left - 1 == 0) = true := by simpa using h1
      have hy2 : Hid (decide (s.left - 1 = 0) = true) := by show _ = _; simpa using h1
      have hz : s.left = 1 := by omega
      rw [hy2.out] at K KC C HA HS
      clear h0 h1 hy2
      rw [hz] at *
      clear hz
      go_enter Try.func41, Try.ntmps41
      go_wp2_with fail
      refine C.out.mono ?_
      rintro e w1 ⟨rfl, rfl⟩
      go_wp2_with fail
      go_ret
      rw [HE.out, HS.out, HA.out]
      exact ⟨rfl, K.out, KC.out⟩
    · have HE : Hid (hitE s = 0) := by show _ = _; unfold hitE; rw [if_neg h0, if_neg h1]
      have HA : Hid (armE { s with left := s.left - 1, down := decide (s.left - 1 = 0) } = 0) := by show _ = _; unfold armE; simp [h1]
      have hy : (s.left - 1 == 0) = false := by simpa using h1
      have hy2 : Hid (decide (s.left - 1 = 0) = false) := by show _ = _; simpa using h1
      rw [hy2.out] at K KC C HA HS
      clear h0 h1 hy2
      go_enter Try.func41, Try.ntmps41
      go_wp2_with fail
      refine C.out.mono ?_
      rintro e w1 ⟨rfl, rfl⟩
      go_wp2_with fail
      go_ret
      rw [HE.out, HS.out, HA.out]
      exact ⟨rfl, K.out, KC.out⟩

theorem Own.left (z : Value) : Own D gk gs z D := .inl rfl
theorem arm_any (h : Dsk w D s L) (n : Int) (n0 : -9223372036854775808 ≤ n) (n1 : n ≤ 9223372036854775807) :
    Calls Try.prog 18 #[.pointer (some ⟨D, 0, none⟩), .int .i64 n] w fun e w' => e = .returned (.int .i64 (armE s)) ∧ Mv w D L (armS s n) w' := by
  obtain ⟨gk, ck, gs, cs, av, m, cv, h, hl⟩ := h
  have C := hide (ready_any h.c4)
  have c3 := h.c3
  have f3 := h.f 3
  have H := hide h
  have HL := hide hl
  cases hd : s.down with
  | true =>
    have HA : Hid (armE s = 40) := by show _ = _; unfold armE; rw [hd]; rfl
    have HV : Hid (armS s n = s) := by show _ = _; unfold armS; rw [hd]; rfl
    clear hd h hl
    go_enter Try.func18, Try.ntmps18
    go_wp2_with fail
    refine C.out.mono ?_
    rintro e w1 ⟨rfl, rfl⟩
    rw [HA.out]
    go_wp2_with fail
    go_ret
    rw [HV.out, HA.out]
    exact ⟨rfl, Chg.refl _ _, gk, ck, gs, cs, av, m, cv, H.out, fun k hk => .inl (HL.out k hk)⟩
  | false =>
    have HA : Hid (armE s = 0) := by show _ = _; unfold armE; rw [hd]; rfl
    have HV : Hid (armS s n = { s with left := if 0 < n then n else 0 }) := by show _ = _; unfold armS; rw [hd]; rfl
    clear hd h hl
    by_cases hp : 0 < n
    · rw [if_pos hp] at HV
      go_enter Try.func18, Try.ntmps18
      go_wp2_with fail
      refine C.out.mono ?_
      rintro e w1 ⟨rfl, rfl⟩
      rw [HA.out]
      go_wp2_with fail
      go_ret
      rw [HV.out, HA.out]
      exact ⟨rfl, (Chg.refl _ _).setCell (.inl (HL.out D (.inl rfl))) _, gk, ck, gs, cs, av, m, cv, H.out.setL n (by omega) n1, fun k hk => .inl (HL.out k hk)⟩
    · rw [if_neg hp] at HV
      by_cases hq : n < 0
      · go_enter Try.func18, Try.ntmps18
        go_wp2_with fail
        refine C.out.mono ?_
        rintro e w1 ⟨rfl, rfl⟩
        rw [HA.out]
        go_wp2_with fail
        go_ret
        rw [HV.out, HA.out]
        exact ⟨rfl, (Chg.refl _ _).setCell (.inl (HL.out D (.inl rfl))) _, gk, ck, gs, cs, av, m, cv, H.out.setL 0 (by omega) (by omega), fun k hk => .inl (HL.out k hk)⟩
      · obtain rfl : n = 0 := by omega
        clear hp hq
        go_enter Try.func18, Try.ntmps18
        go_wp2_with fail
        refine C.out.mono ?_
        rintro e w1 ⟨rfl, rfl⟩
        rw [HA.out]
        go_wp2_with fail
        go_ret
        rw [HV.out, HA.out]
        exact ⟨rfl, (Chg.refl _ _).setCell (.inl (HL.out D (.inl rfl))) _, gk, ck, gs, cs, av, m, cv, H.out.setL 0 (by omega) (by omega), fun k hk => .inl (HL.out k hk)⟩
end
end Go.Proofs.Ytfkclebngldjmaa
