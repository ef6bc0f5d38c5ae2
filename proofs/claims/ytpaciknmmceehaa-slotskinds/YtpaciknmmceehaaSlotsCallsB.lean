/- A landed log's calls that only look: First, Top, Next, Len, Get; of a nil log too. No condition. -/
import Derived.Test.YtpaciknmmceehaaSlotsMemB
namespace Go.Proofs.Ytpaciknmmceehaa.Lb
open Go.ChangeShapes Go.WideShapes Go.ChangeAt Go.RowKit Sx
set_option linter.unusedVariables false

section
variable {w w' : World} {P : Nat} {L : Lay} {s : Ss Al}
theorem first_any (h : Lg w P L s) : Calls Try.prog 14 #[.pointer (some ⟨P, 0, none⟩)] w fun e w' => e = .returned (.int .i64 s.first) ∧ w' = w := by
  have c0 := h.c.1
  clear h
  go_enter Try.func14, Try.ntmps14
  go_wp2_with fail
  go_ret
  exact ⟨rfl, rfl⟩
theorem top_any (h : Lg w P L s) : Calls Try.prog 18 #[.pointer (some ⟨P, 0, none⟩)] w fun e w' => e = .returned (.int .i64 (topV s)) ∧ ∃ k, w' = w.drewN k := by
  obtain ⟨c0, _, c2, _⟩ := h.c
  have e1 : topV s = s.first + (L.bs.length : Int) := by rw [h.len]; rfl
  have f1 := h.ok.f1
  have f2 := h.ok.f2
  have l1 : L.bs.length ≤ 1024 := by have := h.ok.len; have := h.ok.m2; rw [h.len]; omega
  have e2 : IntKind.i64.wrap (s.first + (L.bs.length : Int)) = s.first + (L.bs.length : Int) := by rw [IntKind.wrap_i64]; omega
  rw [e1]
  rw [Lay.v] at c2
  clear h e1 f1 f2 l1
  go_enter Try.func18, Try.ntmps18
  go_wp2_with fail
  go_quiet (fail)
  go_wp2_with fail
  go_ret
  exact ⟨rfl, _, rfl⟩
/-- how many of the first m places are filled -/
theorem filled_any (h : Lg w P L s) {m : Nat} (hm : m ≤ s.ps.length) (c : Nat) : Calls Try.prog 29 #[.slice L.a m c] w fun e w' => e = .returned (.int .i64 (cnt (s.ps.take m))) ∧ w' = w := by
  have H := hide h
  have ML : Hid (m ≤ 1024) := by have := h.ok.len; have := h.ok.m2; exact Nat.le_trans hm (by omega)
  clear h
  go_enter Try.func29, Try.ntmps29
  go_wp2_with fail
  go_loopw [3, 5, 8] (fun nv _ iv wr => ∃ k : Nat, k ≤ m ∧ iv = .int .i64 k ∧ nv = .int .i64 (cnt (s.ps.take k)) ∧ Hid (wr = w)) (fun _ _ iv _ => m - (intOf iv).toNat)
  case atStart => exact ⟨0, Nat.zero_le _, rfl, by simp [cnt], rfl⟩
  case round =>
    obtain ⟨k, hk, rfl, rfl, HW⟩ := hrel
    obtain rfl := HW.out
    clear HW
    by_cases hlt : k < m
    · obtain ⟨b, o, e1, e2, hp⟩ := H.out.place (j := k) (by omega)
      obtain ⟨g, ea, cg, _⟩ := H.out.at e1
      have CT := hide (cnt_take_succ e2)
      have CL : Hid (cnt (s.ps.take k) ≤ k) := Nat.le_trans (cnt_le _) (by simp; omega)
      have i1 : (k : Int) < (m : Int) := by omega
      have i2 : (0 : Int) ≤ (k : Int) := by omega
      have MM := ML.out
      have i3 : IntKind.i64.wrap ((k : Int) + 1) = (k : Int) + 1 := by rw [IntKind.wrap_i64]; omega
      have i4 : IntKind.i64.wrap ((cnt (s.ps.take k) : Int) + 1) = (cnt (s.ps.take k) : Int) + 1 := by have := CL.out; rw [IntKind.wrap_i64]; omega
      rw [ea]
      generalize cnt (s.ps.take k) = q at *
      rcases hp.shape with ⟨rfl, rfl⟩ | ⟨b0, x, rfl, rfl, hx⟩
      · rw [show pv none = .pointer none from rfl] at cg
        clear e1 e2 hp ea MM
        go_wp2_with fail
        go_roundw
        case rel => exact ⟨k + 1, by omega, by go_num, by rw [CT.out]; simp, by first | exact rfl | exact hide trivial⟩
        case measure => simp [intOf]; omega
      · rw [show pv (some b0) = .pointer (some ⟨b0, 0, none⟩) from rfl] at cg
        clear e1 e2 hp ea hx MM
        go_wp2_with fail
        go_roundw
        case rel => exact ⟨k + 1, by omega, by go_num, by rw [CT.out]; simp, by first | exact rfl | exact hide trivial⟩
        case measure => simp [intOf]; omega
    · obtain rfl : k = m := by omega
      clear hlt hk
      go_wp2_with fail
      go_ret
      exact ⟨rfl, rfl⟩
theorem len_any (h : Lg w P L s) : Calls Try.prog 20 #[.pointer (some ⟨P, 0, none⟩)] w fun e w' => e = .returned (.int .i64 (cnt s.ps)) ∧ w' = w := by
  obtain ⟨_, _, c2, _⟩ := h.c
  have CF := hide (filled_any h (Nat.le_refl _) L.c)
  rw [Lay.v, h.len] at c2
  rw [List.take_length] at CF
  clear h
  go_enter Try.func20, Try.ntmps20
  go_wp2_with fail
  refine CF.out.mono ?_
  rintro e w2 ⟨rfl, rfl⟩
  go_wp2_with fail
  go_ret
  exact ⟨rfl, rfl⟩
set_option maxRecDepth 100000 in
/-- the first place that is not filled -/
theorem index_any (h : Lg w P L s) (m : Nat) (hm : m = s.ps.length) (c : Nat) : Calls Try.prog 32 #[.slice L.a m c, .pointer none] w fun e w' => e = .returned (.int .i64 (if nxt s.ps < m then (nxt s.ps : Int) else -1)) ∧ w' = w := by
  have H := hide h
  have ML : Hid (m ≤ 1024) := by have := h.ok.len; have := h.ok.m2; exact Nat.le_trans (by omega) (this)
  have NL : Hid (nxt s.ps ≤ m) := by rw [hm]; exact nxt_le _
  have NA : Hid (nxt s.ps < m → s.ps[nxt s.ps]? = some none) := fun hx => nxt_at _ (by rw [← hm]; exact hx)
  have NB := hide (nxt_below s.ps)
  have HM := hide hm
  obtain ⟨R, hR⟩ : ∃ R : Int, R = (if nxt s.ps < m then (nxt s.ps : Int) else -1) := ⟨_, rfl⟩
  rw [← hR]
  have HR := hide hR
  clear hR
  generalize nxt s.ps = q at *
  clear h hm
  go_enter Try.func32, Try.ntmps32
  go_wp2_with fail
  go_loopw [5, 8] (fun _ iv wr => ∃ k : Nat, k ≤ q ∧ iv = .int .i64 k ∧ Hid (wr = w)) (fun _ iv _ => m - (intOf iv).toNat)
  case atStart => exact ⟨0, Nat.zero_le _, rfl, rfl⟩
  case round =>
    obtain ⟨k, hk, rfl, HW⟩ := hrel
    obtain rfl := HW.out
    clear HW
    have MM := ML.out
    have QM := NL.out
    by_cases hlt : k < m
    · obtain ⟨b, o, e1, e2, hp⟩ := H.out.place (j := k) (by rw [← HM.out]; exact hlt)
      obtain ⟨g, ea, cg, _⟩ := H.out.at e1
      have i1 : (k : Int) < (m : Int) := by omega
      have i2 : (0 : Int) ≤ (k : Int) := by omega
      have i3 : IntKind.i64.wrap ((k : Int) + 1) = (k : Int) + 1 := by rw [IntKind.wrap_i64]; omega
      rw [ea]
      by_cases hq : k = q
      · subst hq
        have e3 := NA.out hlt
        rw [e2] at e3
        cases e3
        rcases hp.shape with ⟨rfl, _⟩ | ⟨b0, x, _, e4, _⟩
        · rw [show pv none = .pointer none from rfl] at cg
          clear e1 e2 hp ea
          go_wp2_with fail
          go_ret
          exact ⟨by have := HR.out; rw [if_pos hlt] at this; rw [this]; rfl, rfl⟩
        · cases e4
      · obtain ⟨x, hx⟩ := NB.out k (by omega)
        rw [e2] at hx
        cases hx
        rcases hp.shape with ⟨_, e4⟩ | ⟨b0, x, rfl, _, _⟩
        · cases e4
        · rw [show pv (some b0) = .pointer (some ⟨b0, 0, none⟩) from rfl] at cg
          have qN : ∀ W : World, (binOp .eql 59 (.pointer none) (.pointer (some ⟨b0, 0, none⟩))).run Try.prog W = .ok (.bool false) W := fun W => run_eql_nil_pointer W _ _ _ Try.underlying59
          clear e1 e2 hp ea MM QM
          go_wp2_with fail
          go_roundw
          case rel => exact ⟨k + 1, by omega, by go_num, by first | exact rfl | exact hide trivial⟩
          case measure => simp [intOf]; omega
    · obtain rfl : k = m := by omega
      obtain rfl : q = k := by omega
      clear hlt hk
      go_wp2_with fail
      go_ret
      exact ⟨by have := HR.out; rw [if_neg (by omega)] at this; rw [this]; rfl, rfl⟩
theorem next_any (h : Lg w P L s) : Calls Try.prog 16 #[.pointer (some ⟨P, 0, none⟩)] w fun e w' => e = .returned (.int .i64 (nextV s)) ∧ ∃ k, w' = w.drewN k := by
  obtain ⟨c0, _, c2, _⟩ := h.c
  have CI := hide (index_any h _ rfl L.c)
  have CT := hide (top_any h)
  rw [Lay.v, h.len] at c2
  have f1 := h.ok.f1
  have f2 := h.ok.f2
  have l1 : s.ps.length ≤ 1024 := by have := h.ok.len; have := h.ok.m2; omega
  have n1 := nxt_le s.ps
  by_cases hn : nxt s.ps < s.ps.length
  · rw [if_pos hn] at CI
    have e2 : IntKind.i64.wrap (s.first + (nxt s.ps : Int)) = s.first + (nxt s.ps : Int) := by rw [IntKind.wrap_i64]; omega
    have e3 : (0 : Int) ≤ (nxt s.ps : Int) := by omega
    have e4 : nextV s = s.first + (nxt s.ps : Int) := rfl
    rw [e4]
    clear h f1 f2 l1 n1 hn e4
    go_enter Try.func16, Try.ntmps16
    go_wp2_with fail
    refine CI.out.mono ?_
    rintro e w2 ⟨rfl, rfl⟩
    go_wp2_with fail
    go_ret
    exact ⟨rfl, 0, rfl⟩
  · rw [if_neg hn] at CI
    have e4 : nextV s = topV s := by unfold nextV topV; omega
    rw [e4]
    clear h f1 f2 l1 n1 hn e4
    go_enter Try.func16, Try.ntmps16
    go_wp2_with fail
    refine CI.out.mono ?_
    rintro e w2 ⟨rfl, rfl⟩
    go_wp2_with fail
    refine CT.out.mono ?_
    rintro e w2 ⟨rfl, hk⟩
    have HK := hide hk
    clear hk
    go_wp2_with fail
    go_ret
    exact ⟨rfl, HK.out⟩
end
end Go.Proofs.Ytpaciknmmceehaa.Lb
