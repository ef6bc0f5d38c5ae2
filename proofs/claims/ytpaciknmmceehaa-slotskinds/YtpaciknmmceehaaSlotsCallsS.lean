/- A landed log's calls that only look: First, Top, Next, Len, Get; of a nil log too. No condition. -/
import Derived.Test.YtpaciknmmceehaaSlotsMemS
namespace Go.Proofs.Ytpaciknmmceehaa.Ls
open Go.ChangeShapes Go.WideShapes Go.ChangeAt Go.RowKit Sx
set_option linter.unusedVariables false

section
variable {w w' : World} {P : Nat} {L : Lay} {s : Ss Al}
theorem first_any (h : Lg w P L s) : Calls Try.prog 24 #[.pointer (some ⟨P, 0, none⟩)] w fun e w' => e = .returned (.int .i64 s.first) ∧ w' = w := by
  have c0 := h.c.1
  clear h
  go_enter Try.func24, Try.ntmps24
  go_wp2_with fail
  go_ret
  exact ⟨rfl, rfl⟩
theorem top_any (h : Lg w P L s) : Calls Try.prog 26 #[.pointer (some ⟨P, 0, none⟩)] w fun e w' => e = .returned (.int .i64 (topV s)) ∧ ∃ k, w' = w.drewN k := by
  obtain ⟨c0, _, c2, _⟩ := h.c
  have e1 : topV s = s.first + (L.bs.length : Int) := by rw [h.len]; rfl
  have f1 := h.ok.f1
  have f2 := h.ok.f2
  have l1 : L.bs.length ≤ 1024 := by have := h.ok.len; have := h.ok.m2; rw [h.len]; omega
  have e2 : IntKind.i64.wrap (s.first + (L.bs.length : Int)) = s.first + (L.bs.length : Int) := by rw [IntKind.wrap_i64]; omega
  rw [e1]
  rw [Lay.v] at c2
  clear h e1 f1 f2 l1
  go_enter Try.func26, Try.ntmps26
  go_wp2_with fail
  go_quiet (fail)
  go_wp2_with fail
  go_ret
  exact ⟨rfl, _, rfl⟩
set_option maxRecDepth 100000 in
/-- the first place that is not filled -/
theorem index_any (h : Lg w P L s) (m : Nat) (hm : m = s.ps.length) (c : Nat) : Calls Try.prog 33 #[.slice L.a m c, .pointer none] w fun e w' => e = .returned (.int .i64 (if nxt s.ps < m then (nxt s.ps : Int) else -1)) ∧ w' = w := by
  have H := hide h
  have ML : Hid (m ≤ 1024) := by have := h.ok.len; have := h.ok.m2; exact Nat.le_trans (by omega) (this)
  have NL : Hid (nxt s.ps ≤ m) := by rw [hm]; exact nxt_le _
  have NA : Hid (nxt s.ps < m → s.ps[nxt s.ps]? = some none) := fun hx => nxt_at _ (by rw [← hm]; exact hx)
  have NB := hide (nxt_below s.ps)
  have HM := hide hm
  obtain ⟨R, hR⟩ : ∃ R : Int, R = (if nxt s.ps < m then (nxt s.ps : Int) else -1) := ⟨_, rfl⟩
  rw [← hR]
  have HR := hide hR
  clear hR
  generalize nxt s.ps = q at *
  clear h hm
  go_enter Try.func33, Try.ntmps33
  go_wp2_with fail
  go_loopw [5, 8] (fun _ iv wr => ∃ k : Nat, k ≤ q ∧ iv = .int .i64 k ∧ Hid (wr = w)) (fun _ iv _ => m - (intOf iv).toNat)
  case atStart => exact ⟨0, Nat.zero_le _, rfl, rfl⟩
  case round =>
    obtain ⟨k, hk, rfl, HW⟩ := hrel
    obtain rfl := HW.out
    clear HW
    have MM := ML.out
    have QM := NL.out
    by_cases hlt : k < m
    · obtain ⟨b, o, e1, e2, hp⟩ := H.out.place (j := k) (by rw [← HM.out]; exact hlt)
      obtain ⟨g, ea, cg, _⟩ := H.out.at e1
      have i1 : (k : Int) < (m : Int) := by omega
      have i2 : (0 : Int) ≤ (k : Int) := by omega
      have i3 : IntKind.i64.wrap ((k : Int) + 1) = (k : Int) + 1 := by rw [IntKind.wrap_i64]; omega
      rw [ea]
      by_cases hq : k = q
      · subst hq
        have e3 := NA.out hlt
        rw [e2] at e3
        cases e3
        rcases hp.shape with ⟨rfl, _⟩ | ⟨b0, x, _, e4, _⟩
        · rw [show pv none = .pointer none from rfl] at cg
          clear e1 e2 hp ea
          go_wp2_with fail
          go_ret
          exact ⟨by have := HR.out; rw [if_pos hlt] at this; rw [this]; rfl, rfl⟩
        · cases e4
      · obtain ⟨x, hx⟩ := NB.out k (by omega)
        rw [e2] at hx
        cases hx
        rcases hp.shape with ⟨_, e4⟩ | ⟨b0, x, rfl, _, _⟩
        · cases e4
        · rw [show pv (some b0) = .pointer (some ⟨b0, 0, none⟩) from rfl] at cg
          have qN : ∀ W : World, (binOp .eql 65 (.pointer none) (.pointer (some ⟨b0, 0, none⟩))).run Try.prog W = .ok (.bool false) W := fun W => run_eql_nil_pointer W _ _ _ Try.underlying65
          clear e1 e2 hp ea MM QM
          go_wp2_with fail
          go_roundw
          case rel => exact ⟨k + 1, by omega, by go_num, by first | exact rfl | exact hide trivial⟩
          case measure => simp [intOf]; omega
    · obtain rfl : k = m := by omega
      obtain rfl : q = k := by omega
      clear hlt hk
      go_wp2_with fail
      go_ret
      exact ⟨by have := HR.out; rw [if_neg (by omega)] at this; rw [this]; rfl, rfl⟩
theorem next_any (h : Lg w P L s) : Calls Try.prog 25 #[.pointer (some ⟨P, 0, none⟩)] w fun e w' => e = .returned (.int .i64 (nextV s)) ∧ ∃ k, w' = w.drewN k := by
  obtain ⟨c0, _, c2, _⟩ := h.c
  have CI := hide (index_any h _ rfl L.c)
  have CT := hide (top_any h)
  rw [Lay.v, h.len] at c2
  have f1 := h.ok.f1
  have f2 := h.ok.f2
  have l1 : s.ps.length ≤ 1024 := by have := h.ok.len; have := h.ok.m2; omega
  have n1 := nxt_le s.ps
  by_cases hn : nxt s.ps < s.ps.length
  · rw [if_pos hn] at CI
    have e2 : IntKind.i64.wrap (s.first + (nxt s.ps : Int)) = s.first + (nxt s.ps : Int) := by rw [IntKind.wrap_i64]; omega
    have e3 : (0 : Int) ≤ (nxt s.ps : Int) := by omega
    have e4 : nextV s = s.first + (nxt s.ps : Int) := rfl
    rw [e4]
    clear h f1 f2 l1 n1 hn e4
    go_enter Try.func25, Try.ntmps25
    go_wp2_with fail
    refine CI.out.mono ?_
    rintro e w2 ⟨rfl, rfl⟩
    go_wp2_with fail
    go_ret
    exact ⟨rfl, 0, rfl⟩
  · rw [if_neg hn] at CI
    have e4 : nextV s = topV s := by unfold nextV topV; omega
    rw [e4]
    clear h f1 f2 l1 n1 hn e4
    go_enter Try.func25, Try.ntmps25
    go_wp2_with fail
    refine CI.out.mono ?_
    rintro e w2 ⟨rfl, rfl⟩
    go_wp2_with fail
    refine CT.out.mono ?_
    rintro e w2 ⟨rfl, hk⟩
    have HK := hide hk
    clear hk
    go_wp2_with fail
    go_ret
    exact ⟨rfl, HK.out⟩
end
end Go.Proofs.Ytpaciknmmceehaa.Ls
