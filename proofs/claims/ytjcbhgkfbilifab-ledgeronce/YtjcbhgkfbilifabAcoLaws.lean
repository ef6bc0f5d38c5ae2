/- What the statements of layer 15 say of accounts as plain values. No program, no condition. -/
import Derived.Test.YtjcbhgkfbilifabAcoMath
namespace Go.Proofs.Ytjcbhgkfbilifab
namespace Ao
set_option linter.unusedVariables false

theorem upR_of {a : Ac} (h : Right a) (hl : a.lk.c = 0) : upR a = a.hi - (a.base + ups a.hs) := by unfold upR; rw [if_pos ⟨(right_iff a).2 h, hl⟩]
theorem downR_of {a : Ac} (h : Right a) (hl : a.lk.c = 0) : downR a = a.base - downs a.hs - a.lo := by unfold downR; rw [if_pos ⟨(right_iff a).2 h, hl⟩]
theorem addE_of {a : Ac} {n : Int} (h : Right a) (hn : ¬ n = 0) (hl : a.lk.c = 0) : addE a n = if (0 < n ∧ upR a < n) ∨ (n < 0 ∧ downR a < -n) then 150 else 0 := by
  unfold addE
  rw [if_pos ((right_iff a).2 h), if_neg hn, if_pos hl]
/-- AccountAdds: what is added can be taken away again -/
theorem add_back {a : Ac} {n : Int} (h : addE a n = 0) : addE (addA a n) (-n) = 0 ∧ addA (addA a n) (-n) = a ∧ (addA a n).base = a.base + n := by
  obtain ⟨hr, hn, hl, hb⟩ := add_ok h
  have hx := right_add h
  have e : addA a n = { a with base := a.base + n } := by unfold addA; rw [if_pos h]
  have hu := ups_nonneg hr.hs
  have h1 := hr.base
  have h2 := hr.up
  have h3 := hr.dn
  have hE : addE (addA a n) (-n) = 0 := by
    rw [addE_of hx (by omega) (by rw [e]; exact hl), upR_of hx (by rw [e]; exact hl), downR_of hx (by rw [e]; exact hl), e]
    simp only
    rw [if_neg (by omega)]
  refine ⟨hE, ?_, by rw [e]⟩
  have e2 : addA (addA a n) (-n) = { addA a n with base := (addA a n).base + -n } := by unfold addA; rw [if_pos (by exact hE)]
  rw [e2, e]
  obtain ⟨k, lo, hi, b, r, hs, lk⟩ := a
  simp only
  congr 1
  omega
theorem add_bound {a : Ac} {n : Int} (h : ¬ addE a n = 0) (hr : Right a) (hn : ¬ n = 0) (hl : a.lk.c = 0) : addE a n = 150 ∧ ((0 < n ∧ upR a < n) ∨ (n < 0 ∧ downR a < -n)) := by
  rw [addE_of hr hn hl] at h ⊢
  by_cases hb : (0 < n ∧ upR a < n) ∨ (n < 0 ∧ downR a < -n)
  · rw [if_pos hb]; exact ⟨rfl, hb⟩
  · rw [if_neg hb] at h; exact absurd rfl h
theorem add_other {a : Ac} {n : Int} (h : ¬ (Right a ∧ ¬ n = 0 ∧ a.lk.c = 0)) : addE a n = 21 ∨ addE a n = 1 ∨ addE a n = 152 := by
  unfold addE
  by_cases hr : rightB a = true
  · rw [if_pos hr]
    by_cases hn : n = 0
    · rw [if_pos hn]; exact .inr (.inl rfl)
    · rw [if_neg hn]
      by_cases hl : a.lk.c = 0
      · exact absurd ⟨(right_iff a).1 hr, hn, hl⟩ h
      · rw [if_neg hl]; exact .inr (.inr rfl)
  · rw [if_neg hr]; exact .inl rfl
/-- AccountGrants: what is lent comes out of the room, and goes to that node alone -/
theorem grant_said {a : Ac} {node lease nodes : Int} (h : grantE a node lease nodes = 0) (hsm : Small a) :
    findH (grantA a node lease nodes).hs node = some (grantH a node lease nodes) ∧ upOf (findH a.hs node) ≤ (grantH a node lease nodes).up ∧ dnOf (findH a.hs node) ≤ (grantH a node lease nodes).dn
    ∧ downR a - downR (grantA a node lease nodes) = (grantH a node lease nodes).dn - dnOf (findH a.hs node) ∧ upR a - upR (grantA a node lease nodes) = (grantH a node lease nodes).up - upOf (findH a.hs node)
    ∧ (grantA a node lease nodes).base = a.base ∧ (grantA a node lease nodes).lo = a.lo ∧ (grantA a node lease nodes).hi = a.hi
    ∧ (∀ o, ¬ o = node → findH (grantA a node lease nodes).hs o = findH a.hs o) ∧ (findH a.hs node = none → (grantH a node lease nodes).ls = lease) ∧ (∀ g, findH a.hs node = some g → (grantH a node lease nodes).ls = g.ls) := by
  obtain ⟨hr, h1, h2, h3, h4, h5, h6, h7⟩ := grant_ok h
  have hx := right_grant h hsm
  have e : grantA a node lease nodes = { a with hs := insH (grantH a node lease nodes) a.hs } := by unfold grantA; rw [if_pos h]
  have hxl : (grantA a node lease nodes).lk.c = 0 := by rw [e]; exact h7
  have hsum := sums_ins (h := grantH a node lease nodes) hr.hs
  have k1 : (grantH a node lease nodes).nd = node := rfl
  rw [k1] at hsum
  have s1 := share_le (v := upR a) (nodes := nodes) (room_nonneg a).2 h1
  have s2 := share_le (v := downR a) (nodes := nodes) (room_nonneg a).1 h1
  have o1 := of_small hsm node
  have m1 := more_le s1.1 o1.1
  have m2 := more_le s2.1 o1.2
  have fi := find_ins (h := grantH a node lease nodes) hr.hs
  rw [upR_of hr h7, downR_of hr h7, upR_of hx hxl, downR_of hx hxl, e]
  simp only
  refine ⟨by rw [fi, if_pos k1.symm], m1.1, m2.1, by omega, by omega, trivial, trivial, trivial, fun o ho => by rw [fi, k1, if_neg ho], fun hn => ?_, fun g hg => ?_⟩
  · show (match findH a.hs node with | some h => h.ls | none => lease) = lease
    rw [hn]
  · show (match findH a.hs node with | some h => h.ls | none => lease) = g.ls
    rw [hg]
/-- AccountRounds: a report of the first holder -/
theorem find_head {b : Int} {h : Hd} {r : List Hd} : findH (h :: r) h.nd = some h := by rw [find_cons, if_pos rfl]
theorem drop_head {b : Int} {h : Hd} {r : List Hd} (g : hsB b (h :: r) = true) : dropH (h :: r) h.nd = r := by
  obtain ⟨h1, h2, h3⟩ := hs_cons g
  rw [drop_cons, if_pos rfl, drop_none (find_low h3 (Int.le_refl _))]
theorem report_head {x : Ac} {h : Hd} {r : List Hd} {net : Int} (hr : Right x) (hh : x.hs = h :: r) (hrd : ¬ x.rd = 0) (h1 : net ≤ h.up) (h2 : 0 ≤ h.dn + net) :
    reportE x h.nd h.ls (x.rd + 1) net = 152 ∧ reportE x h.nd h.ls x.rd net = 0 ∧ reportA x h.nd h.ls x.rd net = { x with base := x.base + net, hs := r } ∧ reportE (reportA x h.nd h.ls x.rd net) h.nd h.ls x.rd net = 151 := by
  have hf : findH x.hs h.nd = some h := by rw [hh]; exact find_head (b := 0)
  have hrb := (right_iff x).2 hr
  have e1 : reportE x h.nd h.ls (x.rd + 1) net = 152 := by
    unfold reportE
    rw [if_pos hrb, hf]
    simp only
    rw [if_pos trivial, if_pos (.inr (by omega))]
  have e2 : reportE x h.nd h.ls x.rd net = 0 := by
    unfold reportE
    rw [if_pos hrb, hf]
    simp only
    rw [if_pos trivial, if_neg (fun hh => hh.elim hrd (fun h => h trivial)), if_neg (by omega)]
  have hs0 := hr.hs
  rw [hh] at hs0
  have e3 : reportA x h.nd h.ls x.rd net = { x with base := x.base + net, hs := r } := by
    unfold reportA
    rw [if_pos e2, hh, drop_head hs0]
  refine ⟨e1, e2, e3, ?_⟩
  have hx := right_report e2
  unfold reportE
  rw [if_pos ((right_iff _).2 hx), e3]
  simp only
  rw [find_low (hs_cons hs0).2.2 (Int.le_refl _)]
/-- AccountLocks: a lock changes nothing till it is freed -/
theorem take_said {a : Ac} {l : Lk} (h : takeE a l = 0) (n lo hi : Int) (commit : Bool) :
    ¬ addE (takeA a l) n = 0 ∧ ¬ boundsE (takeA a l) lo hi = 0 ∧ ¬ takeE (takeA a l) l = 0 ∧ ¬ grantE (takeA a l) 1 1 1 = 0 ∧ freeE (takeA a l) = 0
    ∧ freeE (freeA (takeA a l) commit) = 60 ∧ (takeA a l).base = a.base ∧ freeA (takeA a l) commit = { a with base := if commit then a.base + l.n else a.base, lk := lk0 } := by
  obtain ⟨ht, hk, h1, h2⟩ := take_ok h
  obtain ⟨hr, hh, hl⟩ := total_ok ht
  have hx := right_take h
  have e : takeA a l = { a with lk := l } := by unfold takeA; rw [if_pos h]
  have hc : ¬ (takeA a l).lk.c = 0 := by rw [e]; simp [lockB] at hk; show ¬ l.c = 0; omega
  have hnt : totalB (takeA a l) = false := by unfold totalB; rw [decide_eq_false hc]; simp
  have hrb := (right_iff _).2 hx
  have hf : freeE (takeA a l) = 0 := by unfold freeE; rw [if_pos hrb, if_neg hc]
  have hfa : freeA (takeA a l) commit = { a with base := if commit then a.base + l.n else a.base, lk := lk0 } := by unfold freeA; rw [if_pos hf, e]
  refine ⟨fun g => hc (add_ok g).2.2.1, fun g => (by rw [(bounds_ok g).1] at hnt; cases hnt), fun g => (by rw [(take_ok g).1] at hnt; cases hnt), fun g => hc (grant_ok g).2.2.2.2.2.2.2, hf, ?_, by rw [e], hfa⟩
  have hy := right_free (commit := commit) hf
  unfold freeE
  rw [if_pos ((right_iff _).2 hy), if_pos (by rw [hfa]; rfl)]
end Ao
end Go.Proofs.Ytjcbhgkfbilifab
