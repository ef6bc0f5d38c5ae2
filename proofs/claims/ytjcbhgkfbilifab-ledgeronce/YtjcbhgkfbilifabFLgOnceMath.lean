/- What a node has spent of one account, as its ledger has it: the plain side of LedgerOnce. No condition. -/
import Derived.Test.YtjcbhgkfbilifabJZ
namespace Go.Proofs.Ytjcbhgkfbilifab
open Ao Lg
set_option linter.unusedVariables false

/-- the ledger has just what the node has spent of its lease of A, and that is within what is lent -/
structure LS (A : Ac) (node : Int) (L : List Rt) (net : Int) : Prop where
  no : findH A.hs node = none → L = [] ∧ net = 0
  yes : ∀ x, findH A.hs node = some x → ((L = [] ∧ net = 0) ∨ L = [⟨2, A.key, x.ls, net⟩]) ∧ spB x net = true
theorem sp_iff {x : Hd} {n : Int} : spB x n = true ↔ -x.dn ≤ n ∧ n ≤ x.up := by unfold spB; exact decide_eq_true_iff
theorem hd_at_ {A : Ac} {node : Int} {x : Hd} (hr : Ao.Right A) (h : findH A.hs node = some x) : x.nd ≤ 5 ∧ 1 ≤ x.ls ∧ 0 ≤ x.up ∧ 0 ≤ x.dn := hd_facts (hs_mem hr.hs x (find_mem h).1).2
theorem LS.start {A : Ac} {node : Int} (hr : Ao.Right A) : LS A node [] 0 := ⟨fun _ => ⟨rfl, rfl⟩, fun x hx => ⟨.inl ⟨rfl, rfl⟩, by
  have := hd_at_ hr hx
  exact sp_iff.2 ⟨by omega, by omega⟩⟩⟩
theorem led_one {r : Rt} (h : mayB r = true) : Led [r] := ⟨fun x hx => by simp at hx; subst hx; exact h, by simp⟩
theorem may_two {A : Ac} {node net : Int} {x : Hd} (hr : Ao.Right A) (h : findH A.hs node = some x) : mayB ⟨2, A.key, x.ls, net⟩ = true := by
  have hx := hd_at_ hr h
  have hk : keyB A.key = true := hr.key
  unfold mayB
  simp only
  rw [hk, decide_eq_true hx.2.1]
  rfl
theorem net_one {g ls n : Int} {k : ByteArray} : netL [⟨g, k, ls, n⟩] g k ls = n := by
  unfold netL
  have : isL g k ls ⟨g, k, ls, n⟩ = true := by simp [isL]
  rw [List.find?_cons, this]
theorem LS.led {A : Ac} {node net : Int} {L : List Rt} (hr : Ao.Right A) (hw : AcW A) (h : LS A node L net) : ledB L = true ∧ (∀ r ∈ L, RtW r) ∧ L.length ≤ 1 ∧ (∀ x, findH A.hs node = some x → netL L 2 A.key x.ls = net) ∧ I64 net := by
  cases hf : findH A.hs node with
  | none =>
    obtain ⟨rfl, rfl⟩ := h.no hf
    exact ⟨led_iff.2 led_nil, fun r hr => by simp at hr, by simp, (fun x hx => by cases hx), ⟨by decide, by decide⟩⟩
  | some x =>
    obtain ⟨h1, h2⟩ := h.yes x hf
    have hX := hw.hs x (find_mem hf).1
    have h3 := sp_iff.1 h2
    have h4 := hX.up
    have h5 := hX.dn
    have hn : I64 net := by unfold I64 at *; omega
    rcases h1 with ⟨rfl, rfl⟩ | rfl
    · exact ⟨led_iff.2 led_nil, fun r hr => by simp at hr, by simp, fun y hy => rfl, hn⟩
    · refine ⟨led_iff.2 (led_one (may_two hr hf)), fun r hr => ?_, by simp, fun y hy => ?_, hn⟩
      · simp at hr
        subst hr
        exact ⟨⟨show (-9223372036854775808 : Int) ≤ 2 by decide, show (2 : Int) ≤ 9223372036854775807 by decide⟩, hw.key, hX.ls, hn⟩
      · obtain rfl := Option.some.inj hy
        exact net_one
theorem held_two {L : List Rt} {B : Ac} (hl : ledB L = true) (hB : Ao.Right B) (node : Int) : heldE L 2 B node = if (findH B.hs node).isSome then 0 else 151 := by
  unfold heldE
  rw [if_pos ⟨hl, (right_iff B).2 hB⟩, if_pos (show grpB 2 = true by decide)]
theorem held_some {L : List Rt} {B : Ac} {node : Int} {x : Hd} (hl : ledB L = true) (hB : Ao.Right B) (hf : findH B.hs node = some x) : heldE L 2 B node = 0 ∧ heldH L 2 B node = x ∧ heldR L 2 B node = ⟨2, B.key, x.ls, netL L 2 B.key x.ls⟩ := by
  have h0 : heldE L 2 B node = 0 := by rw [held_two hl hB, hf]; rfl
  have h1 : heldH L 2 B node = x := by unfold heldH; rw [if_pos h0, hf]; rfl
  exact ⟨h0, h1, by unfold heldR; rw [if_pos h0, h1]⟩
theorem LS.next {A : Ac} {node net v : Int} {L : List Rt} (hr : Ao.Right A) (hw : AcW A) (hrd : A.rd = 0) (h : LS A node L net) (he : spendE L 2 A node v = 0) :
    ∃ x, findH A.hs node = some x ∧ spendR L 2 A node v = ⟨2, A.key, x.ls, net + v⟩ ∧ putE L ⟨2, A.key, x.ls, net + v⟩ = 0 ∧ putL L ⟨2, A.key, x.ls, net + v⟩ = [⟨2, A.key, x.ls, net + v⟩] ∧ LS A node [⟨2, A.key, x.ls, net + v⟩] (net + v) ∧ net + v ≤ x.up ∧ -x.dn ≤ net + v ∧ I64 (net + v) := by
  obtain ⟨g1, g2, g3, g4, g5⟩ := h.led hr hw
  have he' := he
  unfold spendE at he'
  cases hf : findH A.hs node with
  | none =>
    rw [held_two g1 hr, hf] at he'
    simp at he'
    by_cases hv : v = 0
    · rw [if_pos hv] at he'; omega
    · rw [if_neg hv] at he'; omega
  | some x =>
    obtain ⟨h0, h1, h2⟩ := held_some g1 hr hf
    rw [g4 x hf] at h2
    rw [h0, h1, h2] at he'
    simp only [hrd, if_true] at he'
    rw [if_neg (by omega)] at he'
    by_cases hv : v = 0
    · rw [if_pos hv] at he'; omega
    · rw [if_neg hv] at he'
      by_cases hs : spB x (net + v) = true
      · have hb := sp_iff.1 hs
        have hX := hw.hs x (find_mem hf).1
        have h4 := hX.up
        have h5 := hX.dn
        have hn : I64 (net + v) := by unfold I64 at *; omega
        have hm : mayB ⟨2, A.key, x.ls, net + v⟩ = true := may_two hr hf
        have hE : putE L ⟨2, A.key, x.ls, net + v⟩ = 0 := by unfold putE; rw [if_pos g1, if_pos hm]
        refine ⟨x, rfl, ?_, hE, ?_, ?_, hb.2, hb.1, hn⟩
        · unfold spendR
          rw [if_pos he, h2]
        · unfold putL
          rw [if_pos hE]
          rcases (h.yes x hf).1 with ⟨rfl, _⟩ | rfl
          · rfl
          · have o0 : ordR ⟨2, A.key, x.ls, net⟩ ⟨2, A.key, x.ls, net + v⟩ = 0 := ord_zero.2 ⟨rfl, rfl⟩
            rw [ins_cons, if_neg (by omega), if_pos o0]
        · refine ⟨(fun e => by rw [hf] at e; cases e), fun y hy => ?_⟩
          rw [hf] at hy
          obtain rfl := Option.some.inj hy
          exact ⟨.inr rfl, hs⟩
      · rw [if_neg hs] at he'; omega
theorem once_end {A : Ac} {node net r : Int} {L : List Rt} {x : Hd} (hr : Ao.Right A) (hw : AcW A) (hrd : A.rd = 0) (h : LS A node L net) (hf : findH A.hs node = some x) (he : freezeE A r = 0) :
    spendE L 2 (freezeA A r) node 1 = 152 ∧ repB L 2 (freezeA A r) node = true ∧ repC L 2 (freezeA A r) node = ⟨2, node, A.key, x.ls, r, net⟩ ∧ reportE (freezeA A r) node x.ls r net = 0
      ∧ repB L 2 (reportA (freezeA A r) node x.ls r net) node = false ∧ thawE (reportA (freezeA A r) node x.ls r net) = 0 ∧ spendE L 2 (thawA (reportA (freezeA A r) node x.ls r net)) node 1 = 151 ∧ (thawA (reportA (freezeA A r) node x.ls r net)).base = A.base + net := by
  obtain ⟨g1, g2, g3, g4, g5⟩ := h.led hr hw
  obtain ⟨_, hn⟩ := freeze_ok he
  have hr0 : ¬ r = 0 := by have := of_decide_eq_true hn; omega
  have h1 : freezeA A r = { A with rd := r } := by unfold freezeA; rw [if_pos he, if_pos hrd]
  have hR1 : Ao.Right (freezeA A r) := right_freeze he
  rw [h1] at hR1 ⊢
  obtain ⟨e0, e1, e2⟩ := held_some (B := { A with rd := r }) g1 hR1 hf
  have e2' : heldR L 2 { A with rd := r } node = ⟨2, A.key, x.ls, net⟩ := by rw [e2]; show (⟨2, A.key, x.ls, netL L 2 A.key x.ls⟩ : Rt) = _; rw [g4 x hf]
  have hb := sp_iff.1 (h.yes x hf).2
  have hE : reportE { A with rd := r } node x.ls r net = 0 := by
    unfold reportE
    rw [if_pos ((right_iff _).2 hR1)]
    simp only [hf]
    simp [hr0]
    omega
  have h2 : reportA { A with rd := r } node x.ls r net = { A with rd := r, base := A.base + net, hs := dropH A.hs node } := by unfold reportA; rw [if_pos hE]
  have hR2 : Ao.Right (reportA { A with rd := r } node x.ls r net) := right_report hE
  have hnone : findH (dropH A.hs node) node = none := by rw [find_drop node hr.hs node, if_pos rfl]
  have hT : thawE (reportA { A with rd := r } node x.ls r net) = 0 := by unfold thawE; rw [if_pos ((right_iff _).2 hR2)]
  have h3 : thawA (reportA { A with rd := r } node x.ls r net) = { A with rd := 0, base := A.base + net, hs := dropH A.hs node } := by unfold thawA; rw [if_pos hT, h2]
  have hR3 : Ao.Right (thawA (reportA { A with rd := r } node x.ls r net)) := right_thaw hT
  have hB1 : repB L 2 { A with rd := r } node = true := by unfold repB; rw [e0]; simp [hr0]
  refine ⟨?_, hB1, ?_, hE, ?_, hT, ?_, by rw [h3]⟩
  · unfold spendE
    rw [e0]
    simp [hr0]
  · unfold repC
    rw [if_pos hB1, e1, e2']
  · unfold repB
    rw [held_two g1 hR2, h2]
    simp only
    rw [hnone]
    rfl
  · unfold spendE
    rw [held_two g1 hR3, h3]
    simp only
    rw [hnone]
    rfl
end Go.Proofs.Ytjcbhgkfbilifab
