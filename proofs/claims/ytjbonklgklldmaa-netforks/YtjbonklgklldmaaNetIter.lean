/- What the landed net's All hands out, round by round: a packet with memory of its own. No condition. -/
import Derived.Test.YtjbonklgklldmaaNetAll
import Derived.Test.YtjbonklgklldmaaNetRange
import Derived.RangeFuncBound
import Derived.RangeFuncCalls
import Derived.Shelf.Abstract
import Derived.Shelf.RegionOpen
import Derived.WalkKit
import Derived.OwnWalkIn
import Derived.TacticsInMore
import Derived.LoopNIn
import Derived.LoopIn
namespace Go.Proofs.Ytjbonklgklldmaa
open Go.ChangeShapes Go.WideShapes Go.ChangeAt Go.RowKit Go.Shelf B8 Nm
set_option linter.unusedVariables false
attribute [local go_sem] Oper.semAt_some

/-- what comes in round k -/
def Comes (B0 : Nat) (C : List Pv) (k : Nat) (args : Array Value) (W : World) : Prop :=
  ∃ p g, C[k]? = some p ∧ args = #[.int .i64 k, .agg #[.int .i64 p.f, .int .i64 p.t, .slice (some ⟨g, 0, none⟩) p.n p.n]] ∧ Owned W g p.n p.b ∧ B0 ≤ g
/-- the iterator's blocks -/
def IterK (Bs : Nat) (v : Value) (C : List Pv) (k : Nat) : Prop := k = Bs ∨ v.ownBlock = some k ∨ ∃ p ∈ C, ∃ ad, p.a = some ad ∧ ad.block = k
theorem Kept.at {w : World} {N0 Bs m cv : Nat} {av : Option Addr} {C : List Pv} (h : Kept w N0 Bs (.slice av m cv) m C) {k : Nat} (hk : k < m) {p : Pv} (hp : C[k]? = some p) : ∃ g, av = some ⟨g, 0, none⟩ ∧ w.cell? ⟨g, k * 3, none⟩ = some (.int .i64 p.f) ∧ w.cell? ⟨g, k * 3 + 1, none⟩ = some (.int .i64 p.t) ∧ w.cell? ⟨g, k * 3 + 2, none⟩ = some (.slice p.a p.n p.cp) := by
  have hl := h.len
  have row := h.row
  obtain ⟨_, ⟨e1, e2⟩ | ⟨g, cp, cur, e1, _⟩⟩ := id row
  · omega
  · obtain ⟨e3, e4⟩ : av = some ⟨g, 0, none⟩ ∧ cv = cp := by simpa using e1
    rw [e3] at row
    have hc : ∀ j, j < 3 → w.cell? ⟨g, k * 3 + j, none⟩ = p.cells[j]? := fun j hj => by
      rw [row.cellAt (k * 3 + j) (by omega)]
      exact pcells_at _ _ _ hp j hj
    exact ⟨g, e3, (hc 0 (by omega)).trans rfl, (hc 1 (by omega)).trans rfl, (hc 2 (by omega)).trans rfl⟩
theorem Kept.ltK {w : World} {N0 Bs m : Nat} {v : Value} {C : List Pv} (h : Kept w N0 Bs v m C) {k : Nat} (hk : IterK Bs v C k) : k < w.heap.size := by
  rcases hk with rfl | hk | ⟨p, hp, ad, e, rfl⟩
  · exact h.box.lt
  · exact (h.row.lt k hk).2
  · exact (h.ins p hp).2 ad e
set_option maxRecDepth 100000 in
set_option maxHeartbeats 2000000 in
theorem all2_in (n l N0 B0 Bs m : Nat) {v : Value} {C : List Pv} (hm : m ≤ 256) (hn : ∀ p ∈ C, p.n ≤ 16384) (J : Nat → World → Prop) (hJ : ∀ k W W', J k W → Below W.heap.size W W' → J k W')
    (hY : ∀ k args W, k < m → J k W → Comes B0 C k args W → YieldAt Fence.wide (n - 1) Try.prog l args W fun e W' => e = .returned (.bool true) ∧ J (k + 1) W' ∧ KeepK (IterK Bs v C) W W')
    (W : World) (h : Kept W N0 Bs v m C) (hB0 : B0 ≤ W.heap.size) (h0 : J 0 W) :
    CallsIn Fence.wide n Try.prog 23 #[.func (.yield l) #[] #[], .pointer (some ⟨Bs, 0, none⟩)] W fun e W' => (∃ v, e = .returned v) ∧ J m W' := by
  obtain ⟨av, cv, rfl⟩ := h.shape
  have hbs := h.box.cell
  have H := hide h
  have HN := hide hn
  have hn1 : (m : Int) < 9223372036854775807 := by omega
  clear h hn
  refine callsIn_of_wp Try.func23 rfl trivial ?_ rfl
  simp only [Try.ntmps23, List.size_toArray, List.length_cons, List.length_nil, Nat.reduceAdd, Nat.reduceSub, Array.replicate_succ, Array.replicate_zero, List.push_toArray, List.append_toArray, List.nil_append, List.cons_append]
  gi_wp2
  gi_loopw [7] (fun i wr => ∃ k : Nat, k ≤ m ∧ i = .int .i64 k ∧ J k wr ∧ Hid (KeepK (IterK Bs (.slice av m cv) C) W wr)) (fun i _ => m - (intOf i).toNat)
  case atStart => exact ⟨0, Nat.zero_le _, rfl, h0, KeepK.refl _ _⟩
  case round =>
    obtain ⟨k, hk, rfl, hj, HK⟩ := hrel
    have HS := hide HK.out.size
    by_cases hlt : k < m
    · have hkl : k < C.length := by have := H.out.len; omega
      obtain ⟨p, hp⟩ : ∃ p, C[k]? = some p := ⟨C[k], by simp [hkl]⟩
      have hpm : p ∈ C := List.mem_of_getElem? hp
      obtain ⟨g, rfl, k0, k1, k2⟩ := H.out.at hlt hp
      have eo : wr.heap[g]? = W.heap[g]? := HK.out.same g (.inr (.inl rfl))
      have c0 : wr.cell? ⟨g, k * 3, none⟩ = some (.int .i64 p.f) := (World.cell?_of_block (a := ⟨g, k * 3, none⟩) eo).trans k0
      have c1 : wr.cell? ⟨g, k * 3 + 1, none⟩ = some (.int .i64 p.t) := (World.cell?_of_block (a := ⟨g, k * 3 + 1, none⟩) eo).trans k1
      have c2 : wr.cell? ⟨g, k * 3 + 2, none⟩ = some (.slice p.a p.n p.cp) := (World.cell?_of_block (a := ⟨g, k * 3 + 2, none⟩) eo).trans k2
      have PI : Hid (p.In wr) := (H.out.ins p hpm).same HS.out (fun ad e => HK.out.same _ (.inr (.inr ⟨p, hpm, ad, e, rfl⟩)))
      have PN := hide (HN.out p hpm)
      have HP := hide hp
      have bb : Hid (Below wr.heap.size wr (wr.alloc (.cells #[.int .i64 p.f, .int .i64 p.t, .slice p.a p.n p.cp] 33))) := below_alloc (Below.refl _ _) _
      have CO := hide (own_any (PI.out.below bb.out).1 (by have := PN.out; omega) p.f p.t)
      have i1 : (k : Int) < (m : Int) := by omega
      have i2 : (0 : Int) ≤ (k : Int) := by omega
      have i3 : IntKind.i64.wrap ((k : Int) + 1) = (k : Int) + 1 := by rw [IntKind.wrap_i64]; omega
      clear k0 k1 k2 eo hp hpm
      gi_wp2
      refine ⟨trivial, (fun h => by cases h), ?_⟩
      refine (callsIn_wide.2 CO.out).mono ?_
      rintro e w2 ⟨g0, rfl, hg1, hg2, ho2, hb2⟩
      have B2 := hide (below_step bb.out hb2)
      obtain ⟨fn, tmps, assign, body, hy, hR⟩ := hY k #[.int .i64 k, .agg #[.int .i64 p.f, .int .i64 p.t, .slice (some ⟨g0, 0, none⟩) p.n p.n]] w2 hlt (hJ k wr w2 hj B2.out) ⟨p, g0, HP.out, rfl, ho2, by have h1 := bb.out.size; have h2 := HS.out; omega⟩
      clear hg1 hg2 ho2 hb2 c0 c1 c2 hbs
      gi_wp2
      refine ⟨(fun h => by cases h), hR.mono ?_⟩
      rintro e w3 ⟨rfl, hj3, hk3⟩
      have K3 : Hid (KeepK (IterK Bs (.slice (some ⟨g, 0, none⟩) m cv) C) W w3) := (HK.out.trans (keepK_below (fun q hq => Nat.lt_of_lt_of_le (H.out.ltK hq) HS.out) B2.out)).trans hk3
      clear hk3 B2 hj
      gi_wp2
      go_roundw
      case rel => exact ⟨k + 1, by omega, by simp, hj3, K3⟩
      case measure => simp [intOf]; omega
    · obtain rfl : k = m := by omega
      gi_wp2
      go_end0
      exact ⟨⟨_, rfl⟩, hj⟩
end Go.Proofs.Ytjbonklgklldmaa
