/- What the landed told tells: each place's end, and the place. Condition: the list can be read. -/
import Derived.Test.YthfjndlmihepbaaRgSmall
import Derived.Test.YthfjndlmihepbaaSeqGath
import Derived.RangeFuncBound
import Derived.RangeFuncCalls
import Derived.Shelf.RegionOpen
import Derived.WalkKit
import Derived.OwnWalkIn
import Derived.TacticsInMore
import Derived.LoopNIn
import Derived.LoopIn
namespace Go.Proofs.Ythfjndlmihepbaa
open Go.ChangeShapes Go.WideShapes Go.ChangeAt Go.RowKit Go.Shelf Rg
set_option linter.unusedVariables false
attribute [local go_sem] Oper.semAt_some

/-- the blocks that told's function reads: its box, the list's -/
def KT (Bx : Nat) (a : Option Addr) (n k : Nat) : Prop := k = Bx ∨ (0 < n ∧ ∃ ad, a = some ad ∧ ad.block = k)
set_option maxRecDepth 100000 in
theorem told_any (a : Option Addr) (n c : Nat) (w : World) : Calls Try.prog 32 #[.slice a n c] w fun e w' => e = .returned (.func (.func 41) #[] #[.pointer (some ⟨w.heap.size, 0, none⟩)]) ∧ Below w.heap.size w w' ∧ Boxed w' w.heap.size 22 (.slice a n c) := by
  go_enter Try.func32, Try.ntmps32
  go_wp2_with fail
  go_returns
  exact ⟨rfl, Below.alloc (Below.refl _ _) (Nat.le_refl _) _, Boxed.new w _ _⟩
/-- what told's function reads lies so in w -/
structure Ta (w : World) (Bx : Nat) (a : Option Addr) (n c : Nat) (l : List Pc) : Prop where
  bx : Boxed w Bx 22 (.slice a n c)
  ps : Ps w a n l
section
variable {w w' : World} {Bx : Nat} {a : Option Addr} {n c : Nat} {l : List Pc}
theorem Ta.lt (h : Ta w Bx a n c l) : ∀ k, KT Bx a n k → k < w.heap.size := fun k hk => by
  rcases hk with rfl | ⟨h0, ad, e, rfl⟩
  · exact h.bx.lt
  · obtain ⟨b, off, e2, hb, _⟩ := h.ps.cells h0
    rw [e] at e2
    obtain rfl := Option.some.inj e2
    exact hb
theorem Ta.keep (h : Ta w Bx a n c l) (hk : KeepK (KT Bx a n) w w') : Ta w' Bx a n c l :=
  ⟨(hk.same _ (.inl rfl)).trans h.bx, ⟨h.ps.len, fun h0 => by
    obtain ⟨b, off, e, hb, hc⟩ := h.ps.cells h0
    exact ⟨b, off, e, Nat.lt_of_lt_of_le hb hk.size, fun j x hj => range_same (hc j x hj) (hk.same b (.inr ⟨h0, _, e, rfl⟩))⟩, h.ps.room⟩⟩
theorem Ta.cells (h : Ta w Bx a n c l) : ∀ k, KT Bx a n k → ∃ o : Obj, w.heap[k]? = some o ∧ o.isCells = true := fun k hk => by
  rcases hk with rfl | ⟨h0, ad, e, rfl⟩
  · exact ⟨_, h.bx, rfl⟩
  · obtain ⟨b, off, x, e2, hx, hb, M⟩ := ps_at h.ps h0
    rw [e] at e2
    obtain rfl := Option.some.inj e2
    have h1 := M.c0
    cases ho : w.heap[b]? with
    | none => simp [World.cell?, ho] at h1
    | some o =>
      refine ⟨o, rfl, ?_⟩
      cases o <;> simp [World.cell?, ho, Obj.isCells] at h1 ⊢
end
set_option maxRecDepth 100000 in
set_option maxHeartbeats 4000000 in
theorem told1_tells {w : World} {Bx : Nat} {a : Option Addr} {n c : Nat} {l : List Pc} (h : Ta w Bx a n c l) :
    Tells Try.prog 41 #[.pointer (some ⟨Bx, 0, none⟩)] (xsL pval l) (KT Bx a n) w := by
  intro V hV l0 J Jx U hJ hJx hU hY h0
  have H := h.keep hV
  have hbx := H.bx.cell
  have hroom := H.ps.room
  rw [xsL_length, H.ps.len]
  have HH := hide H
  clear h hV H
  refine (callsIn_wide (n := 9)).1 (callsIn_of_wp Try.func41 rfl trivial ?_ rfl)
  simp only [Try.ntmps41, List.size_toArray, List.length_cons, List.length_nil, Nat.reduceAdd, Nat.reduceSub, Array.replicate_succ, Array.replicate_zero, List.push_toArray, List.append_toArray, List.nil_append, List.cons_append]
  gi_wp2
  gi_loopw [3, 4, 7] (fun _ _ iv wr => ∃ k : Nat, k ≤ n ∧ iv = .int .i64 k ∧ J k wr ∧ Hid (MineK U (KT Bx a n) V wr)) (fun _ _ iv _ => n - (intOf iv).toNat)
  case atStart => exact ⟨0, Nat.zero_le _, rfl, h0, ⟨Nat.le_refl _, fun b hb => ⟨rfl, fun hu => (hU b hu).2 hb⟩⟩⟩
  case round =>
    obtain ⟨k, hk, rfl, hj, HK⟩ := hrel
    by_cases hlt : k < n
    · have Hr := HH.out.keep HK.out.keepK
      have Hc := HH.out.cells
      obtain ⟨b, off, x, rfl, hx, hb, M⟩ := ps_at Hr.ps hlt
      obtain ⟨c0, c1, c2⟩ := M
      have cb := Hr.bx.cell
      have i1 : (k : Int) < (n : Int) := by omega
      have i2 : (0 : Int) ≤ (k : Int) := by omega
      have i3 : IntKind.i64.wrap ((k : Int) + 1) = (k : Int) + 1 := by rw [IntKind.wrap_i64]; omega
      have XA := xsL_at (penc := pval) hx
      obtain ⟨w1, ew⟩ : ∃ w1, w1 = wr.alloc (.cells #[.int .i64 x.g, .string x.k, .int .i64 x.ep] 39) := ⟨_, rfl⟩
      have B1 : Below wr.heap.size wr w1 := by rw [ew]; exact below_alloc (Below.refl _ _) _
      have S1 : Soft U V.heap.size wr w1.drew := Soft.of_below B1.drew
      have CE : Hid (∀ W : World, Below wr.heap.size wr W → Calls Try.prog 18 #[.slice (some ⟨b, off, none⟩) n c, .int .i64 k] W fun e w' => e = .returned (.string (endN l k)) ∧ w' = W) := fun W hW => by
        have := end_any (c := c) (Hr.ps.below hW) (k : Int) ⟨by omega, by omega⟩
        rwa [show endV l (k : Int) = endN l k from by unfold endV; rw [if_neg (by omega), Int.toNat_natCast]] at this
      have hmix : Try.prog.follows .mixedOrders = true := by kernel_rfl
      have B2 : Below wr.heap.size wr w1.drew := B1.drew
      have d0 : w1.drew.cell? ⟨Bx, 0, none⟩ = some (.slice (some ⟨b, off, none⟩) n c) := (B2.cell (p := ⟨Bx, 0, none⟩) Hr.bx.lt).trans cb
      obtain ⟨e0, e1, e2⟩ := (pb_new wr x).at_
      rw [← ew] at e0 e1 e2
      obtain ⟨fn, tmps, assign, body, hy, hR⟩ := yield_bool (m' := 8) (hY _ _ w1.drew XA (show V.heap.size ≤ w1.heap.size from Nat.le_trans HK.out.1 B1.size) ((hJ _).keep _ _ hj S1))
      simp only [pval] at hy
      have HKN : Hid (∀ w3, KeepU U w1.drew w3 → MineK U (KT Bx (some ⟨b, off, none⟩) n) V w3) := fun w3 hk3 => HK.out.next Hc (KeepU.trans (Y := w1.drew) (KeepU.of_below B2 ((hJ _).u _ _ hj S1)) hk3)
      clear Hr hb S1 XA hx Hc B1 hY
      gi_wp2
      rw [← ew]
      clear ew
      gi_region_with_o (first
        | (refine ⟨trivial, ?_⟩; gi_at_call 18; refine (callsIn_wide.2 (CE.out _ B2)).mono ?_; rintro e w3 ⟨rfl, hw⟩; rw [hw]; clear hw)
        | (refine hR.mono ?_; rintro e w3 ⟨ok, rfl, hq⟩; have HQ := hide hq; clear hq))
      all_goals simp only [List.getElem_toArray, List.getElem_cons_succ, List.getElem_cons_zero, Act.put, List.setIfInBounds_toArray, List.set_cons_zero, List.set_cons_succ]
      all_goals (rcases HQ.out with ⟨rfl, hj3, hk3, hf3⟩ | ⟨rfl, hj3, hk3, hf3⟩)
      all_goals gi_wp2
      all_goals first
        | (refine ⟨⟨k + 1, by omega, by simp, hj3, HKN.out _ hk3⟩, by simp [intOf]; omega⟩)
        | (refine bodyPost_ret (results_none rfl _ _ _) rfl ?_; exact ⟨⟨_, rfl⟩, .inr ⟨k, hlt, hj3⟩⟩)
    · obtain rfl : k = n := by omega
      gi_wp2
      go_end0
      exact ⟨⟨_, rfl⟩, .inl hj⟩
end Go.Proofs.Ythfjndlmihepbaa
