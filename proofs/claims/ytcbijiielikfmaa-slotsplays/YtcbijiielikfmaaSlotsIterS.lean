/- What the landed log's All tells. No condition. -/
import Derived.Test.YtcbijiielikfmaaSlotsCloneS
import Derived.Test.YtcbijiielikfmaaSeqMem
import Derived.RangeFuncBound
import Derived.RangeFuncCalls
import Derived.Shelf.Abstract
import Derived.Shelf.RegionOpen
import Derived.WalkKit
import Derived.OwnWalkIn
import Derived.TacticsInMore
import Derived.LoopNIn
import Derived.LoopIn
namespace Go.Proofs.Ytcbijiielikfmaa.Ls
open Go.ChangeShapes Go.WideShapes Go.ChangeAt Go.RowKit Go.Shelf Sx
set_option linter.unusedVariables false
attribute [local go_sem] Oper.semAt_some

def argsOf (p : Int × Al) : Array Value := #[.int .i64 p.1, va p.2]
/-- the blocks that All's function reads -/
def KA (Bp Bf : Nat) (v : Value) (bs : List (Option Nat)) (k : Nat) : Prop := k = Bp ∨ k = Bf ∨ v.ownBlock = some k ∨ some k ∈ bs
/-- what All keeps, and what lies there -/
structure Ka (w : World) (N0 Bp Bf : Nat) (v : Value) (F : Int) (bs : List (Option Nat)) (ps : List (Option Al)) : Prop where
  kt : Kt w N0 Bp Bf v F bs
  len : bs.length = ps.length
  most : ps.length ≤ 1024
  f1 : 1 ≤ F
  f2 : F ≤ 1099511627776
  pl : ∀ (j : Nat) (b : Option Nat) (o : Option Al), bs[j]? = some b → ps[j]? = some o → Pl w b o
section
variable {w w' : World} {N0 Bp Bf : Nat} {v : Value} {F : Int} {bs : List (Option Nat)} {ps : List (Option Al)}
theorem Ka.keep (h : Ka w N0 Bp Bf v F bs ps) (hk : KeepK (KA Bp Bf v bs) w w') : Ka w' N0 Bp Bf v F bs ps :=
  ⟨⟨(hk.same _ (.inr (.inl rfl))).trans h.kt.bf, (hk.same _ (.inl rfl)).trans h.kt.bp, row_same h.kt.row (fun k hk' => hk.same k (.inr (.inr (.inl hk')))), h.kt.shape, h.kt.lf, h.kt.lp⟩, h.len, h.most, h.f1, h.f2,
    fun j b o h1 h2 => (h.pl j b o h1 h2).same (fun k e => hk.same k (.inr (.inr (.inr (by rw [← e]; exact List.mem_of_getElem? h1)))))⟩
theorem Ka.cells (h : Ka w N0 Bp Bf v F bs ps) : ∀ k, KA Bp Bf v bs k → ∃ o : Obj, w.heap[k]? = some o ∧ o.isCells = true := fun k hk => by
  rcases hk with rfl | rfl | hk | hk
  · exact ⟨_, h.kt.bp, rfl⟩
  · exact ⟨_, h.kt.bf, rfl⟩
  · obtain ⟨_, ⟨e, _⟩ | ⟨g, cp, cur, e, _, h3, _⟩⟩ := h.kt.row
    · rw [e] at hk; simp [Value.ownBlock] at hk
    · rw [e] at hk
      simp [Value.ownBlock] at hk
      subst hk
      exact ⟨_, h3, rfl⟩
  · obtain ⟨j, hj⟩ := List.getElem?_of_mem hk
    have hl := (List.getElem?_eq_some_iff.1 hj).1
    have h2 : ps[j]? = some (ps[j]'(by rw [← h.len]; exact hl)) := List.getElem?_eq_getElem _
    rcases (h.pl j _ _ hj h2).shape with ⟨e, _⟩ | ⟨k1, x, e, _, h3⟩
    · cases e
    · cases e
      exact ⟨_, h3, rfl⟩
theorem Ka.lt (h : Ka w N0 Bp Bf v F bs ps) : ∀ k, KA Bp Bf v bs k → k < w.heap.size := fun k hk => by
  rcases hk with rfl | rfl | hk | hk
  · exact h.kt.bp.lt
  · exact h.kt.bf.lt
  · exact (h.kt.row.lt k hk).2
  · obtain ⟨j, hj⟩ := List.getElem?_of_mem hk
    have hl := (List.getElem?_eq_some_iff.1 hj).1
    have h2 : ps[j]? = some (ps[j]'(by rw [← h.len]; exact hl)) := List.getElem?_eq_getElem _
    rcases (h.pl j _ _ hj h2).shape with ⟨e, _⟩ | ⟨k1, x, e, _, h3⟩
    · cases e
    · cases e
      exact (Array.getElem?_eq_some_iff.1 h3).1
theorem Ka.at {av : Option Addr} {m cv : Nat} (h : Ka w N0 Bp Bf (.slice av m cv) F bs ps) {j : Nat} (hj : j < ps.length) (hm : m = bs.length) : ∃ g b o, av = some ⟨g, 0, none⟩ ∧ bs[j]? = some b ∧ ps[j]? = some o ∧ w.cell? ⟨g, j, none⟩ = some (pv b) ∧ Pl w b o := by
  subst hm
  have h1 : bs[j]? = some (bs[j]'(by rw [h.len]; exact hj)) := List.getElem?_eq_getElem _
  have h2 : ps[j]? = some ps[j] := List.getElem?_eq_getElem hj
  have row := h.kt.row
  have hl := h.len
  obtain ⟨_, ⟨e1, e2⟩ | ⟨g, cp, cur, e1, _, e3, _⟩⟩ := id row
  · omega
  · simp only [Value.slice.injEq] at e1
    have hr : w.ownsRow N0 77 1 (.slice (some ⟨g, 0, none⟩) bs.length cv) bs.length (bs.map pv) := by rw [e1.1] at row; exact row
    refine ⟨g, _, _, e1.1, h1, h2, ?_, h.pl j _ _ h1 h2⟩
    rw [hr.cellAt j (by omega), List.getElem?_map, h1]
    rfl
end
set_option maxRecDepth 100000 in
set_option maxHeartbeats 2000000 in
theorem all2_tells {w : World} {N0 Bp Bf : Nat} {v : Value} {F : Int} {bs : List (Option Nat)} {ps : List (Option Al)} (h : Ka w N0 Bp Bf v F bs ps) :
    Tells Try.prog 82 #[.pointer (some ⟨Bp, 0, none⟩), .pointer (some ⟨Bf, 0, none⟩)] ((allL F ps).map argsOf) (KA Bp Bf v bs) w := by
  intro V hV l J Jx U hJ hJx hU hY h0
  have H := h.keep hV
  obtain ⟨av, cv, rfl⟩ := H.kt.shape
  have hbp := H.kt.bp.cell
  rw [List.length_map, allL_length]
  have HH := hide H
  clear h hV H
  refine (callsIn_wide (n := 9)).1 (callsIn_of_wp Try.func82 rfl trivial ?_ rfl)
  simp only [Try.ntmps82, List.size_toArray, List.length_cons, List.length_nil, Nat.reduceAdd, Nat.reduceSub, Array.replicate_succ, Array.replicate_zero, List.push_toArray, List.append_toArray, List.nil_append, List.cons_append]
  gi_wp2
  rw [HH.out.len]
  gi_loopw [4, 5, 8] (fun _ _ iv wr => ∃ k : Nat, k ≤ ps.length ∧ iv = .int .i64 k ∧ J (cnt (ps.take k)) wr ∧ Hid (MineK U (KA Bp Bf (.slice av bs.length cv) bs) V wr)) (fun _ _ iv _ => ps.length - (intOf iv).toNat)
  case atStart => exact ⟨0, Nat.zero_le _, rfl, h0, ⟨Nat.le_refl _, fun b hb => ⟨rfl, fun hu => (hU b hu).2 hb⟩⟩⟩
  case round =>
    obtain ⟨k, hk, rfl, hj, HK⟩ := hrel
    by_cases hlt : k < ps.length
    · have Hr := HH.out.keep HK.out.keepK
      obtain ⟨g, b, o, rfl, e1, e2, cg, hp⟩ := Hr.at hlt rfl
      have hbf := Hr.kt.bf.cell
      have mo := Hr.most
      have f1 := Hr.f1
      have f2 := Hr.f2
      have i1 : (k : Int) < (ps.length : Int) := by omega
      have i2 : (0 : Int) ≤ (k : Int) := by omega
      have i3 : IntKind.i64.wrap ((k : Int) + 1) = (k : Int) + 1 := by rw [IntKind.wrap_i64]; omega
      have i4 : IntKind.i64.wrap (F + (k : Int)) = F + (k : Int) := by rw [IntKind.wrap_i64]; omega
      have CT := hide (cnt_take_succ e2)
      rcases hp.shape with ⟨rfl, rfl⟩ | ⟨b0, x, rfl, rfl, hx⟩
      · rw [show pv none = .pointer none from rfl] at cg
        clear Hr e1 hp mo f1 f2
        gi_wp2
        refine wpIn_wide.2 ?_
        go_quiet (fail)
        gi_wp2
        refine ⟨⟨k + 1, by omega, by simp, ?_, ?_⟩, by simp [intOf]; omega⟩
        · have := CT.out
          simp only [Option.isSome_none, Bool.false_eq_true, if_false, Nat.add_zero] at this
          rw [this]
          exact (hJ _).keep _ _ hj (Soft.drewN _)
        · exact HK.out.next HH.out.cells (KeepU.of_below ⟨rfl, rfl, rfl, Nat.le_refl _, fun _ _ => rfl⟩ ((hJ _).u _ _ hj (Soft.drewN _)))
      · rw [show pv (some b0) = .pointer (some ⟨b0, 0, none⟩) from rfl] at cg
        have y0 : wr.cell? ⟨b0, 0, none⟩ = some (.string x) := enc_cells hx 0 _ rfl
        have hmix : Try.prog.follows .mixedOrders = true := by kernel_rfl
        have CT' : Hid (cnt (ps.take (k + 1)) = cnt (ps.take k) + 1) := by have := CT.out; show _ = _; simpa using this
        have CL : Hid (cnt (ps.take k) < cnt ps) := by have h1 := CT'.out; have h2 := cnt_take_mono ps (a := k + 1) (b := ps.length) (by omega); rw [List.take_length] at h2; show _ < _; omega
        have SD : Hid (Soft U V.heap.size wr wr.drew) := Soft.drewN 1
        have XA : (List.map argsOf (allL F ps))[cnt (ps.take k)]? = some (argsOf (F + (k : Int), x)) := by rw [List.getElem?_map, allL_at ps F k x e2]; rfl
        obtain ⟨fn, tmps, assign, body, hy, hR⟩ := yield_bool (m' := 8) (hY _ _ wr.drew XA (show V.heap.size ≤ wr.heap.size from HK.out.1) ((hJ _).keep _ _ hj SD.out))
        simp only [argsOf, va] at hy
        clear Hr e1 hp mo f1 f2 XA
        gi_wp2
        gi_region_with_o (refine hR.mono ?_; rintro e w3 ⟨ok, rfl, hq⟩; have HQ := hide hq; clear hq)
        all_goals simp only [List.getElem_toArray, List.getElem_cons_succ, List.getElem_cons_zero, Act.put, List.setIfInBounds_toArray, List.set_cons_zero, List.set_cons_succ]
        all_goals (rcases HQ.out with ⟨rfl, hj3, hk3, hf3⟩ | ⟨rfl, hj3, hk3, hf3⟩)
        all_goals gi_wp2
        · refine ⟨⟨k + 1, by omega, by simp, ?_, HK.out.next HH.out.cells (KeepU.trans (Y := wr.drew) (KeepU.of_below (Below.refl _ wr).drew ((hJ _).u _ _ hj SD.out)) hk3)⟩, by simp [intOf]; omega⟩
          rw [CT'.out]
          exact hj3
        · refine bodyPost_ret (results_none rfl _ _ _) rfl ?_
          exact ⟨⟨_, rfl⟩, .inr ⟨_, CL.out, hj3⟩⟩
        · refine ⟨⟨k + 1, by omega, by simp, ?_, HK.out.next HH.out.cells (KeepU.trans (Y := wr.drew) (KeepU.of_below (Below.refl _ wr).drew ((hJ _).u _ _ hj SD.out)) hk3)⟩, by simp [intOf]; omega⟩
          rw [CT'.out]
          exact hj3
        · refine bodyPost_ret (results_none rfl _ _ _) rfl ?_
          exact ⟨⟨_, rfl⟩, .inr ⟨_, CL.out, hj3⟩⟩
    · obtain rfl : k = ps.length := by omega
      rw [List.take_length] at hj
      gi_wp2
      go_end0
      exact ⟨⟨_, rfl⟩, .inl hj⟩
end Go.Proofs.Ytcbijiielikfmaa.Ls
