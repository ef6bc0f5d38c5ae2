/- The law folder's CopyVotes: votes of their own. No condition. -/
import Derived.Test.YtdnniokpkamjjaaAccTell
import Derived.Test.YtdnniokpkamjjaaAccOps
import Derived.Test.YtdnniokpkamjjaaAccAccept
import Derived.Deep.Cut
namespace Go.Proofs.Ytdnniokpkamjjaa
open Go.ChangeShapes Go.WideShapes Go.ChangeAt Go.RowKit B8 Am
set_option linter.unusedVariables false

set_option maxRecDepth 100000 in
set_option maxHeartbeats 1000000 in
theorem copy_any {w : World} {a : Option Addr} {m cap : Nat} {vs : Nat → Vv} (h : Vts w a m vs) :
    Calls Try.prog 17 #[.slice a m cap] w fun e w' => ∃ a' c' l, e = .returned (.slice a' m c') ∧ Below w.heap.size w w' ∧ Told w' w.heap.size a' m c' l ∧ l.map Vv.vt = (List.range m).map (fun j => (vs j).vt) := by
  have H := hide h
  have RM := h.room
  clear h
  go_enter Try.func17, Try.ntmps17
  go_wp2_with fail
  go_loopw [3, 4] (fun t i wr => ∃ (k : Nat) (a1 : Option Addr) (c1 : Nat) (l1 : List Vv), k ≤ m ∧ i = .int .i64 k ∧ t = .slice a1 k c1 ∧ Hid (Below w.heap.size w wr) ∧ Hid (Told wr w.heap.size a1 k c1 l1) ∧ Hid (l1.map Vv.vt = (List.range k).map (fun j => (vs j).vt))) (fun _ i _ => m - (intOf i).toNat)
  case atStart => exact ⟨0, none, 0, [], Nat.zero_le _, rfl, rfl, Below.refl _ _, told_nil _ _, rfl⟩
  case round =>
    obtain ⟨k, a1, c1, l1, hk, rfl, rfl, HB, HT, HE⟩ := hrel
    by_cases hlt : k < m
    · have i1 : (k : Int) < (m : Int) := by omega
      have i2 : (0 : Int) ≤ (k : Int) := by omega
      obtain ⟨ob, off, rfl, oblt, hoc⟩ := H.out.cells (by omega)
      have VO := hide (H.out.each k hlt)
      have R := rangeAt_same (hoc k hlt) (HB.out.block ob oblt)
      have EK : Hid ((List.range (k + 1)).map (fun j => (vs j).vt) = (List.range k).map (fun j => (vs j).vt) ++ [(vs k).vt]) := by show _ = _; rw [List.range_succ]; simp
      generalize vs k = p at *
      have d0 := R 0 _ rfl
      have d1 := R 1 _ rfl
      have d2 := R 2 _ rfl
      have d3 := R 3 _ rfl
      simp only [Nat.add_zero] at d0
      obtain ⟨V, eV⟩ : ∃ V, V = wr.heap.size := ⟨_, rfl⟩
      obtain ⟨u, eu⟩ : ∃ u, u = wr.alloc (.cells #[.int .i64 p.s, .int .i64 p.r, .int .i64 p.n, .slice p.a p.m p.cp] 48) := ⟨_, rfl⟩
      have BU : Hid (Below wr.heap.size wr u) := by rw [eu]; exact below_alloc (Below.refl _ _) _
      have RV : Hid (u.heap[V]? = some (.cells #[.int .i64 p.s, .int .i64 p.r, .int .i64 p.n, .slice p.a p.m p.cp] 48 (0, 0))) := by rw [eu, eV]; exact heap_alloc_new wr _
      have EU := hide eu
      have EV := hide eV
      have QU : Hid (Sq u p.a p.m p.cp p.b) := (VO.out.q.below HB.out).below BU.out
      have SV : Hid (V < u.heap.size) := (Array.getElem?_eq_some_iff.1 RV.out).1
      have PM : Hid (p.m ≤ 140737488351232) := by have h1 := VO.out.room; have h2 := VO.out.q.lecap; show _ ≤ _; omega
      clear R hoc oblt eu eV
      go_upto_region 6 with fail
      rw [← EU.out, ← EV.out]
      clear d0 d1 d2 d3
      have x3 : u.cell? ⟨V, 3, none⟩ = some (.slice p.a p.m p.cp) := by rw [cell_of_row _ _ _ _ _ _ RV.out]; rfl
      go_upto_region 7 with (at_builtin; refine wp_append_sq _ rfl _ _ rfl u.heap.size (.slice none 0 0) 0 [] rfl (World.ownsRow_nil _ _ _ _) p.a p.m p.cp p.b rfl QU.out (by have := PM.out; omega) (Nat.le_refl _) ?_; intro v2 w2 ho2 hg2; simp only [Nat.zero_add, List.nil_append] at ho2; obtain ⟨a2, c2, rfl, hq2⟩ := sq_of_row VO.out.q.length VO.out.q.wf ho2; have O2 := hide ho2; have G2 := hide hg2; have RV2 : Hid (w2.heap[V]? = some (.cells #[.int .i64 p.s, .int .i64 p.r, .int .i64 p.n, .slice p.a p.m p.cp] 48 (0, 0))) := (hg2.block V SV.out (by simp [Value.ownBlock])).trans RV.out; have y3 : w2.cell? ⟨V, 3, none⟩ = some (.slice p.a p.m p.cp) := by { rw [cell_of_row _ _ _ _ _ _ RV2.out]; rfl }; have fz : ∀ o, w2.frozen? ⟨V, o, none⟩ = false := fun o => by { simp [World.frozen?, RV2.out] }; clear ho2 hg2 hq2 x3)
      obtain ⟨w3, e3⟩ : ∃ w3, w3 = w2.setCell ⟨V, 3, none⟩ (.slice a2 p.m c2) := ⟨_, rfl⟩
      rw [← e3]
      have RV3 : Hid (w3.heap[V]? = some (.cells #[.int .i64 p.s, .int .i64 p.r, .int .i64 p.n, .slice a2 p.m c2] 48 (0, 0))) := by rw [e3]; exact put_row RV2.out
      have B2 : Hid (Below u.heap.size u w2) := (Below.refl _ _).grown G2.out (Nat.le_refl _) (fun j hj => by simp [Value.ownBlock] at hj)
      have B3 : Hid (Below wr.heap.size wr w3) := by rw [e3]; exact (below_step BU.out B2.out).setCell (p := ⟨V, 3, none⟩) (by rw [EV.out]; exact Nat.le_refl _) _
      have O3 : Hid (w3.ownsRow w.heap.size 5 1 (.slice a2 p.m c2) p.m (B8.vals p.b)) := by
        refine row_base (row_same O2.out (fun k hk => ?_)) (Nat.le_trans HB.out.size BU.out.size)
        have h1 := (O2.out.lt k hk).1
        have h2 := SV.out
        rw [e3]
        exact Below.heap_setCell _ _ _ _ (by show k ≠ V; omega)
      have T3 := hide (HT.out.below B3.out)
      have BW3 := hide (below_step HB.out B3.out)
      have y0 : w3.cell? ⟨V, 0, none⟩ = some (.int .i64 p.s) := by rw [cell_of_row _ _ _ _ _ _ RV3.out]; rfl
      have y1 : w3.cell? ⟨V, 1, none⟩ = some (.int .i64 p.r) := by rw [cell_of_row _ _ _ _ _ _ RV3.out]; rfl
      have y2 : w3.cell? ⟨V, 2, none⟩ = some (.int .i64 p.n) := by rw [cell_of_row _ _ _ _ _ _ RV3.out]; rfl
      have y4 : w3.cell? ⟨V, 3, none⟩ = some (.slice a2 p.m c2) := by rw [cell_of_row _ _ _ _ _ _ RV3.out]; rfl
      clear e3 y3 fz
      obtain ⟨g, cq, w4, hr4, ht4, hb4⟩ := told_add (p := { p with a := a2, cp := c2 }) T3.out (by omega) BW3.out.size VO.out.q.wf VO.out.q.length O3.out 35
      have T4 := hide ht4
      have B4 : Hid (Below w.heap.size w w4) := BW3.out.trans hb4
      have E4 : Hid ((l1 ++ [{ p with a := a2, cp := c2 }]).map Vv.vt = (List.range (k + 1)).map (fun j => (vs j).vt)) := by show _ = _; rw [EK.out, List.map_append, HE.out]; rfl
      clear ht4 hb4
      go_wp2_with (at_builtin; refine wp_append_run _ rfl _ _ 35 rfl _ _ hr4 ?_)
      go_roundw
      case rel => exact ⟨k + 1, _, _, _, by omega, by go_num, rfl, B4, T4, E4⟩
      case measure => simp [intOf]; omega
    · obtain rfl : k = m := by omega
      go_wp2_with fail
      go_ret
      exact ⟨a1, c1, l1, rfl, HB.out, HT.out, HE.out⟩
end Go.Proofs.Ytdnniokpkamjjaa
