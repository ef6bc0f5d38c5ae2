/- The document's log in memory; its New, Get, Top, Next. No condition. -/
import Derived.Test.YtcbijiielikfmaaSlotsRefMath
import Derived.Test.YtcbijiielikfmaaSlotsReadS
namespace Go.Proofs.Ytcbijiielikfmaa
open Go.ChangeShapes Go.WideShapes Go.ChangeAt Go.RowKit Sx Ls
set_option linter.unusedVariables false
namespace Rf
/-- the document's log at R: its list lies at a -/
structure Rg (w : World) (R : Nat) (a : Option Addr) (c : Nat) (s : Ss ByteArray) (hs : List (Int × ByteArray)) : Prop where
  hd : w.heap[R]? = some (.cells #[.int .i64 s.first, .int .i64 s.most, .slice a hs.length c] 76 (0, 0))
  row : w.ownsRow 0 79 2 (.slice a hs.length c) hs.length (hcells hs)
  rel : Rel s hs
  ok : Ok s
def M (R : Nat) (a : Option Addr) (n c : Nat) (k : Nat) : Prop := k = R ∨ (Value.slice a n c).ownBlock = some k
section
variable {w w' : World} {R c : Nat} {a : Option Addr} {s : Ss ByteArray} {hs : List (Int × ByteArray)}
theorem Rg.ltR (h : Rg w R a c s hs) : R < w.heap.size := (Array.getElem?_eq_some_iff.1 h.hd).1
theorem Rg.own (h : Rg w R a c s hs) {k : Nat} (hk : (Value.slice a hs.length c).ownBlock = some k) : ∃ cs, w.heap[k]? = some (.cells cs 79 (0, 0)) := own_cells h.row hk
theorem Rg.lt (h : Rg w R a c s hs) : ∀ k, M R a hs.length c k → k < w.heap.size := fun k hk => by
  rcases hk with rfl | hk
  · exact h.ltR
  · obtain ⟨cs, e⟩ := h.own hk
    exact (Array.getElem?_eq_some_iff.1 e).1
theorem Rg.same (h : Rg w R a c s hs) (hb : ∀ k, M R a hs.length c k → w'.heap[k]? = w.heap[k]?) : Rg w' R a c s hs :=
  ⟨(hb R (.inl rfl)).trans h.hd, row_same h.row (fun k hk => hb k (.inr hk)), h.rel, h.ok⟩
theorem Rg.below (h : Rg w R a c s hs) (hb : Below w.heap.size w w') : Rg w' R a c s hs := h.same (fun k hk => hb.block k (h.lt k hk))
theorem Rg.drewN (h : Rg w R a c s hs) (q : Nat) : Rg (w.drewN q) R a c s hs := h.same (fun _ _ => rfl)
theorem Rg.len (h : Rg w R a c s hs) : hs.length = cnt s.ps ∧ hs.length ≤ 1024 := by
  have := rel_len h.rel
  have := cnt_le s.ps
  have := h.ok.len
  have := h.ok.m2
  omega
theorem Rg.cl (h : Rg w R a c s hs) : w.cell? ⟨R, 0, none⟩ = some (.int .i64 s.first) ∧ w.cell? ⟨R, 1, none⟩ = some (.int .i64 s.most) ∧ w.cell? ⟨R, 2, none⟩ = some (.slice a hs.length c) ∧ ∀ o, w.frozen? ⟨R, o, none⟩ = false :=
  ⟨by rw [cell_of_row _ _ 0 _ _ _ h.hd]; rfl, by rw [cell_of_row _ _ 1 _ _ _ h.hd]; rfl, by rw [cell_of_row _ _ 2 _ _ _ h.hd]; rfl, fun o => by simp [World.frozen?, h.hd]⟩
theorem Rg.at (h : Rg w R a c s hs) {k : Nat} {p : Int × ByteArray} (hk : hs[k]? = some p) : ∃ g, a = some ⟨g, 0, none⟩ ∧ w.cell? ⟨g, k * 2, none⟩ = some (.int .i64 p.1) ∧ w.cell? ⟨g, k * 2 + 1, none⟩ = some (.string p.2) := by
  obtain ⟨g, e1, _, e2, e3⟩ := row_at h.row (by have := (List.getElem?_eq_some_iff.1 hk).1; omega)
  have q := hcells_get _ _ _ hk
  exact ⟨g, e1, e3 _ _ q.1, e3 _ _ q.2⟩
theorem cl_cases (hi x : Int) (h : 1 ≤ hi) : (x < 1 ∧ Sx.cl 1 hi x = 1) ∨ (¬ x < 1 ∧ hi < x ∧ Sx.cl 1 hi x = hi) ∨ (¬ x < 1 ∧ ¬ hi < x ∧ Sx.cl 1 hi x = x) := by unfold Sx.cl; split; exact .inl ⟨‹_›, rfl⟩; split; exact .inr (.inl ⟨‹_›, ‹_›, rfl⟩); exact .inr (.inr ⟨‹_›, ‹_›, rfl⟩)
set_option maxRecDepth 100000 in
set_option maxHeartbeats 1000000 in
theorem rget_any (h : Rg w R a c s hs) (i : Int) : Calls Try.prog 13 #[.pointer (some ⟨R, 0, none⟩), .int .i64 i] w fun e w' => e = .returned (.tuple #[Ls.ansV (getV s i), .bool (getV s i).isSome]) ∧ w' = w := by
  obtain ⟨c0, _, c2, _⟩ := h.cl
  have LE := h.len.2
  have LK := hide (look_of h.rel i)
  have AT : Hid (∀ (k : Nat) (p : Int × ByteArray), hs[k]? = some p → ∃ g, a = some ⟨g, 0, none⟩ ∧ w.cell? ⟨g, k * 2, none⟩ = some (.int .i64 p.1) ∧ w.cell? ⟨g, k * 2 + 1, none⟩ = some (.string p.2)) := fun k p hk => h.at hk
  clear h
  obtain ⟨n, en⟩ : ∃ n, n = hs.length := ⟨_, rfl⟩
  rw [← en] at c2 LE
  have EN := hide en
  clear en
  go_enter Try.func13, Try.ntmps13
  go_wp2_with fail
  go_loopw [6] (fun iv wr => ∃ k : Nat, k ≤ n ∧ iv = .int .i64 k ∧ Hid (∀ (j : Nat) (p : Int × ByteArray), j < k → hs[j]? = some p → p.1 ≠ i) ∧ Hid (wr = w)) (fun iv _ => n - (intOf iv).toNat)
  case atStart => exact ⟨0, by omega, rfl, hide (fun j p hj => by omega), hide rfl⟩
  case round =>
    obtain ⟨k, hk, rfl, HI, hw⟩ := hrel
    obtain rfl : wr = w := hw.out
    by_cases hlt : k < n
    · obtain ⟨p, hp⟩ : ∃ p, hs[k]? = some p := ⟨_, List.getElem?_eq_getElem (show k < hs.length by rw [← EN.out]; exact hlt)⟩
      obtain ⟨g, rfl, o1, o2⟩ := AT.out k p hp
      have i1 : (k : Int) < (n : Int) := by omega
      have i2 : (0 : Int) ≤ (k : Int) := by omega
      have HP := hide hp
      clear hp
      by_cases hs1 : p.1 = i
      · subst hs1
        have e : getV s p.1 = some p.2 := by
          rw [← LK.out]
          unfold Sx.look
          have : hs.find? (fun q => q.1 == p.1) = some p := by
            rw [List.find?_eq_some_iff_getElem]
            have hl := (List.getElem?_eq_some_iff.1 HP.out)
            exact ⟨by simp, k, hl.1, hl.2, fun j hj => by
              have := HI.out j _ hj (List.getElem?_eq_getElem (Nat.lt_trans hj hl.1))
              simpa using this⟩
          rw [this]
          rfl
        have EE := hide e
        clear e
        go_wp2_with fail
        go_ret2
        exact ⟨by rw [EE.out]; rfl, rfl⟩
      · have z1 : (p.1 == i) = false := by simpa using hs1
        have HS := hide hs1
        go_wp2_with fail
        go_roundw
        case rel => exact ⟨k + 1, by omega, by go_num, hide (fun j q hj hq => by
          rcases Nat.lt_or_ge j k with hh | hh
          · exact HI.out j q hh hq
          · obtain rfl : j = k := by omega
            rw [HP.out] at hq
            cases hq
            exact HS.out), hide trivial⟩
        case measure => simp [intOf]; omega
    · obtain rfl : k = n := by omega
      have e : getV s i = none := by
        rw [← LK.out]
        unfold Sx.look
        have : hs.find? (fun q => q.1 == i) = none := by
          rw [List.find?_eq_none]
          intro q hq
          obtain ⟨j, hj⟩ := List.getElem?_of_mem hq
          have hl := (List.getElem?_eq_some_iff.1 hj).1
          have := HI.out j q (by have := EN.out; omega) hj
          simpa using this
        rw [this]
        rfl
      have EE := hide e
      clear e hk hlt
      go_wp2_with fail
      go_ret2
      exact ⟨by rw [EE.out]; rfl, rfl⟩
end
end Rf
end Go.Proofs.Ytcbijiielikfmaa
