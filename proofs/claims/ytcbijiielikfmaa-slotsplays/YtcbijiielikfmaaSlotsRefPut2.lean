/- The document's log: Put. No condition. -/
import Derived.Test.YtcbijiielikfmaaSlotsRefPut
namespace Go.Proofs.Ytcbijiielikfmaa
open Go.ChangeShapes Go.WideShapes Go.ChangeAt Go.RowKit Sx Ls
set_option linter.unusedVariables false
namespace Rf
theorem held_where {wr : World} {n c : Nat} {a : Option Addr} {l : List (Int × ByteArray)} (h : wr.ownsRow 0 79 2 (.slice a n c) n (hcells l)) (hn : n ≤ 2000) (i : Int) (x : ByteArray) (ty : TypeId) :
    ∃ b cp w', (Builtin.append_ #[74, 74] ty #[.slice a n c, .slice (some ⟨wr.heap.size, 0, none⟩) 1 1]).run Try.prog (wr.alloc (.cells #[.int .i64 i, .string x] 79)) = .ok (.slice (some ⟨b, 0, none⟩) (n + 1) cp) w' ∧
      w'.ownsRow 0 79 2 (.slice (some ⟨b, 0, none⟩) (n + 1) cp) (n + 1) (hcells (l ++ [(i, x)])) ∧ (wr.alloc (.cells #[.int .i64 i, .string x] 79)).grownBy w' (Value.slice a n c).ownBlock ∧ ((Value.slice a n c).ownBlock = some b ∨ wr.heap.size ≤ b) := by
  obtain ⟨i0, hi, hz0, hz1, hz2⟩ := info_parts rheldinfo
  obtain ⟨b, cp, w', run, own, gr, wh⟩ := run_append_where (P := Try.prog) (wr.alloc (.cells #[.int .i64 i, .string x] 79)) 0 74 ty 79 i0 (.agg #[.int .i64 0, .string ⟨#[]⟩]) 2 24 Try.underlying74 hi hz0 hz1 hz2 rfl (by omega)
    a n c (hcells l) (h.alloc _) ⟨wr.heap.size, 0, none⟩ 1 1 [.int .i64 i, .string x] rfl (cells2n wr _ _ _) (fun u hu => by simp at hu; rcases hu with rfl | rfl <;> rfl) (by omega) (by unfold maxLen; omega) (by omega) (by simp)
  refine ⟨b, cp, w', run, by rw [hcells_append]; exact own, gr, wh.imp id (fun e => by rw [e, World.size_alloc]; omega)⟩
section
variable {w w' : World} {R c : Nat} {a : Option Addr} {s : Ss ByteArray} {hs : List (Int × ByteArray)}
theorem Rg.rmvd (h : Rg w R a c s hs) (q : Nat) : RMv w R a hs.length c s (w.drewN q) := ⟨Chg.drewN _ _ _, a, c, hs, h.drewN q, fun k hk => .inl hk⟩
theorem Rg.frz {g : Nat} (h : Rg w R (some ⟨g, 0, none⟩) c s hs) (o : Nat) : w.frozen? ⟨g, o, none⟩ = false := by
  obtain ⟨cs, e⟩ := h.own (k := g) rfl
  simp [World.frozen?, e]
set_option maxRecDepth 100000 in
set_option maxHeartbeats 1000000 in
theorem rput_any (h : Rg w R a c s hs) (i : Int) (hi : i ≤ 9223372036854775807) (x : ByteArray) : Calls Try.prog 17 #[.pointer (some ⟨R, 0, none⟩), .int .i64 i, .string x] w fun e w' => e = .returned (.int .i64 (putE s i)) ∧ RMv w R a hs.length c (putS s i x) w' := by
  obtain ⟨c0, c1, c2, cf⟩ := h.cl
  have f1 := h.ok.f1
  have LE := h.len.2
  by_cases h1 : i < s.first
  · have e1 : putE s i = 80 := by unfold putE; rw [if_pos h1]
    have e2 : putS s i x = s := put_out (.inl h1)
    rw [e1, e2]
    have HR := hide h.rmv
    clear h e1 e2 LE f1
    go_enter Try.func17, Try.ntmps17
    go_wp2_with fail
    go_ret
    exact ⟨rfl, HR.out⟩
  · have wi : IntKind.i64.wrap (i - s.first) = i - s.first := by rw [IntKind.wrap_i64]; omega
    by_cases h2 : (s.most : Int) ≤ i - s.first
    · have e1 : putE s i = 81 := by unfold putE; rw [if_neg h1, if_pos h2]
      have e2 : putS s i x = s := put_out (.inr h2)
      rw [e1, e2]
      have HR : Hid (∀ q, RMv w R a hs.length c s (w.drewN q)) := fun q => h.rmvd q
      clear h e1 e2 LE f1
      go_enter Try.func17, Try.ntmps17
      go_wp2_with fail
      go_quiet (fail)
      go_wp2_with fail
      go_ret
      exact ⟨rfl, HR.out _⟩
    · have e1 : putE s i = 0 := by unfold putE; rw [if_neg h1, if_neg h2]
      rw [e1]
      have H := hide h
      have HH : Hid (s.first ≤ i ∧ i - s.first < (s.most : Int)) := ⟨by omega, by omega⟩
      have LK := hide (look_of h.rel i)
      have AT : Hid (∀ (k : Nat) (p : Int × ByteArray), hs[k]? = some p → ∃ g, a = some ⟨g, 0, none⟩ ∧ w.cell? ⟨g, k * 2, none⟩ = some (.int .i64 p.1) ∧ w.cell? ⟨g, k * 2 + 1, none⟩ = some (.string p.2)) := fun k p hk => h.at hk
      clear h e1
      obtain ⟨n, en⟩ : ∃ n, n = hs.length := ⟨_, rfl⟩
      rw [← en] at c2 LE
      have EN := hide en
      clear en
      go_enter Try.func17, Try.ntmps17
      go_wp2_with fail
      go_quiet (fail)
      go_wp2_with fail
      go_loopw [7] (fun iv wr => ∃ k q : Nat, k ≤ n ∧ iv = .int .i64 k ∧ Hid (∀ (j : Nat) (p : Int × ByteArray), j < k → hs[j]? = some p → p.1 ≠ i) ∧ Hid (wr = w.drewN q)) (fun iv _ => n - (intOf iv).toNat)
      case atStart => exact ⟨0, _, by omega, rfl, hide (fun j p hj => by omega), hide rfl⟩
      case round =>
        obtain ⟨k, q, hk, rfl, HI, hw⟩ := hrel
        obtain rfl : wr = w.drewN q := hw.out
        clear hw
        by_cases hlt : k < n
        · obtain ⟨p, hp⟩ : ∃ p, hs[k]? = some p := ⟨_, List.getElem?_eq_getElem (show k < hs.length by rw [← EN.out]; exact hlt)⟩
          obtain ⟨g, rfl, o1, o2⟩ := AT.out k p hp
          have i1 : (k : Int) < (n : Int) := by omega
          have i2 : (0 : Int) ≤ (k : Int) := by omega
          have HP := hide hp
          clear hp
          by_cases hs1 : p.1 = i
          · subst hs1
            have fz := H.out.frz (k * 2 + 1)
            have FI := hide (old_rg (x := x) H.out (by have := HH.out; omega) (by have := HH.out; omega) (show hs[k]? = some (p.1, p.2) from HP.out) q)
            go_wp2_with fail
            go_ret
            exact ⟨rfl, FI.out⟩
          · have z1 : (p.1 == i) = false := by simpa using hs1
            have HS := hide hs1
            go_wp2_with fail
            go_roundw
            case rel => exact ⟨k + 1, q, by omega, by go_num, hide (fun j q hj hq => by
              rcases Nat.lt_or_ge j k with hh | hh
              · exact HI.out j q hh hq
              · obtain rfl : j = k := by omega
                rw [HP.out] at hq
                cases hq
                exact HS.out), hide rfl⟩
            case measure => simp [intOf]; omega
        · obtain rfl : k = n := by omega
          have e : getV s i = none := by
            rw [← LK.out]
            unfold Sx.look
            have : hs.find? (fun q => q.1 == i) = none := by
              rw [List.find?_eq_none]
              intro q hq
              obtain ⟨j, hj⟩ := List.getElem?_of_mem hq
              have hl := (List.getElem?_eq_some_iff.1 hj).1
              have := HI.out j q (by have := EN.out; omega) hj
              simpa using this
            rw [this]
            rfl
          obtain ⟨b, cp, wn, run, own, gr, wh⟩ := held_where (H.out.drewN q).row (by have := EN.out; omega) i x 74
          have FI := hide (new_rg q H.out (by have := HH.out; omega) (by have := HH.out; omega) e own gr wh)
          have RN := hide run
          have cgR : wn.frozen? ⟨R, 2, none⟩ = false ∧ (wn.cell? ⟨R, 2, none⟩) = some (.slice a hs.length c) := by
            have cR : Chg (fun k => (Value.slice a hs.length c).ownBlock = some k) w wn := ((Chg.drewN _ w q).alloc _).grown gr (fun k hk => .inl hk)
            have hR : wn.heap[R]? = w.heap[R]? := cR.block R H.out.ltR (fun e => H.out.notrow (w' := w) H.out.row rfl e rfl)
            exact ⟨by simp [World.frozen?, hR, H.out.hd], by rw [cell_of_row _ _ 2 _ _ _ (hR.trans H.out.hd)]; rfl⟩
          obtain ⟨fz, cz⟩ := cgR
          rw [← EN.out] at RN FI cz
          clear run own gr wh e hk hlt
          go_wp2_with (at_builtin; refine wp_append_run _ rfl (.tmp 56) (.tmp 60) 74 74 rfl _ _ RN.out ?_)
          go_ret
          exact ⟨rfl, by rw [← EN.out]; exact FI.out⟩
end
end Rf
end Go.Proofs.Ytcbijiielikfmaa
