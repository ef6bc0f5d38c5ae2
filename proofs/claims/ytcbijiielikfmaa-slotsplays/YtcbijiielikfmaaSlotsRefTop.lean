/- The document's log: New, Top, Next. No condition. -/
import Derived.Test.YtcbijiielikfmaaSlotsRef
namespace Go.Proofs.Ytcbijiielikfmaa
open Go.ChangeShapes Go.WideShapes Go.ChangeAt Go.RowKit Sx Ls
set_option linter.unusedVariables false
namespace Rf
theorem rnew_rg (w : World) (f m : Int) : Rg (w.alloc (.cells #[.int .i64 (Sx.cl 1 1099511627776 f), .int .i64 (Sx.cl 1 1024 m), .slice none 0 0] 76)) w.heap.size none 0 (newS ByteArray f m) [] := by
  have := cl_le 1 1024 m (by omega)
  refine ⟨?_, World.ownsRow_nil _ _ _ _, rel_new f m, ok_new f m⟩
  rw [show ((newS ByteArray f m).most : Int) = Sx.cl 1 1024 m by simp only [newS]; omega]
  exact World.alloc_heap_new w _
theorem mk_eq {w : World} {x x' y y' : Int} (h1 : x = x') (h2 : y = y') : w.alloc (.cells #[.int .i64 x, .int .i64 y, .slice none 0 0] 76) = w.alloc (.cells #[.int .i64 x', .int .i64 y', .slice none 0 0] 76) := by rw [h1, h2]
set_option maxRecDepth 100000 in
set_option maxHeartbeats 1000000 in
theorem rnew_run (w : World) (f m : Int) : Calls Try.prog 10 #[.int .i64 f, .int .i64 m] w fun e w' => e = .returned (.pointer (some ⟨w.heap.size, 0, none⟩)) ∧ w' = w.alloc (.cells #[.int .i64 (Sx.cl 1 1099511627776 f), .int .i64 (Sx.cl 1 1024 m), .slice none 0 0] 76) := by
  go_enter Try.func10, Try.ntmps10
  go_wp2_with fail
  all_goals
    go_ret
    exact ⟨rfl, mk_eq (by unfold Sx.cl; split <;> (try split) <;> omega) (by unfold Sx.cl; split <;> (try split) <;> omega)⟩
theorem rnew_any (w : World) (f m : Int) : Calls Try.prog 10 #[.int .i64 f, .int .i64 m] w fun e w' => e = .returned (.pointer (some ⟨w.heap.size, 0, none⟩)) ∧ Below w.heap.size w w' ∧ Rg w' w.heap.size none 0 (newS ByteArray f m) [] :=
  (rnew_run w f m).mono fun e w' ⟨h1, h2⟩ => ⟨h1, by rw [h2]; exact below_alloc (Below.refl _ _) _, by rw [h2]; exact rnew_rg w f m⟩
section
variable {w w' : World} {R c : Nat} {a : Option Addr} {s : Ss ByteArray} {hs : List (Int × ByteArray)}
/-- the top of the first k -/
def topK (F : Int) : List (Int × ByteArray) → Int
  | [] => F
  | p :: l => max (p.1 + 1) (topK F l)
theorem topK_le {F T : Int} : ∀ {l : List (Int × ByteArray)}, F ≤ T → (∀ p ∈ l, p.1 + 1 ≤ T) → topK F l ≤ T
  | [], h, _ => h
  | p :: l, h, g => by
    have := topK_le h (fun q hq => g q (List.mem_cons_of_mem _ hq))
    have := g p (List.mem_cons_self ..)
    simp only [topK]
    omega
set_option maxRecDepth 100000 in
set_option maxHeartbeats 1000000 in
theorem rtop_any (h : Rg w R a c s hs) : Calls Try.prog 57 #[.pointer (some ⟨R, 0, none⟩)] w fun e w' => e = .returned (.int .i64 (topV s)) ∧ w' = w := by
  obtain ⟨c0, _, c2, _⟩ := h.cl
  have LE := h.len.2
  have f1 := h.ok.f1
  have f2 := h.ok.f2
  have l1 : s.ps.length ≤ 1024 := by have := h.ok.len; have := h.ok.m2; omega
  have AT : Hid (∀ (k : Nat) (p : Int × ByteArray), hs[k]? = some p → (∃ g, a = some ⟨g, 0, none⟩ ∧ w.cell? ⟨g, k * 2, none⟩ = some (.int .i64 p.1) ∧ w.cell? ⟨g, k * 2 + 1, none⟩ = some (.string p.2)) ∧ s.first ≤ p.1 ∧ p.1 < topV s) := fun k p hk => ⟨h.at hk, by
    obtain ⟨j, h1, h2⟩ := getV_some.1 ((h.rel.iff p.1 p.2).1 (List.mem_of_getElem? hk))
    have := (List.getElem?_eq_some_iff.1 h2).1
    unfold topV
    omega⟩
  have TP : Hid (∀ t : Int, s.first ≤ t → (∀ p ∈ hs, p.1 + 1 ≤ t) → topV s ≤ t) := fun t h1 h2 => by
    by_cases hn : s.ps.length = 0
    · unfold topV; omega
    · have hl : s.ps.length - 1 < s.ps.length := by omega
      have := h.ok.last _ (List.getElem?_eq_getElem hl)
      obtain ⟨x, hx⟩ := Option.isSome_iff_exists.1 this
      have hm := (h.rel.iff (s.first + ((s.ps.length - 1 : Nat) : Int)) x).2 (getV_some.2 ⟨_, rfl, by rw [List.getElem?_eq_getElem hl, hx]⟩)
      have := h2 _ hm
      simp only at this
      unfold topV
      omega
  have TV : Hid (topV s = s.first + s.ps.length) := hide rfl
  have TB : topV s ≤ 1099511628800 := by unfold topV; omega
  clear h
  obtain ⟨n, en⟩ : ∃ n, n = hs.length := ⟨_, rfl⟩
  rw [← en] at c2 LE
  have EN := hide en
  clear en l1
  generalize topV s = T at *
  generalize s.first = F at *
  go_enter Try.func57, Try.ntmps57
  go_wp2_with fail
  go_loopw [3, 4] (fun tv iv wr => ∃ (k : Nat) (t : Int), k ≤ n ∧ F ≤ t ∧ t ≤ T ∧ tv = .int .i64 t ∧ iv = .int .i64 k ∧ Hid (∀ (j : Nat) (p : Int × ByteArray), j < k → hs[j]? = some p → p.1 + 1 ≤ t) ∧ Hid (wr = w)) (fun _ iv _ => n - (intOf iv).toNat)
  case atStart => exact ⟨0, F, by omega, by omega, by have := TV.out; omega, rfl, rfl, hide (fun j p hj => by omega), hide rfl⟩
  case round =>
    obtain ⟨k, t, hk, t1, t2, rfl, rfl, HI, hw⟩ := hrel
    obtain rfl : wr = w := hw.out
    by_cases hlt : k < n
    · obtain ⟨p, hp⟩ : ∃ p, hs[k]? = some p := ⟨_, List.getElem?_eq_getElem (show k < hs.length by rw [← EN.out]; exact hlt)⟩
      obtain ⟨⟨g, rfl, o1, o2⟩, b1, b2⟩ := AT.out k p hp
      have i1 : (k : Int) < (n : Int) := by omega
      have i2 : (0 : Int) ≤ (k : Int) := by omega
      have HP := hide hp
      have wr1 : IntKind.i64.wrap (p.1 + 1) = p.1 + 1 := by rw [IntKind.wrap_i64]; omega
      clear hp
      by_cases hm : t < p.1 + 1
      · go_wp2_with fail
        go_roundw
        case rel => exact ⟨k + 1, p.1 + 1, by omega, by omega, by omega, by go_num, by go_num, hide (fun j q hj hq => by
          rcases Nat.lt_or_ge j k with hh | hh
          · have := HI.out j q hh hq; omega
          · obtain rfl : j = k := by omega
            rw [HP.out] at hq
            cases hq
            omega), hide trivial⟩
        case measure => simp [intOf]; omega
      · go_wp2_with fail
        go_roundw
        case rel => exact ⟨k + 1, t, by omega, by omega, by omega, by go_num, by go_num, hide (fun j q hj hq => by
          rcases Nat.lt_or_ge j k with hh | hh
          · exact HI.out j q hh hq
          · obtain rfl : j = k := by omega
            rw [HP.out] at hq
            cases hq
            omega), hide trivial⟩
        case measure => simp [intOf]; omega
    · obtain rfl : k = n := by omega
      have e : T = t := by
        have := TP.out t t1 (fun p hp => by
          obtain ⟨j, hj⟩ := List.getElem?_of_mem hp
          exact HI.out j p (by have := (List.getElem?_eq_some_iff.1 hj).1; have := EN.out; omega) hj)
        omega
      have EE := hide e
      clear e hk hlt
      go_wp2_with fail
      go_ret
      exact ⟨by rw [EE.out]; rfl, rfl⟩
set_option maxRecDepth 100000 in
set_option maxHeartbeats 1000000 in
theorem rnext_any (h : Rg w R a c s hs) : Calls Try.prog 56 #[.pointer (some ⟨R, 0, none⟩)] w fun e w' => e = .returned (.int .i64 (nextV s)) ∧ w' = w := by
  obtain ⟨c0, _, _, _⟩ := h.cl
  have f1 := h.ok.f1
  have f2 := h.ok.f2
  have l1 : s.ps.length ≤ 1024 := by have := h.ok.len; have := h.ok.m2; omega
  have NM := nxt_le s.ps
  have CG := hide (fun i => rget_any h i)
  have G1 : Hid (∀ k : Nat, k < nxt s.ps → (getV s (s.first + k)).isSome = true) := fun k hk => by
    obtain ⟨x, hx⟩ := nxt_below s.ps k hk
    rw [getV_some.2 ⟨k, rfl, hx⟩]
    rfl
  have G2 : Hid ((getV s (s.first + (nxt s.ps : Int))).isSome = false) := by
    show _ = _
    cases e : getV s (s.first + (nxt s.ps : Int)) with
    | none => rfl
    | some x =>
      obtain ⟨k, h1, h2⟩ := getV_some.1 e
      obtain rfl : k = nxt s.ps := by omega
      have := nxt_at s.ps (List.getElem?_eq_some_iff.1 h2).1
      rw [h2] at this
      cases this
  have NV : Hid (nextV s = s.first + (nxt s.ps : Int)) := hide rfl
  clear h
  generalize nextV s = X at *
  generalize nxt s.ps = x at *
  go_enter Try.func56, Try.ntmps56
  go_wp2_with fail
  go_loopw [3, 4, 5] (fun iv _ _ wr => ∃ k : Nat, k ≤ x ∧ iv = .int .i64 (s.first + k) ∧ Hid (wr = w)) (fun iv _ _ _ => x + 1 - (intOf iv - s.first).toNat)
  case atStart => exact ⟨0, by omega, by simp, hide rfl⟩
  case round =>
    obtain ⟨k, hk, rfl, hw⟩ := hrel
    obtain rfl : wr = w := hw.out
    have CK := hide (CG.out (s.first + k))
    go_wp2_with fail
    refine CK.out.mono ?_
    rintro e w2 ⟨rfl, rfl⟩
    by_cases hlt : k < x
    · have e1 := G1.out k hlt
      go_wp2_with fail
      go_roundw
      case rel => exact ⟨k + 1, by omega, by go_num, hide trivial⟩
      case measure => simp [intOf]; omega
    · obtain rfl : k = x := by omega
      have e1 := G2.out
      go_wp2_with fail
      go_ret
      exact ⟨by rw [NV.out]; rfl, rfl⟩
end
end Rf
end Go.Proofs.Ytcbijiielikfmaa
