/- What the document's own Most returns: the greatest of some ballots. No condition but that the list's bytes are within reach. -/
import Derived.Test.YtlcccaiahmbkpaaBallotBestMath
import Derived.Test.YtlcccaiahmbkpaaBallotLists
import Derived.Handy
namespace Go.Proofs.Ytlcccaiahmbkpaa
open Go.ChangeShapes Go.WideShapes Go.ChangeAt Go.RowKit
set_option linter.unusedVariables false

/-- is one of the first k above the ballot i? -/
def ab (f : Nat → Int × Int) (i : Nat) : Nat → Bool
  | 0 => false
  | k + 1 => ab f i k || lsB (f i) (f k)
theorem ab_false {f : Nat → Int × Int} {i : Nat} : ∀ {k}, ab f i k = false → ∀ j, j < k → lsB (f i) (f j) = false
  | 0, _, j, hj => absurd hj (by omega)
  | k + 1, h, j, hj => by
    have h' : ab f i k = false ∧ lsB (f i) (f k) = false := by simpa [ab] using h
    by_cases e : j = k
    · subst e; exact h'.2
    · exact ab_false h'.1 j (by omega)
theorem ab_true {f : Nat → Int × Int} {i : Nat} : ∀ {k}, ab f i k = true → ∃ j, j < k ∧ lsB (f i) (f j) = true
  | 0, h => by cases h
  | k + 1, h => by
    have h' : ab f i k = true ∨ lsB (f i) (f k) = true := by simpa [ab] using h
    rcases h' with h | h
    · obtain ⟨j, h1, h2⟩ := ab_true h
      exact ⟨j, by omega, h2⟩
    · exact ⟨k, by omega, h⟩
theorem mx_ex (f : Nat → Int × Int) : ∀ k, ∃ x, ∃ is, BI f f (0, 0) k x x is
  | 0 => ⟨_, _, BI.zero f f (0, 0)⟩
  | k + 1 => by
    obtain ⟨x, is, h⟩ := mx_ex f k
    cases is with
    | false => exact ⟨_, _, h.take (.inl rfl)⟩
    | true =>
      cases hl : lsB x (f k) with
      | true => exact ⟨_, _, h.take (.inr hl)⟩
      | false => exact ⟨_, _, h.keep hl⟩
theorem mx_none {f : Nat → Int × Int} {k : Nat} (h : ∀ i, i < k → ab f i k = true) : Mx f k (0, 0) := by
  by_cases e : k = 0
  · exact .inl ⟨e, rfl⟩
  · obtain ⟨x, is, hx⟩ := mx_ex f k
    rcases hx.mx with ⟨h0, _⟩ | ⟨⟨i, hi, rfl⟩, h1⟩
    · exact absurd h0 e
    · obtain ⟨j, hj, hl⟩ := ab_true (h i hi)
      rw [h1 j hj] at hl
      cases hl
theorem bel_drewN {w w1 : World} (h : Below w.heap.size w w1) (q : Nat) : Below w.heap.size w (w1.drewN q) := h.trans ⟨rfl, rfl, rfl, Nat.le_refl _, fun _ _ => rfl⟩
set_option maxHeartbeats 1000000 in
theorem rmost_any {w : World} {a : Option Addr} {len cap : Nat} {f : Nat → Int × Int} (h : Rws w 2 16 a len (fun j => bc (f j))) :
    Calls Try.prog 17 #[.slice a len cap] w fun e w' => (∃ x, e = .returned (.agg #[.int .i64 x.1, .int .i64 x.2]) ∧ Mx f len x) ∧ Below w.heap.size w w' := by
  obtain ⟨W0, eW⟩ : ∃ W0, W0 = w.alloc (.cells #[.int .i64 0, .int .i64 0] 23) := ⟨_, rfl⟩
  have hb0 : Below w.heap.size w W0 := by rw [eW]; exact below_alloc (Below.refl _ _) _
  have hr0 : W0.heap[w.heap.size]? = some (.cells #[.int .i64 0, .int .i64 0] 23 (0, 0)) := by rw [eW]; exact heap_alloc_new w _
  have zl : w.heap.size < W0.heap.size := (Array.getElem?_eq_some_iff.1 hr0).1
  have HS := hide (h.below hb0)
  have hr : len * 16 ≤ 140737488351232 := h.room
  have HB0 := hide hb0
  have HR0 := hide hr0
  have EW := hide eW.symm
  have ZL := hide zl
  clear h hb0 hr0 eW zl
  go_enter Try.func17, Try.ntmps17
  go_wp2_with fail
  rw [EW.out]
  clear EW
  go_loopw [3, 4, 5] (fun iv _ _ wr => ∃ (i : Nat), i ≤ len ∧ iv = .int .i64 i ∧ Hid (Below W0.heap.size W0 wr) ∧ Hid (∀ i', i' < i → ab f i' len = true)) (fun iv _ _ _ => len - (intOf iv).toNat)
  case atStart => exact ⟨0, Nat.zero_le _, rfl, Below.refl _ _, fun i' h => absurd h (by omega)⟩
  case round =>
    obtain ⟨i, hi, rfl, HB, HI⟩ := hrel
    by_cases hlt : i < len
    · go_wp2_with fail
      go_loopw [4, 5] (fun bv kv wq => ∃ (k : Nat), k ≤ len ∧ kv = .int .i64 k ∧ bv = .bool (ab f i k) ∧ Hid (Below W0.heap.size W0 wq)) (fun _ kv _ => len - (intOf kv).toNat)
      case atStart => exact ⟨0, Nat.zero_le _, rfl, rfl, HB⟩
      case round =>
        obtain ⟨k, hk, rfl, rfl, HQ⟩ := hrel
        by_cases hkl : k < len
        · have AB := hide (show ab f i (k + 1) = (ab f i k || lsB (f i) (f k)) from rfl)
          cases hab : ab f i k with
          | true =>
            rw [hab] at AB
            clear hab
            go_wp2_with fail
            go_quiet (fail)
            go_wp2_with fail
            go_roundw
            case rel => exact ⟨k + 1, by omega, by go_num, by rw [AB.out]; rfl, bel_drewN HQ.out _⟩
            case measure => simp [intOf]; omega
          | false =>
            rw [hab] at AB
            clear hab
            obtain ⟨b, off, rfl, hbl, hc⟩ := (HS.out.below HQ.out).cells (by omega)
            obtain ⟨c1, c2⟩ := bc_cells (hc i hlt)
            obtain ⟨c3, c4⟩ := bc_cells (hc k hkl)
            clear hbl hc
            go_wp2_with fail
            refine wp_region_cells W0 [(⟨b, off + i * 2, none⟩, .int .i64 (f i).1), (⟨b, off + i * 2 + 1, none⟩, .int .i64 (f i).2), (⟨b, off + k * 2, none⟩, .int .i64 (f k).1), (⟨b, off + k * 2 + 1, none⟩, .int .i64 (f k).2)] (by kernel_rfl) (by kernel_rfl) HQ.out ⟨c1, c2, c3, c4, trivial⟩ ?_
            intro hne q
            simp only [AllCells, and_true] at q
            clear c1 c2 c3 c4
            repeat (go_big_quiet_step (first | (go_at_call 15; exact Held.call _ (rless_lit rfl _))))
            refine wpQuiet_nil ?_
            rintro _ ⟨y, rfl⟩
            go_wp2_with fail
            go_roundw
            case rel => exact ⟨k + 1, by omega, by go_num, by rw [AB.out]; rfl, y.below⟩
            case measure => simp [intOf]; omega
        · obtain rfl : k = len := by omega
          cases hab : ab f i k with
          | true =>
            have AB := hide hab
            clear hab
            go_wp2_with fail
            go_roundw
            case rel => exact ⟨i + 1, by omega, by go_num, HQ, fun i' h => by
              by_cases e : i' = i
              · subst e; exact AB.out
              · exact HI.out i' (by omega)⟩
            case measure => simp [intOf]; omega
          | false =>
            have MX : Hid (Mx f k (f i)) := .inr ⟨⟨i, hlt, rfl⟩, ab_false hab⟩
            clear hab
            obtain ⟨b, off, rfl, hbl, hc⟩ := (HS.out.below HQ.out).cells (by omega)
            obtain ⟨c1, c2⟩ := bc_cells (hc i hlt)
            have hrow := (HQ.out.block _ ZL.out).trans HR0.out
            have z : w.heap.size < wr.heap.size := (Array.getElem?_eq_some_iff.1 hrow).1
            have d1 : wr.cell? ⟨w.heap.size, 0, none⟩ = some (.int .i64 0) := by rw [cell_of_row _ _ _ _ _ _ hrow]; rfl
            have d2 : wr.cell? ⟨w.heap.size, 1, none⟩ = some (.int .i64 0) := by rw [cell_of_row _ _ _ _ _ _ hrow]; rfl
            have g : ∀ o, wr.frozen? ⟨w.heap.size, o, none⟩ = false := fun o => frozen_of_row _ _ _ _ _ hrow
            have HR2 := hide (show ((wr.setCell ⟨w.heap.size, 0, none⟩ (.int .i64 (f i).1)).setCell ⟨w.heap.size, 1, none⟩ (.int .i64 (f i).2)).heap[w.heap.size]? = some (.cells #[.int .i64 (f i).1, .int .i64 (f i).2] 23 (0, 0)) by simp [World.setCell, Array.getElem?_modify, hrow])
            have B2 := hide (show Below w.heap.size w ((wr.setCell ⟨w.heap.size, 0, none⟩ (.int .i64 (f i).1)).setCell ⟨w.heap.size, 1, none⟩ (.int .i64 (f i).2)) by have := below_step HB0.out HQ.out; go_grown)
            clear hrow
            go_wp2_with fail
            generalize (wr.setCell ⟨w.heap.size, 0, none⟩ (.int .i64 (f i).1)).setCell ⟨w.heap.size, 1, none⟩ (.int .i64 (f i).2) = w2 at HR2 B2 ⊢
            have e0 : w2.cell? ⟨w.heap.size, 0, none⟩ = some (.int .i64 (f i).1) := by rw [cell_of_row _ _ _ _ _ _ HR2.out]; rfl
            have e1 : w2.cell? ⟨w.heap.size, 1, none⟩ = some (.int .i64 (f i).2) := by rw [cell_of_row _ _ _ _ _ _ HR2.out]; rfl
            refine bodyPost_ret (v := .agg #[.int .i64 (f i).1, .int .i64 (f i).2]) (by simp [results, Try.results17, go_sem, e0, e1]) rfl ⟨⟨f i, rfl, MX.out⟩, B2.out⟩
    · obtain rfl : i = len := by omega
      have hrow := (HB.out.block _ ZL.out).trans HR0.out
      have MX := hide (mx_none HI.out)
      have z : w.heap.size < wr.heap.size := (Array.getElem?_eq_some_iff.1 hrow).1
      have d1 : wr.cell? ⟨w.heap.size, 0, none⟩ = some (.int .i64 0) := by rw [cell_of_row _ _ _ _ _ _ hrow]; rfl
      have d2 : wr.cell? ⟨w.heap.size, 1, none⟩ = some (.int .i64 0) := by rw [cell_of_row _ _ _ _ _ _ hrow]; rfl
      have g : ∀ o, wr.frozen? ⟨w.heap.size, o, none⟩ = false := fun o => frozen_of_row _ _ _ _ _ hrow
      have HR2 := hide (show ((wr.setCell ⟨w.heap.size, 0, none⟩ (.int .i64 0)).setCell ⟨w.heap.size, 1, none⟩ (.int .i64 0)).heap[w.heap.size]? = some (.cells #[.int .i64 0, .int .i64 0] 23 (0, 0)) by simp [World.setCell, Array.getElem?_modify, hrow])
      have B2 := hide (show Below w.heap.size w ((wr.setCell ⟨w.heap.size, 0, none⟩ (.int .i64 0)).setCell ⟨w.heap.size, 1, none⟩ (.int .i64 0)) by have := below_step HB0.out HB.out; go_grown)
      clear hrow
      go_wp2_with fail
      generalize (wr.setCell ⟨w.heap.size, 0, none⟩ (.int .i64 0)).setCell ⟨w.heap.size, 1, none⟩ (.int .i64 0) = w2 at HR2 B2 ⊢
      have e0 : w2.cell? ⟨w.heap.size, 0, none⟩ = some (.int .i64 0) := by rw [cell_of_row _ _ _ _ _ _ HR2.out]; rfl
      have e1 : w2.cell? ⟨w.heap.size, 1, none⟩ = some (.int .i64 0) := by rw [cell_of_row _ _ _ _ _ _ HR2.out]; rfl
      refine bodyPost_ret (v := .agg #[.int .i64 0, .int .i64 0]) (by simp [results, Try.results17, go_sem, e0, e1]) rfl ⟨⟨(0, 0), rfl, MX.out⟩, B2.out⟩
end Go.Proofs.Ytlcccaiahmbkpaa
