/- The landed disk's Fork: another disk, alike, in blocks of its own. Condition: there is memory for what waits. -/
import Derived.Test.YtfkclebngldjmaaDiskFall
import Derived.Laws.AppendOwn
import Derived.Lib.SliceRun
namespace Go.Proofs.Ytfkclebngldjmaa
open Go.ChangeShapes Go.WideShapes Go.ChangeAt Go.RowKit B8 Dm
set_option linter.unusedVariables false

/-- blocks, one behind the other, as cells -/
def bcells (n : Nat) (K : Nat → List Int) : List Value := (List.range n).flatMap (fun i => vals (K i))
theorem bcells_succ (n : Nat) (K : Nat → List Int) : bcells (n + 1) K = bcells n K ++ vals (K n) := by
  unfold bcells
  rw [List.range_succ, List.flatMap_append]
  simp
theorem bcells_length (K : Nat → List Int) : ∀ n, (∀ i, i < n → (K i).length = 64) → (bcells n K).length = n * 64
  | 0, _ => by simp [bcells]
  | n + 1, h => by
    rw [bcells_succ, List.length_append, bcells_length K n (fun i hi => h i (by omega)), vals_length, h n (by omega)]
    omega
theorem bcells_at (K : Nat → List Int) : ∀ n, (∀ i, i < n → (K i).length = 64) → ∀ i j, i < n → j < 64 → (bcells n K)[i * 64 + j]? = (vals (K i))[j]?
  | 0, _, i, j, hi, _ => by omega
  | n + 1, h, i, j, hi, hj => by
    have hl := bcells_length K n (fun i hi => h i (by omega))
    rw [bcells_succ]
    by_cases e : i = n
    · subst e
      rw [List.getElem?_append_right (by omega), hl, show i * 64 + j - i * 64 = j by omega]
    · rw [List.getElem?_append_left (by omega)]
      exact bcells_at K n (fun i hi => h i (by omega)) i j (by omega) hj
theorem bcells_one (n : Nat) (K : Nat → List Int) : ∀ u ∈ bcells n K, u.oneCell' = true := by
  intro u hu
  unfold bcells at hu
  obtain ⟨i, _, hu⟩ := List.mem_flatMap.1 hu
  exact vals_one _ u hu
theorem Bks.news {w : World} {g n : Nat} {K : Nat → List Int} (h : Bks w g n K) (hK : ∀ i, i < n → (K i).length = 64) : ∀ j u, (bcells n K)[j]? = some u → w.cell? ((⟨g, 0, none⟩ : Addr).add j) = some u := by
  intro j u hu
  have hj : j < n * 64 := by
    have := (List.getElem?_eq_some_iff.1 hu).1
    rwa [bcells_length K n hK] at this
  have hi : j / 64 < n := by omega
  have e : j = j / 64 * 64 + j % 64 := by omega
  rw [e, bcells_at K n hK _ _ hi (by omega)] at hu
  have := h.cells (j / 64) hi (j % 64) u hu
  rw [Addr.add_mid, Nat.zero_add]
  rw [e]
  exact this
theorem bks_of_row {w : World} {B T G C n : Nat} {K : Nat → List Int} (hK : ∀ i, i < n → (K i).length = 64) (h : w.ownsRow B T 64 (.slice (some ⟨G, 0, none⟩) n C) n (bcells n K)) : Bks w G n K := by
  refine ⟨fun i hi j v hv => ?_, fun i hi j hj => ?_⟩
  · have hj : j < 64 := by
      have := (List.getElem?_eq_some_iff.1 hv).1
      rw [vals_length, hK i hi] at this
      exact this
    rw [h.cellAt _ (by omega), bcells_at K n hK i j hi hj]
    exact hv
  · rw [h.cellAt _ (by omega), bcells_at K n hK i j hi hj]
    refine ⟨?_, h.frozenAt _⟩
    rw [List.getElem?_eq_getElem (by rw [vals_length, hK i hi]; exact hj)]
    rfl
theorem bcinfo : ∃ i z, Try.prog.info? 72 = some i ∧ i.zero = some z ∧ i.size = 64 ∧ i.bytes = 64 ∧ z.cells.size = 64 := by
  have h := binfo
  cases hi : Try.prog.info? 72 with
  | none => rw [hi] at h; cases h
  | some i =>
    rw [hi] at h
    simp only [Option.map_some, Option.some.injEq, Prod.mk.injEq] at h
    obtain ⟨hz, hs, hb⟩ := h
    cases hz' : i.zero with
    | none => rw [hz'] at hz; cases hz
    | some z =>
      rw [hz'] at hz
      simp only [Option.map_some, Option.some.injEq] at hz
      exact ⟨i, z, rfl, hz', hs, hb, by rw [hz]; simp⟩
theorem below_row {w w1 : World} {T : TypeId} (hg : (w.alloc (.cells #[] T)).grownBy w1 (some w.heap.size)) : Below w.heap.size w w1 :=
  ⟨hg.os, hg.tape, hg.output, Nat.le_trans (by simp) hg.size, fun k hk => (hg.block k (by simp; omega) (by simp; omega)).trans (heap_push_lt _ hk)⟩

set_option maxRecDepth 100000 in
theorem clone_blocks {w : World} {g c n : Nat} {K : Nat → List Int} (h : Bks w g n K) (hK : ∀ i, i < n → (K i).length = 64) (h1 : 1 ≤ n) (h2 : n ≤ 16384) :
    Calls Try.prog 43 #[.slice (some ⟨g, 0, none⟩) n c] w fun e w' => ∃ G C, e = .returned (.slice (some ⟨G, 0, none⟩) n C) ∧ Below w.heap.size w w' ∧ w.heap.size ≤ G ∧ G < w'.heap.size ∧ n ≤ C ∧ Bks w' G n K := by
  obtain ⟨i0, z0, hi, hz, hs, hb, hzs⟩ := bcinfo
  have NW := hide ((h.same (w' := w.alloc (.cells #[] 72)) (heap_push_lt _ (h.lt h1))).news hK)
  have HL := hide (bcells_length K n hK)
  have HK := hide hK
  clear h hK
  have qT : ∀ (w : World) (a : Option Addr) (n c n' c' : Nat), (binOp .eql 62 (.slice a n c) (.slice none n' c')).run Try.prog w = .ok (.bool a.isNone) w := fun w a n c n' c' => Lib.run_eql_slice_nil w _ _ a n c n' c' Try.underlying62
  go_enter Try.func43, Try.ntmps43
  go_wp2_with (at_builtin; refine wpList_append_own _ rfl (.tmp 5) (.tmp 6) 62 rfl w.heap.size 72 i0 z0 64 64 Try.underlying62 hi hz hs hb hzs (by omega) (.slice (some ⟨w.heap.size, 0, none⟩) 0 0) 0 [] rfl (World.ownsRow_made w #[] 0 (Nat.le_refl _) (by unfold maxLen; omega) (by simp)) ⟨g, 0, none⟩ n c (bcells n K) rfl HL.out NW.out (bcells_one n K) (by unfold maxLen; omega) (by omega) (by simp) ?_; intro v' w1 ho hg _; have HO := hide ho; have HG := hide hg; clear ho hg)
  go_ret
  have ho := HO.out
  simp only [Nat.zero_add, List.nil_append] at ho
  obtain ⟨_, ⟨_, e⟩ | ⟨G, C, cur, rfl, hG, hc, hnC, _⟩⟩ := ho
  · omega
  · exact ⟨G, C, rfl, below_row HG.out, hG, (Array.getElem?_eq_some_iff.1 hc).1, hnC, bks_of_row HK.out (by have := HO.out; simpa using this)⟩

set_option maxRecDepth 100000 in
theorem clone_writes {w : World} {av : Option Addr} {m cv : Nat} {xs : List Value} (h : w.ownsRow 0 74 65 (.slice av m cv) m xs) (h1 : ∀ u ∈ xs, u.oneCell' = true) (hm : m < 1900000000000) :
    Calls Try.prog 44 #[.slice av m cv] w fun e w' => ∃ a' c', e = .returned (.slice a' m c') ∧ Below w.heap.size w w' ∧ w'.ownsRow w.heap.size 74 65 (.slice a' m c') m xs := by
  obtain ⟨i0, hi, hz0, hz1, hz2⟩ := info_parts winfo
  have hlen := h.1
  rcases h.2 with ⟨e1, e2⟩ | ⟨g, cap, cur, e1, _, hg, _⟩
  · obtain ⟨rfl, rfl, rfl⟩ : av = none ∧ m = 0 ∧ cv = 0 := by simpa using e1
    obtain rfl : xs = [] := List.eq_nil_of_length_eq_zero (by simpa using hlen)
    clear h e1 e2 hlen
    have qT : ∀ (w : World) (a : Option Addr) (n c n' c' : Nat), (binOp .eql 63 (.slice a n c) (.slice none n' c')).run Try.prog w = .ok (.bool a.isNone) w := fun w a n c n' c' => Lib.run_eql_slice_nil w _ _ a n c n' c' Try.underlying63
    go_enter Try.func44, Try.ntmps44
    go_wp2_with fail
    go_ret
    exact ⟨none, 0, rfl, Below.refl _ _, World.ownsRow_nil _ _ _ _⟩
  · obtain ⟨rfl, rfl⟩ : av = some ⟨g, 0, none⟩ ∧ cv = cap := by simpa using e1
    have HC : Hid (∀ j u, xs[j]? = some u → (w.alloc (.cells #[] 74)).cell? ((⟨g, 0, none⟩ : Addr).add j) = some u) := (h.alloc _).cells (g := g) rfl
    have HL := hide hlen
    clear h e1 hlen hg
    have qT : ∀ (w : World) (a : Option Addr) (n c n' c' : Nat), (binOp .eql 63 (.slice a n c) (.slice none n' c')).run Try.prog w = .ok (.bool a.isNone) w := fun w a n c n' c' => Lib.run_eql_slice_nil w _ _ a n c n' c' Try.underlying63
    go_enter Try.func44, Try.ntmps44
    go_wp2_with (at_builtin; refine wpList_append_own _ rfl (.tmp 5) (.tmp 6) 63 rfl w.heap.size 74 i0 (.agg zwr) 65 72 Try.underlying63 hi hz0 hz1 hz2 (by rfl) (by omega) (.slice (some ⟨w.heap.size, 0, none⟩) 0 0) 0 [] rfl (World.ownsRow_made w #[] 0 (Nat.le_refl _) (by unfold maxLen; omega) (by simp)) ⟨g, 0, none⟩ m cv xs rfl HL.out HC.out h1 (by unfold maxLen; omega) (by omega) (by simp) ?_; intro v' w1 ho hg _; have HO := hide ho; have HG := hide hg; clear ho hg)
    go_ret
    have ho := HO.out
    simp only [Nat.zero_add, List.nil_append] at ho
    have ho' := ho
    obtain ⟨_, ⟨rfl, e⟩ | ⟨G, C, cur, rfl, _⟩⟩ := ho
    · subst e
      exact ⟨none, 0, rfl, below_row HG.out, ho'⟩
    · exact ⟨_, _, rfl, below_row HG.out, ho'⟩
theorem wcells_one (ws : List (Nat × List Int)) : ∀ u ∈ wcells ws, u.oneCell' = true := by
  intro u hu
  unfold wcells at hu
  obtain ⟨x, _, hu⟩ := List.mem_flatMap.1 hu
  exact wcell_one x u hu
end Go.Proofs.Ytfkclebngldjmaa
