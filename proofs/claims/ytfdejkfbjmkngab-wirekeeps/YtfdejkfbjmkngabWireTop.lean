/- Things by value: their cells, what is written of them, what is read. No condition. -/
import Derived.Test.YtfdejkfbjmkngabWireStr
import Derived.Laws.Rows
import Derived.Laws.Tables
namespace Go.Proofs.Ytfdejkfbjmkngab
open Go.ChangeShapes Go.WideShapes Go.ChangeAt Go.RowKit B8 Cm Wm
set_option linter.unusedVariables false

/-- a row of cells holds these plain fields -/
def Vals (w : World) (P : Nat → Prop) (cs : Array Value) (xs : List Atom) : Prop := cs.size = xs.length ∧ ∀ (j : Nat) (x : Atom), xs[j]? = some x → ∃ v, cs[j]? = some v ∧ AtomV w P v x
theorem Vals.same {w w1 : World} {P P' : Nat → Prop} {cs : Array Value} {xs : List Atom} (h : Vals w P cs xs) (hb : ∀ b, P b → P' b ∧ w1.heap[b]? = w.heap[b]?) : Vals w1 P' cs xs :=
  ⟨h.1, fun j x hx => by obtain ⟨v, h1, h2⟩ := h.2 j x hx; exact ⟨v, h1, h2.same hb⟩⟩
def zeroA (k : Nat) : Atom := ⟨k, 0, []⟩
def zeroV (k : Nat) : Value := if k = 0 then .int .i64 0 else if k = 1 then .int .u32 0 else if k = 2 then .bool false else if k = 3 then .string ⟨#[]⟩ else .slice none 0 0
theorem atomV_zero (w : World) (P : Nat → Prop) (k : Nat) (hk : k ≤ 4) : AtomV w P (zeroV k) (zeroA k) := by
  match k, hk with
  | 0, _ => exact .inl ⟨rfl, rfl, by show -9223372036854775808 ≤ (0 : Int); omega, by show (0 : Int) ≤ 9223372036854775807; omega⟩
  | 1, _ => exact .inr (.inl ⟨rfl, rfl, by show (0 : Int) ≤ 0; omega, by show (0 : Int) ≤ 4294967295; omega⟩)
  | 2, _ => exact .inr (.inr (.inl ⟨rfl, .inr ⟨rfl, rfl⟩⟩))
  | 3, _ => exact .inr (.inr (.inr (.inl ⟨rfl, ⟨#[]⟩, rfl, rfl, by show 0 ≤ _; omega⟩)))
  | 4, _ => exact .inr (.inr (.inr (.inr ⟨rfl, none, 0, 0, rfl, ⟨rfl, Nat.le_refl _, fun _ => rfl, fun h => absurd h (by omega), wfs_nil⟩, by omega, fun b off e => by cases e⟩)))
theorem vals_zero (w : World) (P : Nat → Prop) (ks : List Nat) (hk : ∀ k ∈ ks, k ≤ 4) : Vals w P (ks.map zeroV).toArray (ks.map zeroA) := by
  refine ⟨by simp, fun j x hx => ?_⟩
  simp only [List.getElem?_map, Option.map_eq_some_iff] at hx
  obtain ⟨k, hk1, rfl⟩ := hx
  refine ⟨zeroV k, by simp [hk1], atomV_zero w P k (hk k (List.mem_of_getElem? hk1))⟩
theorem atomV_one {w : World} {P : Nat → Prop} {v : Value} {x : Atom} (h : AtomV w P v x) : v.oneCell' = true := by
  rcases h with h | h | ⟨_, h | h⟩ | ⟨_, s, h, _⟩ | ⟨_, a, n, cp, h, _⟩
  · rw [h.2.1]; rfl
  · rw [h.2.1]; rfl
  · rw [h.1]; rfl
  · rw [h.1]; rfl
  · rw [h]; rfl
  · rw [h]; rfl
theorem Vals.one {w : World} {P : Nat → Prop} {cs : Array Value} {xs : List Atom} (h : Vals w P cs xs) : cs.all (·.oneCell') = true := by
  rw [Array.all_eq_true_iff_forall_mem]
  intro v hv
  obtain ⟨j, hj, e⟩ := Array.getElem_of_mem hv
  have hjx : j < xs.length := by rw [← h.1]; exact hj
  obtain ⟨u, h1, h2⟩ := h.2 j _ (List.getElem?_eq_getElem hjx)
  rw [Array.getElem?_eq_getElem hj, e] at h1
  obtain rfl := Option.some.inj h1
  exact atomV_one h2

/-- a block's cells, as a row -/
theorem row_of_cells {w : World} {M N : Nat} (hN : 0 < N) (h : ∀ j, j < N → ∃ v, w.cell? ⟨M, j, none⟩ = some v) (h0 : w.cell? ⟨M, N, none⟩ = none) : ∃ cs t fr, w.heap[M]? = some (.cells cs t fr) ∧ cs.size = N := by
  obtain ⟨v, hv⟩ := h 0 hN
  cases hb : w.heap[M]? with
  | none => simp [World.cell?, hb] at hv
  | some ob =>
    cases ob with
    | cells cs t fr =>
      refine ⟨cs, t, fr, rfl, ?_⟩
      have hc : ∀ j, w.cell? ⟨M, j, none⟩ = cs[j]? := fun j => cell_of_row w M j cs t fr hb
      rw [hc N] at h0
      obtain ⟨u, hu⟩ := h (N - 1) (by omega)
      rw [hc] at hu
      have h1 := (Array.getElem?_eq_some_iff.1 hu).1
      have h2 : ¬ N < cs.size := fun h => by rw [Array.getElem?_eq_getElem h] at h0; cases h0
      omega
    | _ => simp [World.cell?, hb] at hv
theorem vals_of_flat {w : World} {P : Nat → Prop} {M : Nat} {cs : Array Value} {t : TypeId} {fr : Nat × Nat} {xs : List Atom} (hb : w.heap[M]? = some (.cells cs t fr)) (hs : cs.size = xs.length) (h : FlatAt w P M 0 xs) : Vals w P cs xs :=
  ⟨hs, fun j x hx => by
    obtain ⟨v, h1, h2⟩ := h j x hx
    rw [Nat.zero_add, cell_of_row w M j cs t fr hb] at h1
    exact ⟨v, h1, h2⟩⟩
theorem flat_of_vals {w : World} {P : Nat → Prop} {M : Nat} {cs : Array Value} {t : TypeId} {fr : Nat × Nat} {xs : List Atom} (hb : w.heap[M]? = some (.cells cs t fr)) (h : Vals w P cs xs) : FlatAt w P M 0 xs := fun j x hx => by
  obtain ⟨v, h1, h2⟩ := h.2 j x hx
  exact ⟨v, by rw [Nat.zero_add, cell_of_row w M j cs t fr hb]; exact h1, h2⟩

/-- a result in memory and one in a slot -/
theorem results_cell_tmp {P : Program} {fn : Func} {p q : Tmp} {ty : TypeId} (h : fn.results = #[.cell p ty, .tmp q]) (tmps : Array Value) (w : World) (g : Nat) (t : TypeId) (cs : Array Value) (fr : Nat × Nat) (d : TypeDesc) (x : Value)
    (hp : tmps.getD p undef = .pointer (some ⟨g, 0, none⟩)) (hq : tmps.getD q undef = x) (hg : w.heap[g]? = some (.cells cs t fr))
    (hu : P.underlying ty = some d) (hd : (match d with | .struct _ | .array _ _ => true | _ => false) = true) (hi : (P.info? ty).map (·.size) = some cs.size) :
    (results fn tmps).run P w = .ok (.tuple #[.agg cs, x]) w := by
  have hp' : tmps[p]?.getD undef = .pointer (some ⟨g, 0, none⟩) := by simpa using hp
  have hq' : tmps[q]?.getD undef = x := by simpa using hq
  simp [results, h, hp', hq', asAddr, run_loadVar_row w g t ty cs fr d hg hu hd hi]

/-- what a thing of these kinds is read as, and the fault -/
def tErr (ks : List Nat) (bs : List Int) : Int := if 65536 < bs.length then 22 else endA bs (flatA bs ks ⟨0, 0⟩).s
def tVal (ks : List Nat) (bs : List Int) : List Atom := if tErr ks bs = 0 then (flatA bs ks ⟨0, 0⟩).v else ks.map zeroA
theorem tErr_long {ks : List Nat} {bs : List Int} (h : 65536 < bs.length) : tErr ks bs = 22 := if_pos h
theorem tErr_short {ks : List Nat} {bs : List Int} (h : ¬ 65536 < bs.length) : tErr ks bs = endA bs (flatA bs ks ⟨0, 0⟩).s := if_neg h
theorem tVal_bad {ks : List Nat} {bs : List Int} (h : ¬ tErr ks bs = 0) : tVal ks bs = ks.map zeroA := if_neg h
theorem tVal_good {ks : List Nat} {bs : List Int} (h : tErr ks bs = 0) : tVal ks bs = (flatA bs ks ⟨0, 0⟩).v := if_pos h
theorem tVal_length (ks : List Nat) (bs : List Int) : (tVal ks bs).length = ks.length := by
  by_cases h : tErr ks bs = 0
  · rw [tVal_good h, flatA_length]
  · rw [tVal_bad h]; simp
theorem atomA_k (bs : List Int) (k : Nat) (s : St) (hk : k ≤ 4) : (atomA bs k s).v.k = k := by
  match k, hk with
  | 0, _ => rfl
  | 1, _ =>
    by_cases h : 4294967295 < (numA bs s).v
    · have e : atomA bs 1 s = ⟨⟨1, 0, []⟩, ⟨s.pl, 21⟩⟩ := if_pos h
      rw [e]
    · have e : atomA bs 1 s = ⟨⟨1, ((numA bs s).v : Int), []⟩, (numA bs s).s⟩ := if_neg h
      rw [e]
  | 2, _ => rfl
  | 3, _ => rfl
  | 4, _ => rfl
theorem flatA_kinds (bs : List Int) : ∀ (ks : List Nat) (s : St), (∀ k ∈ ks, k ≤ 4) → (flatA bs ks s).v.map Atom.k = ks
  | [], s, _ => rfl
  | k :: ks, s, h => by
    show (atomA bs k s).v.k :: (flatA bs ks _).v.map Atom.k = _
    rw [atomA_k bs k s (h k (by simp)), flatA_kinds bs ks _ (fun j hj => h j (by simp [hj]))]
theorem tVal_kinds (ks : List Nat) (bs : List Int) (h : ∀ k ∈ ks, k ≤ 4) : (tVal ks bs).map Atom.k = ks := by
  by_cases h1 : tErr ks bs = 0
  · rw [tVal_good h1]; exact flatA_kinds bs ks _ h
  · rw [tVal_bad h1, List.map_map]
    show ks.map (fun k => k) = ks
    simp
theorem endA_zero {bs : List Int} {s : St} (h : endA bs s = 0) : s.err = 0 := by
  unfold endA at h
  split at h
  · assumption
  · exact h
end Go.Proofs.Ytfdejkfbjmkngab
