/- A range over a function whose rounds all go on, and where what is handed out lies in memory. No condition. -/
import Derived.Test.YtjbonklgklldmaaNetMem
import Derived.RangeFuncNested
import Derived.RangeFuncLeaves
namespace Go.Proofs.Ytjbonklgklldmaa
open Go.ChangeShapes Go.WideShapes Go.ChangeAt Go.RowKit
set_option linter.unusedVariables false

/-- what lies ahead of B, and all rows of cells, stand -/
structure Soft (B : Nat) (W W' : World) : Prop where
  os : W'.os = W.os
  tape : W'.tape = W.tape
  output : W'.output = W.output
  size : W.heap.size ≤ W'.heap.size
  same : ∀ (j : Nat) (o : Obj), W.heap[j]? = some o → j < B ∨ o.isCells = true → W'.heap[j]? = some o
theorem Soft.refl (B : Nat) (W : World) : Soft B W W := ⟨rfl, rfl, rfl, Nat.le_refl _, fun _ _ h _ => h⟩
theorem Soft.trans {B : Nat} {X Y Z : World} (h : Soft B X Y) (g : Soft B Y Z) : Soft B X Z :=
  ⟨g.os.trans h.os, g.tape.trans h.tape, g.output.trans h.output, Nat.le_trans h.size g.size, fun j o hj ho => g.same j o (h.same j o hj ho) ho⟩
theorem Soft.of_below {B : Nat} {W W' : World} (h : Below W.heap.size W W') : Soft B W W' :=
  ⟨h.os, h.tape, h.output, h.size, fun j o hj _ => (h.block j (Array.getElem?_eq_some_iff.1 hj).1).trans hj⟩
theorem Soft.put {B l : Nat} {W : World} {o : Obj} (hl : B ≤ l) (h : W.heap[l]? = some o) (ho : o.isCells = false) (o' : Obj) : Soft B W (W.putObj l o') :=
  ⟨rfl, rfl, rfl, by simp, fun j q hj hq => by
    have hne : j ≠ l := by
      rintro rfl
      rw [h] at hj
      cases hj
      rcases hq with hq | hq
      · omega
      · rw [ho] at hq; cases hq
    exact (World.putObj_heap_other hne).trans hj⟩
theorem Soft.below {B : Nat} {W W' : World} (h : Soft B W W') (hB : B ≤ W.heap.size) : Below B W W' :=
  ⟨h.os, h.tape, h.output, h.size, fun k hk => by
    have hk' : k < W.heap.size := by omega
    rw [Array.getElem?_eq_getElem hk']
    exact h.same k _ (Array.getElem?_eq_getElem hk') (.inl hk)⟩
theorem Soft.below' {B N : Nat} {W W' : World} (h : Soft B W W') (hN : N ≤ B) (hW : N ≤ W.heap.size) : Below N W W' :=
  ⟨h.os, h.tape, h.output, h.size, fun k hk => by
    have hk' : k < W.heap.size := by omega
    rw [Array.getElem?_eq_getElem hk']
    exact h.same k _ (Array.getElem?_eq_getElem hk') (.inl (by omega))⟩
/-- the blocks of K stand -/
structure KeepK (K : Nat → Prop) (W W' : World) : Prop where
  size : W.heap.size ≤ W'.heap.size
  same : ∀ k, K k → W'.heap[k]? = W.heap[k]?
theorem KeepK.refl (K : Nat → Prop) (W : World) : KeepK K W W := ⟨Nat.le_refl _, fun _ _ => rfl⟩
theorem KeepK.trans {K : Nat → Prop} {X Y Z : World} (h : KeepK K X Y) (g : KeepK K Y Z) : KeepK K X Z := ⟨Nat.le_trans h.size g.size, fun k hk => (g.same k hk).trans (h.same k hk)⟩
theorem keepK_put {K : Nat → Prop} {B l : Nat} {W : World} (hK : ∀ k, K k → k < B) (hl : B ≤ l) (o : Obj) : KeepK K W (W.putObj l o) := ⟨by simp, fun k hk => World.putObj_heap_other (by have := hK k hk; omega)⟩
theorem keepK_below {K : Nat → Prop} {W W' : World} (hK : ∀ k, K k → k < W.heap.size) (h : Below W.heap.size W W') : KeepK K W W' := ⟨h.size, fun k hk => h.block k (hK k hk)⟩

/-- the loop's record in a state -/
def recOf (fn : FuncId) (tm : Array Value) (ps : Array Tmp) (assign body : Code) (D : Nat) (st : LoopState) : Loop := { state := st, pending := none, fn := fn, tmps := tm, params := ps, assign := assign, body := body, defers := D }

theorem range_own {P : Program} {n : Nat} {g : Operand} {ps : Array Tmp} {assign body : Code} {Q : Exit → Act → World → Prop} {a : Act} {w : World} {gf : Nat} {lb : Array Value}
    (hg : a.eval g = .func (.func gf) #[] lb) (eg : ∀ args w, (callFunc gf args).run P w = .ok (.enter gf args) w)
    (N : Nat) (K : Nat → Prop) (hK : ∀ k, K k → k < w.heap.size) (I : Nat → World → Prop) (X : Nat → Array Value → World → Prop)
    (hI : ∀ k W W', I k W → Soft w.heap.size W W' → I k W')
    (hit : ∀ (l : Nat) (J : Nat → World → Prop), (∀ k W W', J k W → Below W.heap.size W W' → J k W') →
      (∀ k args W, k < N → J k W → X k args W → YieldAt Fence.wide (n - 1 - 1) P l args W fun e W' => e = .returned (.bool true) ∧ J (k + 1) W' ∧ KeepK K W W') →
      ∀ W, Below w.heap.size w W → J 0 W → CallsIn Fence.wide (n - 1) P gf (#[.func (.yield l) #[] #[]] ++ lb) W fun e W' => (∃ v, e = .returned v) ∧ J N W')
    (h0 : I 0 w)
    (hround : ∀ (l k : Nat) (args : Array Value) (W : World), w.heap.size ≤ l → k < N → I k W → X k args W → args.size = ps.size ∧
      assign.wpIn (Fence.wide.inRound l) (n - 1 - 1) P (Exit.then (fun a1 W1 => KeepsFrom w.heap.size W W1 ∧ KeepK K W W1 ∧ ∀ W2, Soft w.heap.size W1 W2 →
        body.wpIn (Fence.wide.inRound l) (n - 1 - 1) P (fun e _ W3 => e = .normal ∧ KeepsFrom w.heap.size W2 W3 ∧ KeepK K W2 W3 ∧ I (k + 1) W3) a1 W2) (fun _ _ _ => False))
        { tmps := (ps.zip args).foldl (fun t (p, v) => t.setIfInBounds p v) a.tmps, defers := [] } W)
    (hdone : ∀ (D : Nat) (W : World), w.heap.size ≤ D → I N W → W.heap[D]? = some (.deferred (some [])) → Q .normal { a with defers := { target := .collected D, args := #[] } :: a.defers } W) :
    (Code.rangeFunc g ps assign body).wpIn Fence.wide n P Q a w := by
  refine wpIn_rangeFunc (fun fn _ => ?_)
  obtain ⟨V, eV⟩ : ∃ V, V = (w.alloc (.deferred (some []))).alloc (.loop (recOf fn a.tmps ps assign body w.heap.size .ready)) := ⟨_, rfl⟩
  have B1 : Below w.heap.size w ((w.alloc (.deferred (some []))).alloc (.loop (recOf fn a.tmps ps assign body w.heap.size .ready))) := ((Below.refl _ w).alloc (Nat.le_refl _) _).alloc (by simp) _
  have L1 : ((w.alloc (.deferred (some []))).alloc (.loop (recOf fn a.tmps ps assign body w.heap.size .ready))).heap[w.heap.size + 1]? = some (.loop (recOf fn a.tmps ps assign body w.heap.size .ready)) := by
    have := World.alloc_heap_new (w.alloc (.deferred (some []))) (.loop (recOf fn a.tmps ps assign body w.heap.size .ready))
    rwa [World.size_alloc] at this
  have D1 : ((w.alloc (.deferred (some []))).alloc (.loop (recOf fn a.tmps ps assign body w.heap.size .ready))).heap[w.heap.size]? = some (.deferred (some [])) :=
    (Below.heap_alloc _ _ _ (by simp)).trans (World.alloc_heap_new w _)
  rw [← eV] at B1 L1 D1
  refine ⟨w.heap.size + 1, [{ target := .collected w.heap.size, args := #[] }], V, { target := .fn (.func gf) lb, args := #[.func (.yield (w.heap.size + 1)) #[] #[]] }, V, gf, #[.func (.yield (w.heap.size + 1)) #[] #[]] ++ lb, V,
    (by rw [eV]; exact run_enterLoop_outer _ _ _ _ _), ?_, fun _ _ => trivial, ?_, (fun h => by cases h), ?_⟩
  · simp only [resolve, hg]
    simp [go_sem]
  · simp [invoke, go_sem, eg]
  · refine (hit (w.heap.size + 1) (fun k W => I k W ∧ W.heap[w.heap.size + 1]? = some (.loop (recOf fn a.tmps ps assign body w.heap.size .ready)) ∧ W.heap[w.heap.size]? = some (.deferred (some []))) ?_ ?_ _ B1 ⟨hI _ _ _ h0 (Soft.of_below B1), L1, D1⟩).mono ?_
    · rintro k W W' ⟨h1, h2, h3⟩ hb
      exact ⟨hI _ _ _ h1 (Soft.of_below hb), (hb.block _ (Array.getElem?_eq_some_iff.1 h2).1).trans h2, (hb.block _ (Array.getElem?_eq_some_iff.1 h3).1).trans h3⟩
    · rintro k args W hk ⟨h1, h2, h3⟩ hx
      obtain ⟨hsz, hw⟩ := hround (w.heap.size + 1) k args W (by omega) hk h1 hx
      refine ⟨fn, _, assign, body, run_yield h2 hsz, roundIn_of_wpIn trivial (wpIn_mono hw ?_)⟩
      rintro e a1 W1 he
      cases e with
      | normal =>
        obtain ⟨kf, kk, hb⟩ := he
        have r1 := kf.same _ _ (by omega) h2 rfl
        have d1 := kf.same _ _ (Nat.le_refl _) h3 rfl
        have lt1 := (Array.getElem?_eq_some_iff.1 r1).1
        refine ⟨_, run_beginRound r1 rfl, wpIn_mono (hb _ (Soft.put (by omega) r1 rfl _)) ?_⟩
        rintro e a3 W3 ⟨rfl, kf3, kk3, h3'⟩
        have r3 := kf3.same _ _ (by omega) (World.putObj_heap_same lt1) rfl
        have d3 := kf3.same _ _ (Nat.le_refl _) ((World.putObj_heap_other (by omega)).trans d1) rfl
        have lt3 := (Array.getElem?_eq_some_iff.1 r3).1
        exact ⟨_, _, run_endRound none r3, rfl, ⟨hI _ _ _ h3' (Soft.put (by omega) r3 rfl _), World.putObj_heap_same lt3, (World.putObj_heap_other (by omega)).trans d3⟩,
          ((kk.trans (keepK_put hK (by omega) _)).trans kk3).trans (keepK_put hK (by omega) _)⟩
      | exit id => exact he.elim
      | goto l => exact he.elim
      | ret => exact he.elim
      | panic ch => exact he.elim
      | outgrown => exact he.elim
    · rintro e W ⟨⟨v, rfl⟩, h1, h2, h3⟩
      exact ⟨none, _, run_endLoop h2 (by simp [recOf]), hdone _ _ (Nat.le_refl _) (hI _ _ _ h1 (Soft.put (by omega) h2 rfl _)) ((World.putObj_heap_other (by omega)).trans h3)⟩
end Go.Proofs.Ytjbonklgklldmaa
