/- A range over a function where each round's variables are new memory. No condition. -/
import Derived.Test.YthfjndlmihepbaaSeqMem
namespace Go.Proofs.Ythfjndlmihepbaa
open Go.ChangeShapes Go.WideShapes Go.ChangeAt Go.RowKit
set_option linter.unusedVariables false

/-- all rows of cells stand -/
structure CellsSame (W W' : World) : Prop where
  size : W.heap.size ≤ W'.heap.size
  same : ∀ (j : Nat) (o : Obj), W.heap[j]? = some o → o.isCells = true → W'.heap[j]? = some o
theorem cells_put {W : World} {l : Nat} {o : Obj} (h : W.heap[l]? = some o) (ho : o.isCells = false) (o' : Obj) : CellsSame W (W.putObj l o') :=
  ⟨by simp, fun j q hj hq => (World.putObj_heap_other (fun e => by
    subst e
    rw [h] at hj
    cases hj
    rw [ho] at hq
    cases hq)).trans hj⟩
theorem range_seqA {P : Program} {g : Operand} {ps : Array Tmp} {assign body : Code} {Q : Exit → Act → World → Prop} {a : Act} {w : World} {gf : Nat} {lb : Array Value}
    (hg : a.eval g = .func (.func gf) #[] lb) (eg : ∀ args w, (callFunc gf args).run P w = .ok (.enter gf args) w)
    {xs : List (Array Value)} {K : Nat → Prop} (hseq : Tells P gf lb xs K w) (hK : ∀ k, K k → k < w.heap.size)
    (I : Nat → World → Prop) (Ix : Code → Nat → World → Prop) (U : World → Nat → Prop) (hI : ∀ k, Stab U w.heap.size (I k)) (hIx : ∀ c k, Stab U w.heap.size (Ix c k))
    (hU : ∀ b, U w b → b < w.heap.size ∧ ¬ K b) (h0 : I 0 w)
    (hround : ∀ (l k : Nat) (args : Array Value) (W : World), w.heap.size ≤ l → xs[k]? = some args → w.heap.size ≤ W.heap.size → I k W → args.size = ps.size ∧
      assign.wpIn (Fence.wide.inRound l) 7 P (Exit.then (fun a1 W1 => Below W.heap.size W W1 ∧ ∀ W2, I k W2 → w.heap.size ≤ W2.heap.size → CellsSame W1 W2 →
        body.wpIn (Fence.wide.inRound l) 7 P (seqPost w.heap.size U I Ix (k + 1) W2) a1 W2) (fun _ _ _ => False))
        { tmps := (ps.zip args).foldl (fun t (p, v) => t.setIfInBounds p v) a.tmps, defers := [] } W)
    (hdone : ∀ (D : Nat) (W : World), w.heap.size ≤ D → I xs.length W → W.heap[D]? = some (.deferred (some [])) → ¬ U W D → Q .normal { a with defers := { target := .collected D, args := #[] } :: a.defers } W)
    (hstop : ∀ (D : Nat) (c : Code) (k : Nat) (W : World), w.heap.size ≤ D → k < xs.length → Ix c (k + 1) W → W.heap[D]? = some (.deferred (some [])) → ¬ U W D → c.wp P Q { a with defers := { target := .collected D, args := #[] } :: a.defers } W) :
    (Code.rangeFunc g ps assign body).wp P Q a w := by
  refine (wpIn_wide (n := 9)).1 (wpIn_rangeFunc (fun fn _ => ?_))
  obtain ⟨rec, hrec⟩ : ∃ rec : LoopState → Option Code → Loop, rec = recOf fn a.tmps ps assign body w.heap.size := ⟨_, rfl⟩
  obtain ⟨V, eV⟩ : ∃ V, V = (w.alloc (.deferred (some []))).alloc (.loop (rec .ready none)) := ⟨_, rfl⟩
  have B1 : Below w.heap.size w V := by rw [eV]; exact ((Below.refl _ w).alloc (Nat.le_refl _) _).alloc (by simp) _
  have SV : V.heap.size = w.heap.size + 2 := by rw [eV]; simp
  have UV : ∀ b, U V b → U w b := (hI 0).u w V h0 (Soft.of_below B1)
  have BK : Book U w.heap.size (rec .ready none) V := by
    refine ⟨?_, ?_, fun x => by have := (hU _ (UV _ x)).1; omega, fun x => by have := (hU _ (UV _ x)).1; omega⟩
    · have := World.alloc_heap_new (w.alloc (.deferred (some []))) (.loop (rec .ready none))
      rw [World.size_alloc] at this
      rw [eV]
      exact this
    · rw [eV]
      exact (Below.heap_alloc _ _ _ (by simp)).trans (World.alloc_heap_new w _)
  refine ⟨w.heap.size + 1, [{ target := .collected w.heap.size, args := #[] }], V, { target := .fn (.func gf) lb, args := #[.func (.yield (w.heap.size + 1)) #[] #[]] }, V, gf, #[.func (.yield (w.heap.size + 1)) #[] #[]] ++ lb, V,
    (by rw [eV, hrec]; exact run_enterLoop_outer _ _ _ _ _), ?_, fun _ _ => trivial, ?_, (fun h => by cases h), callsIn_wide.2 ?_⟩
  · simp only [resolve, hg]
    simp [go_sem]
  · simp [invoke, go_sem, eg]
  · refine (hseq V (keepK_below hK B1) (w.heap.size + 1) (fun k W => I k W ∧ Book U w.heap.size (rec .ready none) W) (fun k W => ∃ c, Ix c k W ∧ Book U w.heap.size (rec .done (some c)) W) U
      (fun k => ⟨?_, ?_⟩) (fun k => ⟨?_, ?_⟩) (fun b hb => ⟨Nat.lt_of_lt_of_le (hU b (UV b hb)).1 B1.size, (hU b (UV b hb)).2⟩) ?_ ⟨(hI 0).keep _ _ h0 (Soft.of_below B1), BK⟩).mono ?_
    · rintro W W' ⟨h1, h2⟩ hs
      have s1 := hs.less (B' := w.heap.size) (by omega)
      exact ⟨(hI k).keep _ _ h1 s1, h2.soft hs (by omega) ((hI k).u _ _ h1 s1)⟩
    · rintro W W' ⟨h1, h2⟩ hs
      exact (hI k).u _ _ h1 (hs.less (by omega))
    · rintro W W' ⟨c, h1, h2⟩ hs
      have s1 := hs.less (B' := w.heap.size) (by omega)
      exact ⟨c, (hIx c k).keep _ _ h1 s1, h2.soft hs (by omega) ((hIx c k).u _ _ h1 s1)⟩
    · rintro W W' ⟨c, h1, h2⟩ hs
      exact (hIx c k).u _ _ h1 (hs.less (by omega))
    · rintro k args W hx hsz ⟨h1, h2⟩
      obtain ⟨hz, hw⟩ := hround (w.heap.size + 1) k args W (by omega) hx (by omega) h1
      have hy := run_yield (P := P) (args := args) h2.r (by rw [hrec]; exact hz)
      rw [hrec] at hy
      refine yield_wide (m := 7) ⟨fn, _, assign, body, hy, roundIn_of_wpIn trivial (wpIn_mono hw ?_)⟩
      clear hy
      rintro e a1 W1 he
      cases e with
      | normal =>
        obtain ⟨hbe, hb⟩ := he
        have S9 : ∀ B, Soft U B W W1 := fun B => Soft.of_below hbe
        have u9 := (hI k).u _ _ h1 (S9 _)
        have h1o := h1
        have h1 := (hI k).keep _ _ h1 (S9 _)
        have h2 := h2.soft (S9 (w.heap.size + 2)) (Nat.le_refl _) u9
        have k9 : KeepU U W W1 := KeepU.of_below hbe u9
        have f9 : KeepsFrom V.heap.size W W1 := ⟨hbe.size, fun j o _ ho _ => (hbe.block j (Array.getElem?_eq_some_iff.1 ho).1).trans ho⟩
        have lt1 := (Array.getElem?_eq_some_iff.1 h2.r).1
        have S0 := Soft.put (U := U) (B := w.heap.size) (W := W1) (l := w.heap.size + 1) (by omega) h2.ur (.loop { rec .ready none with state := .busy })
        have I2 := (hI k).keep _ _ h1 S0
        have U2 := (hI k).u _ _ h1 S0
        refine ⟨_, run_beginRound h2.r (by rw [hrec]; rfl), wpIn_mono (hb _ I2 (by rw [World.putObj_size]; have := hbe.size; omega) (cells_put h2.r rfl _)) ?_⟩
        have k0 : KeepU U W1 (W1.putObj (w.heap.size + 1) (.loop { rec .ready none with state := .busy })) := KeepU.put h2.r rfl _ U2
        have f0 : KeepsFrom V.heap.size W1 (W1.putObj (w.heap.size + 1) (.loop { rec .ready none with state := .busy })) := keepsFrom_put (by omega) _
        have fin : ∀ (jump : Option Code) (W3 : World) (J : World → Prop), Stab U w.heap.size J → J W3 → KeepU U (W1.putObj (w.heap.size + 1) (.loop { rec .ready none with state := .busy })) W3 → KeepsFrom w.heap.size (W1.putObj (w.heap.size + 1) (.loop { rec .ready none with state := .busy })) W3 →
            ∃ W4, (Instr.endRound (w.heap.size + 1) jump).run P W3 = .ok (.bool jump.isNone) W4 ∧ J W4 ∧ Book U w.heap.size (rec (if jump.isNone then .ready else .done) jump) W4 ∧ KeepU U W W4 ∧ KeepsFrom V.heap.size W W4 := fun jump W3 J hJ hj hk hf => by
          have r3 := hf.same _ _ (by omega) (World.putObj_heap_same lt1) rfl
          have d3 := hf.same _ _ (Nat.le_refl _) ((World.putObj_heap_other (by omega)).trans h2.d) rfl
          have lt3 := (Array.getElem?_eq_some_iff.1 r3).1
          have n3 : ∀ b, b < w.heap.size + 2 → ¬ U W1 b → ¬ U W3 b := fun b hb hn x => by
            rcases hk.more b x with x | x
            · exact hn (U2 b x)
            · rw [World.putObj_size] at x; omega
          have S3 := Soft.put (U := U) (B := w.heap.size) (W := W3) (l := w.heap.size + 1) (by omega) (n3 _ (by omega) h2.ur) (.loop (rec (if jump.isNone then .ready else .done) jump))
          have U4 := hJ.u _ _ hj S3
          refine ⟨W3.putObj (w.heap.size + 1) (.loop (rec (if jump.isNone then .ready else .done) jump)), ?_, hJ.keep _ _ hj S3, ⟨World.putObj_heap_same lt3, (World.putObj_heap_other (by omega)).trans d3, fun x => n3 _ (by omega) h2.ur (U4 _ x), fun x => n3 _ (by omega) h2.ud (U4 _ x)⟩, ((k9.trans k0).trans hk).trans (KeepU.put r3 rfl _ U4), ((f9.trans f0).trans (kf_less hf (by omega))).trans (keepsFrom_put (by omega) _)⟩
          have := run_endRound (P := P) jump r3
          rw [hrec] at this ⊢
          exact this
        rintro e a3 W3 hp
        cases e with
        | normal =>
          obtain ⟨kf3, kk3, h3'⟩ := hp
          obtain ⟨W4, hr, hj4, hb4, hk4, hf4⟩ := fin none W3 _ (hI (k + 1)) h3' kk3 kf3
          exact ⟨_, _, hr, .inl ⟨rfl, ⟨hj4, hb4⟩, hk4, hf4⟩⟩
        | ret =>
          obtain ⟨kf3, kk3, h3'⟩ := hp
          obtain ⟨W4, hr, hj4, hb4, hk4, hf4⟩ := fin (some .ret) W3 _ (hIx .ret (k + 1)) h3' kk3 kf3
          exact ⟨_, _, hr, .inr ⟨rfl, ⟨.ret, hj4, hb4⟩, hk4, hf4⟩⟩
        | exit id =>
          obtain ⟨kf3, kk3, h3'⟩ := hp
          obtain ⟨W4, hr, hj4, hb4, hk4, hf4⟩ := fin (some (.exit id)) W3 _ (hIx (.exit id) (k + 1)) h3' kk3 kf3
          exact ⟨_, _, hr, .inr ⟨rfl, ⟨.exit id, hj4, hb4⟩, hk4, hf4⟩⟩
        | goto t =>
          obtain ⟨kf3, kk3, h3'⟩ := hp
          obtain ⟨W4, hr, hj4, hb4, hk4, hf4⟩ := fin (some (.goto t)) W3 _ (hIx (.goto t) (k + 1)) h3' kk3 kf3
          exact ⟨_, _, hr, .inr ⟨rfl, ⟨.goto t, hj4, hb4⟩, hk4, hf4⟩⟩
        | panic ch => exact hp.elim
        | outgrown => exact hp.elim
      | exit id => exact he.elim
      | goto l => exact he.elim
      | ret => exact he.elim
      | panic ch => exact he.elim
      | outgrown => exact he.elim
    · rintro e W ⟨⟨v, rfl⟩, ⟨h1, h2⟩ | ⟨k, hk, c, h1, h2⟩⟩
      · have S3 : ∀ o', Soft U w.heap.size W (W.putObj (w.heap.size + 1) o') := fun o' => Soft.put (by omega) h2.ur o'
        exact ⟨none, _, by have := run_endLoop (P := P) h2.r (by rw [hrec]; simp [recOf]); rw [hrec] at this; exact this, hdone _ _ (Nat.le_refl _) ((hI _).keep _ _ h1 (S3 _)) ((World.putObj_heap_other (by omega)).trans h2.d) (fun x => h2.ud ((hI _).u _ _ h1 (S3 _) _ x))⟩
      · have S3 : ∀ o', Soft U w.heap.size W (W.putObj (w.heap.size + 1) o') := fun o' => Soft.put (by omega) h2.ur o'
        exact ⟨some c, _, by have := run_endLoop (P := P) h2.r (by rw [hrec]; simp [recOf]); rw [hrec] at this; exact this, wpIn_wide.2 (hstop _ c k _ (Nat.le_refl _) hk ((hIx c _).keep _ _ h1 (S3 _)) ((World.putObj_heap_other (by omega)).trans h2.d) (fun x => h2.ud ((hIx c _).u _ _ h1 (S3 _) _ x)))⟩
end Go.Proofs.Ythfjndlmihepbaa
