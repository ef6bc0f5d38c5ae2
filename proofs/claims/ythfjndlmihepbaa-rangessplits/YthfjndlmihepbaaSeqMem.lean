/- A range over a function: sequences whose rounds may end early, one sequence within another. No condition. -/
import Derived.Test.YthfjndlmihepbaaBase
import Derived.RangeFuncNested
import Derived.RangeFuncLeaves
import Derived.RangeFuncBound
namespace Go.Proofs.Ythfjndlmihepbaa
open Go.ChangeShapes Go.WideShapes Go.ChangeAt Go.RowKit
set_option linter.unusedVariables false

/-- what lies ahead of B, and the blocks of U (which hang on the world), stand -/
structure Soft (U : World → Nat → Prop) (B : Nat) (W W' : World) : Prop where
  os : W'.os = W.os
  tape : W'.tape = W.tape
  output : W'.output = W.output
  size : W.heap.size ≤ W'.heap.size
  same : ∀ (j : Nat) (o : Obj), W.heap[j]? = some o → j < B ∨ U W j → W'.heap[j]? = some o
section
variable {U : World → Nat → Prop} {B : Nat} {W W' : World}
theorem Soft.less {B' : Nat} (h : Soft U B W W') (hb : B' ≤ B) : Soft U B' W W' := ⟨h.os, h.tape, h.output, h.size, fun j o hj ho => h.same j o hj (ho.imp (fun x => Nat.lt_of_lt_of_le x hb) id)⟩
theorem Soft.part {U' : World → Nat → Prop} (h : Soft U B W W') (hu : ∀ b, U' W b → U W b) : Soft U' B W W' := ⟨h.os, h.tape, h.output, h.size, fun j o hj ho => h.same j o hj (ho.imp id (hu j))⟩
theorem Soft.of_below (h : Below W.heap.size W W') : Soft U B W W' :=
  ⟨h.os, h.tape, h.output, h.size, fun j o hj _ => (h.block j (Array.getElem?_eq_some_iff.1 hj).1).trans hj⟩
theorem Soft.drewN (n : Nat) : Soft U B W (W.drewN n) := ⟨rfl, rfl, rfl, Nat.le_refl _, fun _ _ h _ => h⟩
theorem Soft.put {l : Nat} (hl : B ≤ l) (hn : ¬ U W l) (o' : Obj) : Soft U B W (W.putObj l o') :=
  ⟨rfl, rfl, rfl, by simp, fun j q hj hq => by
    have hne : j ≠ l := by
      rintro rfl
      rcases hq with hq | hq
      · omega
      · exact hn hq
    exact (World.putObj_heap_other hne).trans hj⟩
theorem Soft.cell {l o : Nat} (hl : B ≤ l) (hn : ¬ U W l) (v : Value) : Soft U B W (W.setCell ⟨l, o, none⟩ v) :=
  ⟨rfl, rfl, rfl, by simp [World.setCell], fun j q hj hq => by
    have hne : j ≠ l := by
      rintro rfl
      rcases hq with hq | hq
      · omega
      · exact hn hq
    exact (Below.heap_setCell _ _ _ _ hne).trans hj⟩
theorem Soft.below' {N : Nat} (h : Soft U B W W') (hN : N ≤ B) (hW : N ≤ W.heap.size) : Below N W W' :=
  ⟨h.os, h.tape, h.output, h.size, fun k hk => by
    have hk' : k < W.heap.size := by omega
    rw [Array.getElem?_eq_getElem hk']
    exact h.same k _ (Array.getElem?_eq_getElem hk') (.inl (by omega))⟩
theorem Soft.at (h : Soft U B W W') {b : Nat} (hb : b < B) (hs : b < W.heap.size) : W'.heap[b]? = W.heap[b]? := by
  rw [Array.getElem?_eq_getElem hs]
  exact h.same b _ (Array.getElem?_eq_getElem hs) (.inl hb)
end
/-- what abides the steps of others -/
structure Stab (U : World → Nat → Prop) (B : Nat) (J : World → Prop) : Prop where
  keep : ∀ W W', J W → Soft U B W W' → J W'
  u : ∀ W W', J W → Soft U B W W' → ∀ b, U W' b → U W b
/-- the blocks of K stand -/
structure KeepK (K : Nat → Prop) (W W' : World) : Prop where
  size : W.heap.size ≤ W'.heap.size
  same : ∀ k, K k → W'.heap[k]? = W.heap[k]?
theorem KeepK.refl (K : Nat → Prop) (W : World) : KeepK K W W := ⟨Nat.le_refl _, fun _ _ => rfl⟩
theorem KeepK.trans {K : Nat → Prop} {X Y Z : World} (h : KeepK K X Y) (g : KeepK K Y Z) : KeepK K X Z := ⟨Nat.le_trans h.size g.size, fun k hk => (g.same k hk).trans (h.same k hk)⟩
theorem KeepK.less {K K' : Nat → Prop} {X Y : World} (h : KeepK K X Y) (hk : ∀ k, K' k → K k) : KeepK K' X Y := ⟨h.size, fun k h' => h.same k (hk k h')⟩
theorem keepK_put {K : Nat → Prop} {B l : Nat} {W : World} (hK : ∀ k, K k → k < B) (hl : B ≤ l) (o : Obj) : KeepK K W (W.putObj l o) := ⟨by simp, fun k hk => World.putObj_heap_other (by have := hK k hk; omega)⟩
theorem keepK_below {K : Nat → Prop} {W W' : World} (hK : ∀ k, K k → k < W.heap.size) (h : Below W.heap.size W W') : KeepK K W W' := ⟨h.size, fun k hk => h.block k (hK k hk)⟩
theorem kf_less {B B' : Nat} {W W' : World} (h : KeepsFrom B W W') (hb : B ≤ B') : KeepsFrom B' W W' := ⟨h.size, fun k o hk => h.same k o (Nat.le_trans hb hk)⟩
theorem keepsFrom_put {B l : Nat} {W : World} (hl : l < B) (o : Obj) : KeepsFrom B W (W.putObj l o) := ⟨by simp, fun k q hk hq _ => (World.putObj_heap_other (by omega)).trans hq⟩

theorem yield_wide {m m' : Nat} {P : Program} {l : Nat} {args : Array Value} {W : World} {R : Ending → World → Prop} (h : YieldAt Fence.wide m P l args W R) : YieldAt Fence.wide m' P l args W R := by
  obtain ⟨fn, tmps, assign, body, hy, hF, hr⟩ := h
  exact ⟨fn, tmps, assign, body, hy, hF, fun c cs _ => hr c cs (fun d hd => by cases hd)⟩
theorem yield_round {m : Nat} {P : Program} {l l' : Nat} {args : Array Value} {W : World} {R : Ending → World → Prop} (h : YieldAt Fence.wide m P l args W R) : YieldAt (Fence.wide.inRound l') m P l args W R := h

/-- the answer of a yield as a letter -/
theorem yield_bool {m m' : Nat} {P : Program} {l : Nat} {args : Array Value} {W : World} {A B : World → Prop} (h : YieldAt Fence.wide m P l args W fun e W' => (e = .returned (.bool true) ∧ A W') ∨ (e = .returned (.bool false) ∧ B W')) : YieldAt Fence.wide m' P l args W fun e W' => ∃ b, e = .returned (.bool b) ∧ ((b = true ∧ A W') ∨ (b = false ∧ B W')) :=
  (yield_wide h).mono fun e W' hq => by
    rcases hq with ⟨e1, h1⟩ | ⟨e1, h1⟩
    · exact ⟨true, e1, .inl ⟨rfl, h1⟩⟩
    · exact ⟨false, e1, .inr ⟨rfl, h1⟩⟩
/-- of the cells none has turned but those of the blocks of U (which hang on the world); U gets new blocks alone -/
structure KeepU (U : World → Nat → Prop) (W W' : World) : Prop where
  size : W.heap.size ≤ W'.heap.size
  same : ∀ (b : Nat) (o : Obj), W.heap[b]? = some o → o.isCells = true → ¬ U W b → W'.heap[b]? = some o
  more : ∀ b, U W' b → U W b ∨ W.heap.size ≤ b
theorem KeepU.refl (U : World → Nat → Prop) (W : World) : KeepU U W W := ⟨Nat.le_refl _, fun _ _ h _ _ => h, fun _ h => .inl h⟩
theorem KeepU.trans {U : World → Nat → Prop} {X Y Z : World} (h : KeepU U X Y) (g : KeepU U Y Z) : KeepU U X Z :=
  ⟨Nat.le_trans h.size g.size, fun b o hb hc hn => g.same b o (h.same b o hb hc hn) hc (fun hu => by
    rcases h.more b hu with h1 | h1
    · exact hn h1
    · have := (Array.getElem?_eq_some_iff.1 hb).1; omega), fun b hb => by
    rcases g.more b hb with h1 | h1
    · exact h.more b h1
    · exact .inr (Nat.le_trans h.size h1)⟩
theorem KeepU.put {U : World → Nat → Prop} {W : World} {l : Nat} {o : Obj} (h : W.heap[l]? = some o) (ho : o.isCells = false) (o' : Obj) (hu : ∀ b, U (W.putObj l o') b → U W b) : KeepU U W (W.putObj l o') := ⟨by simp, fun b q hb hc _ => (World.putObj_heap_other (fun e => by
  subst e
  rw [h] at hb
  cases hb
  rw [ho] at hc
  cases hc)).trans hb, fun b hb => .inl (hu b hb)⟩
theorem KeepU.of_below {U : World → Nat → Prop} {W W' : World} (h : Below W.heap.size W W') (hu : ∀ b, U W' b → U W b) : KeepU U W W' := ⟨h.size, fun b q hb _ _ => (h.block b (Array.getElem?_eq_some_iff.1 hb).1).trans hb, fun b hb => .inl (hu b hb)⟩
/-- a block of cells that is none of U's stands -/
structure Kpt (U : World → Nat → Prop) (W : World) (b : Nat) (o : Obj) : Prop where
  at_ : W.heap[b]? = some o
  cells : o.isCells = true
  no : ¬ U W b
theorem Kpt.keep {U : World → Nat → Prop} {W W' : World} {b : Nat} {o : Obj} (h : Kpt U W b o) (hk : KeepU U W W') : Kpt U W' b o :=
  ⟨hk.same b o h.at_ h.cells h.no, h.cells, fun hu => by
    rcases hk.more b hu with h1 | h1
    · exact h.no h1
    · have := (Array.getElem?_eq_some_iff.1 h.at_).1; omega⟩
/-- blocks that a sequence reads -/
def MineK (U : World → Nat → Prop) (K : Nat → Prop) (V W : World) : Prop := V.heap.size ≤ W.heap.size ∧ ∀ b, K b → W.heap[b]? = V.heap[b]? ∧ ¬ U W b
theorem MineK.keepK {U : World → Nat → Prop} {K : Nat → Prop} {V W : World} (h : MineK U K V W) : KeepK K V W := ⟨h.1, fun k hk => (h.2 k hk).1⟩
theorem MineK.next {U : World → Nat → Prop} {K : Nat → Prop} {V W W' : World} (hc : ∀ b, K b → ∃ o : Obj, V.heap[b]? = some o ∧ o.isCells = true) (h : MineK U K V W) (hk : KeepU U W W') : MineK U K V W' :=
  ⟨Nat.le_trans h.1 hk.size, fun b hb => by
    obtain ⟨o, ho, hcl⟩ := hc b hb
    obtain ⟨h1, h2⟩ := h.2 b hb
    have m : Kpt U W b o := ⟨h1.trans ho, hcl, h2⟩
    have m' := m.keep hk
    exact ⟨m'.at_.trans ho.symm, m'.no⟩⟩

theorem MineK.soft {U : World → Nat → Prop} {K : Nat → Prop} {V W W' : World} {B : Nat} (hlt : ∀ b, K b → b < B) (hB : B ≤ V.heap.size) (h : MineK U K V W) (hs : Soft U B W W') (hu : ∀ b, U W' b → U W b) : MineK U K V W' :=
  ⟨Nat.le_trans h.1 hs.size, fun b hb => ⟨(hs.at (hlt b hb) (by have := hlt b hb; have := h.1; omega)).trans (h.2 b hb).1, fun x => (h.2 b hb).2 (hu b x)⟩⟩
theorem Kpt.soft {U : World → Nat → Prop} {W W' : World} {b B : Nat} {o : Obj} (h : Kpt U W b o) (hs : Soft U B W W') (hb : b < B) (hu : ∀ b, U W' b → U W b) : Kpt U W' b o := ⟨hs.same b o h.at_ (.inl hb), h.cells, fun x => h.no (hu b x)⟩
/-- a sequence: what its function does with a yield, the blocks K being as in w; U: what the rounds may write -/
def Tells (P : Program) (gf : Nat) (lb : Array Value) (xs : List (Array Value)) (K : Nat → Prop) (w : World) : Prop :=
  ∀ V : World, KeepK K w V → ∀ (l : Nat) (J Jx : Nat → World → Prop) (U : World → Nat → Prop),
    (∀ k, Stab U V.heap.size (J k)) → (∀ k, Stab U V.heap.size (Jx k)) → (∀ b, U V b → b < V.heap.size ∧ ¬ K b) →
    (∀ k args W, xs[k]? = some args → V.heap.size ≤ W.heap.size → J k W → YieldAt Fence.wide 0 P l args W fun e W' =>
      (e = .returned (.bool true) ∧ J (k + 1) W' ∧ KeepU U W W' ∧ KeepsFrom V.heap.size W W') ∨ (e = .returned (.bool false) ∧ Jx (k + 1) W' ∧ KeepU U W W' ∧ KeepsFrom V.heap.size W W')) →
    J 0 V → Calls P gf (#[.func (.yield l) #[] #[]] ++ lb) V fun e W' => (∃ v, e = .returned v) ∧ (J xs.length W' ∨ ∃ k, k < xs.length ∧ Jx (k + 1) W')
theorem Tells.later {P : Program} {gf : Nat} {lb : Array Value} {xs : List (Array Value)} {K : Nat → Prop} {w w' : World} (h : Tells P gf lb xs K w) (hk : KeepK K w w') : Tells P gf lb xs K w' :=
  fun V hV => h V (hk.trans hV)

/-- what is asked behind a round's body -/
def seqPost (B : Nat) (U : World → Nat → Prop) (I : Nat → World → Prop) (Ix : Code → Nat → World → Prop) (k : Nat) (W : World) : Exit → Act → World → Prop
  | .normal, _, W' => KeepsFrom B W W' ∧ KeepU U W W' ∧ I k W'
  | .ret, _, W' => KeepsFrom B W W' ∧ KeepU U W W' ∧ Ix .ret k W'
  | .exit id, _, W' => KeepsFrom B W W' ∧ KeepU U W W' ∧ Ix (.exit id) k W'
  | .goto t, _, W' => KeepsFrom B W W' ∧ KeepU U W W' ∧ Ix (.goto t) k W'
  | .panic _, _, _ => False
  | .outgrown, _, _ => False

/-- the loop's record in a state -/
def recOf (fn : FuncId) (tm : Array Value) (ps : Array Tmp) (assign body : Code) (D : Nat) (st : LoopState) (pe : Option Code) : Loop := { state := st, pending := pe, fn := fn, tmps := tm, params := ps, assign := assign, body := body, defers := D }
/-- the loop's own two blocks -/
structure Book (U : World → Nat → Prop) (n : Nat) (r : Loop) (W : World) : Prop where
  r : W.heap[n + 1]? = some (.loop r)
  d : W.heap[n]? = some (.deferred (some []))
  ur : ¬ U W (n + 1)
  ud : ¬ U W n
theorem Book.soft {U : World → Nat → Prop} {n B : Nat} {r : Loop} {W W' : World} (h : Book U n r W) (hs : Soft U B W W') (hB : n + 2 ≤ B) (hu : ∀ b, U W' b → U W b) : Book U n r W' :=
  ⟨hs.same _ _ h.r (.inl (by omega)), hs.same _ _ h.d (.inl (by omega)), fun x => h.ur (hu _ x), fun x => h.ud (hu _ x)⟩

theorem range_seq {P : Program} {g : Operand} {ps : Array Tmp} {assign body : Code} {Q : Exit → Act → World → Prop} {a : Act} {w : World} {gf : Nat} {lb : Array Value}
    (hg : a.eval g = .func (.func gf) #[] lb) (eg : ∀ args w, (callFunc gf args).run P w = .ok (.enter gf args) w)
    {xs : List (Array Value)} {K : Nat → Prop} (hseq : Tells P gf lb xs K w) (hK : ∀ k, K k → k < w.heap.size)
    (I : Nat → World → Prop) (Ix : Code → Nat → World → Prop) (U : World → Nat → Prop) (hI : ∀ k, Stab U w.heap.size (I k)) (hIx : ∀ c k, Stab U w.heap.size (Ix c k))
    (hU : ∀ b, U w b → b < w.heap.size ∧ ¬ K b) (h0 : I 0 w)
    (hround : ∀ (l k : Nat) (args : Array Value) (W : World), w.heap.size ≤ l → xs[k]? = some args → w.heap.size ≤ W.heap.size → I k W → args.size = ps.size ∧
      assign.wpIn (Fence.wide.inRound l) 7 P (Exit.then (fun a1 W1 => W1 = W ∧ ∀ W2, I k W2 → w.heap.size ≤ W2.heap.size →
        body.wpIn (Fence.wide.inRound l) 7 P (seqPost w.heap.size U I Ix (k + 1) W2) a1 W2) (fun _ _ _ => False))
        { tmps := (ps.zip args).foldl (fun t (p, v) => t.setIfInBounds p v) a.tmps, defers := [] } W)
    (hdone : ∀ (D : Nat) (W : World), w.heap.size ≤ D → I xs.length W → W.heap[D]? = some (.deferred (some [])) → ¬ U W D → Q .normal { a with defers := { target := .collected D, args := #[] } :: a.defers } W)
    (hstop : ∀ (D : Nat) (c : Code) (k : Nat) (W : World), w.heap.size ≤ D → k < xs.length → Ix c (k + 1) W → W.heap[D]? = some (.deferred (some [])) → ¬ U W D → c.wp P Q { a with defers := { target := .collected D, args := #[] } :: a.defers } W) :
    (Code.rangeFunc g ps assign body).wp P Q a w := by
  refine (wpIn_wide (n := 9)).1 (wpIn_rangeFunc (fun fn _ => ?_))
  obtain ⟨rec, hrec⟩ : ∃ rec : LoopState → Option Code → Loop, rec = recOf fn a.tmps ps assign body w.heap.size := ⟨_, rfl⟩
  obtain ⟨V, eV⟩ : ∃ V, V = (w.alloc (.deferred (some []))).alloc (.loop (rec .ready none)) := ⟨_, rfl⟩
  have B1 : Below w.heap.size w V := by rw [eV]; exact ((Below.refl _ w).alloc (Nat.le_refl _) _).alloc (by simp) _
  have SV : V.heap.size = w.heap.size + 2 := by rw [eV]; simp
  have UV : ∀ b, U V b → U w b := (hI 0).u w V h0 (Soft.of_below B1)
  have BK : Book U w.heap.size (rec .ready none) V := by
    refine ⟨?_, ?_, fun x => by have := (hU _ (UV _ x)).1; omega, fun x => by have := (hU _ (UV _ x)).1; omega⟩
    · have := World.alloc_heap_new (w.alloc (.deferred (some []))) (.loop (rec .ready none))
      rw [World.size_alloc] at this
      rw [eV]
      exact this
    · rw [eV]
      exact (Below.heap_alloc _ _ _ (by simp)).trans (World.alloc_heap_new w _)
  refine ⟨w.heap.size + 1, [{ target := .collected w.heap.size, args := #[] }], V, { target := .fn (.func gf) lb, args := #[.func (.yield (w.heap.size + 1)) #[] #[]] }, V, gf, #[.func (.yield (w.heap.size + 1)) #[] #[]] ++ lb, V,
    (by rw [eV, hrec]; exact run_enterLoop_outer _ _ _ _ _), ?_, fun _ _ => trivial, ?_, (fun h => by cases h), callsIn_wide.2 ?_⟩
  · simp only [resolve, hg]
    simp [go_sem]
  · simp [invoke, go_sem, eg]
  · refine (hseq V (keepK_below hK B1) (w.heap.size + 1) (fun k W => I k W ∧ Book U w.heap.size (rec .ready none) W) (fun k W => ∃ c, Ix c k W ∧ Book U w.heap.size (rec .done (some c)) W) U
      (fun k => ⟨?_, ?_⟩) (fun k => ⟨?_, ?_⟩) (fun b hb => ⟨Nat.lt_of_lt_of_le (hU b (UV b hb)).1 B1.size, (hU b (UV b hb)).2⟩) ?_ ⟨(hI 0).keep _ _ h0 (Soft.of_below B1), BK⟩).mono ?_
    · rintro W W' ⟨h1, h2⟩ hs
      have s1 := hs.less (B' := w.heap.size) (by omega)
      exact ⟨(hI k).keep _ _ h1 s1, h2.soft hs (by omega) ((hI k).u _ _ h1 s1)⟩
    · rintro W W' ⟨h1, h2⟩ hs
      exact (hI k).u _ _ h1 (hs.less (by omega))
    · rintro W W' ⟨c, h1, h2⟩ hs
      have s1 := hs.less (B' := w.heap.size) (by omega)
      exact ⟨c, (hIx c k).keep _ _ h1 s1, h2.soft hs (by omega) ((hIx c k).u _ _ h1 s1)⟩
    · rintro W W' ⟨c, h1, h2⟩ hs
      exact (hIx c k).u _ _ h1 (hs.less (by omega))
    · rintro k args W hx hsz ⟨h1, h2⟩
      obtain ⟨hz, hw⟩ := hround (w.heap.size + 1) k args W (by omega) hx (by omega) h1
      have hy := run_yield (P := P) (args := args) h2.r (by rw [hrec]; exact hz)
      rw [hrec] at hy
      refine yield_wide (m := 7) ⟨fn, _, assign, body, hy, roundIn_of_wpIn trivial (wpIn_mono hw ?_)⟩
      clear hy
      rintro e a1 W1 he
      cases e with
      | normal =>
        obtain ⟨rfl, hb⟩ := he
        have lt1 := (Array.getElem?_eq_some_iff.1 h2.r).1
        have S0 := Soft.put (U := U) (B := w.heap.size) (W := W1) (l := w.heap.size + 1) (by omega) h2.ur (.loop { rec .ready none with state := .busy })
        have I2 := (hI k).keep _ _ h1 S0
        have U2 := (hI k).u _ _ h1 S0
        refine ⟨_, run_beginRound h2.r (by rw [hrec]; rfl), wpIn_mono (hb _ I2 (by rw [World.putObj_size]; omega)) ?_⟩
        have k0 : KeepU U W1 (W1.putObj (w.heap.size + 1) (.loop { rec .ready none with state := .busy })) := KeepU.put h2.r rfl _ U2
        have f0 : KeepsFrom V.heap.size W1 (W1.putObj (w.heap.size + 1) (.loop { rec .ready none with state := .busy })) := keepsFrom_put (by omega) _
        have fin : ∀ (jump : Option Code) (W3 : World) (J : World → Prop), Stab U w.heap.size J → J W3 → KeepU U (W1.putObj (w.heap.size + 1) (.loop { rec .ready none with state := .busy })) W3 → KeepsFrom w.heap.size (W1.putObj (w.heap.size + 1) (.loop { rec .ready none with state := .busy })) W3 →
            ∃ W4, (Instr.endRound (w.heap.size + 1) jump).run P W3 = .ok (.bool jump.isNone) W4 ∧ J W4 ∧ Book U w.heap.size (rec (if jump.isNone then .ready else .done) jump) W4 ∧ KeepU U W1 W4 ∧ KeepsFrom V.heap.size W1 W4 := fun jump W3 J hJ hj hk hf => by
          have r3 := hf.same _ _ (by omega) (World.putObj_heap_same lt1) rfl
          have d3 := hf.same _ _ (Nat.le_refl _) ((World.putObj_heap_other (by omega)).trans h2.d) rfl
          have lt3 := (Array.getElem?_eq_some_iff.1 r3).1
          have n3 : ∀ b, b < w.heap.size + 2 → ¬ U W1 b → ¬ U W3 b := fun b hb hn x => by
            rcases hk.more b x with x | x
            · exact hn (U2 b x)
            · rw [World.putObj_size] at x; omega
          have S3 := Soft.put (U := U) (B := w.heap.size) (W := W3) (l := w.heap.size + 1) (by omega) (n3 _ (by omega) h2.ur) (.loop (rec (if jump.isNone then .ready else .done) jump))
          have U4 := hJ.u _ _ hj S3
          refine ⟨W3.putObj (w.heap.size + 1) (.loop (rec (if jump.isNone then .ready else .done) jump)), ?_, hJ.keep _ _ hj S3, ⟨World.putObj_heap_same lt3, (World.putObj_heap_other (by omega)).trans d3, fun x => n3 _ (by omega) h2.ur (U4 _ x), fun x => n3 _ (by omega) h2.ud (U4 _ x)⟩, (k0.trans hk).trans (KeepU.put r3 rfl _ U4), (f0.trans (kf_less hf (by omega))).trans (keepsFrom_put (by omega) _)⟩
          have := run_endRound (P := P) jump r3
          rw [hrec] at this ⊢
          exact this
        rintro e a3 W3 hp
        cases e with
        | normal =>
          obtain ⟨kf3, kk3, h3'⟩ := hp
          obtain ⟨W4, hr, hj4, hb4, hk4, hf4⟩ := fin none W3 _ (hI (k + 1)) h3' kk3 kf3
          exact ⟨_, _, hr, .inl ⟨rfl, ⟨hj4, hb4⟩, hk4, hf4⟩⟩
        | ret =>
          obtain ⟨kf3, kk3, h3'⟩ := hp
          obtain ⟨W4, hr, hj4, hb4, hk4, hf4⟩ := fin (some .ret) W3 _ (hIx .ret (k + 1)) h3' kk3 kf3
          exact ⟨_, _, hr, .inr ⟨rfl, ⟨.ret, hj4, hb4⟩, hk4, hf4⟩⟩
        | exit id =>
          obtain ⟨kf3, kk3, h3'⟩ := hp
          obtain ⟨W4, hr, hj4, hb4, hk4, hf4⟩ := fin (some (.exit id)) W3 _ (hIx (.exit id) (k + 1)) h3' kk3 kf3
          exact ⟨_, _, hr, .inr ⟨rfl, ⟨.exit id, hj4, hb4⟩, hk4, hf4⟩⟩
        | goto t =>
          obtain ⟨kf3, kk3, h3'⟩ := hp
          obtain ⟨W4, hr, hj4, hb4, hk4, hf4⟩ := fin (some (.goto t)) W3 _ (hIx (.goto t) (k + 1)) h3' kk3 kf3
          exact ⟨_, _, hr, .inr ⟨rfl, ⟨.goto t, hj4, hb4⟩, hk4, hf4⟩⟩
        | panic ch => exact hp.elim
        | outgrown => exact hp.elim
      | exit id => exact he.elim
      | goto l => exact he.elim
      | ret => exact he.elim
      | panic ch => exact he.elim
      | outgrown => exact he.elim
    · rintro e W ⟨⟨v, rfl⟩, ⟨h1, h2⟩ | ⟨k, hk, c, h1, h2⟩⟩
      · have S3 : ∀ o', Soft U w.heap.size W (W.putObj (w.heap.size + 1) o') := fun o' => Soft.put (by omega) h2.ur o'
        exact ⟨none, _, by have := run_endLoop (P := P) h2.r (by rw [hrec]; simp [recOf]); rw [hrec] at this; exact this, hdone _ _ (Nat.le_refl _) ((hI _).keep _ _ h1 (S3 _)) ((World.putObj_heap_other (by omega)).trans h2.d) (fun x => h2.ud ((hI _).u _ _ h1 (S3 _) _ x))⟩
      · have S3 : ∀ o', Soft U w.heap.size W (W.putObj (w.heap.size + 1) o') := fun o' => Soft.put (by omega) h2.ur o'
        exact ⟨some c, _, by have := run_endLoop (P := P) h2.r (by rw [hrec]; simp [recOf]); rw [hrec] at this; exact this, wpIn_wide.2 (hstop _ c k _ (Nat.le_refl _) hk ((hIx c _).keep _ _ h1 (S3 _)) ((World.putObj_heap_other (by omega)).trans h2.d) (fun x => h2.ud ((hIx c _).u _ _ h1 (S3 _) _ x)))⟩
end Go.Proofs.Ythfjndlmihepbaa
