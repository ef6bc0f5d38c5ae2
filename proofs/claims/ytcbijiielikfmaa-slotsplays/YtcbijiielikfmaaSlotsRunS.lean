/- What the landed log's Run tells, over whatever its All tells. No condition. -/
import Derived.Test.YtcbijiielikfmaaSlotsIterS
namespace Go.Proofs.Ytcbijiielikfmaa.Ls
open Go.ChangeShapes Go.WideShapes Go.ChangeAt Go.RowKit Go.Shelf Sx
set_option linter.unusedVariables false
attribute [local go_sem] Oper.semAt_some

/-- a function over a sequence: its two boxes, and what the sequence reads -/
def K2 (a b : Nat) (K : Nat → Prop) (k : Nat) : Prop := k = a ∨ k = b ∨ K k
theorem nxt_cnt {α : Type} (l : List (Option α)) : nxt l ≤ cnt l := by
  have h : ∀ k, k ≤ nxt l → cnt (l.take k) = k := fun k => by
    induction k with
    | zero => intro _; rfl
    | succ k ih =>
      intro hk
      obtain ⟨x, hx⟩ := nxt_below l k (by omega)
      rw [cnt_take_succ hx, ih (by omega)]
      rfl
  have := cnt_take_mono l (a := nxt l) (b := l.length) (nxt_le l)
  rw [h _ (Nat.le_refl _), List.take_length] at this
  exact this
/-- the invariant of a loop over a sequence within a sequence's function -/
structure RunI (V : World) (U : World → Nat → Prop) (KR : Nat → Prop) (J : Nat → World → Prop) (y : Obj) (r j : Nat) (W : World) : Prop where
  le : j ≤ r
  j : J j W
  k : MineK U KR V W
  y : Mine U W V.heap.size y
theorem RunI.soft {V : World} {U : World → Nat → Prop} {KR : Nat → Prop} {J : Nat → World → Prop} {y : Obj} {r j B : Nat} {W W' : World} (hJ : ∀ k, Stab U V.heap.size (J k))
    (hlt : ∀ b, KR b → b < V.heap.size) (h : RunI V U KR J y r j W) (hs : Soft U B W W') (hB : V.heap.size + 1 ≤ B) : RunI V U KR J y r j W' := by
  have s1 := hs.less (B' := V.heap.size) (by omega)
  have u1 := (hJ _).u _ _ h.j s1
  exact ⟨h.le, (hJ _).keep _ _ h.j s1, h.k.soft hlt (Nat.le_refl _) s1 u1, h.y.soft hs (by omega) u1⟩
set_option maxRecDepth 100000 in
set_option maxHeartbeats 2000000 in
theorem run1_tells {w : World} {Ba Bn gf : Nat} {lb : Array Value} {K : Nat → Prop} {F : Int} {ps : List (Option Al)} (eg : ∀ args w, (callFunc gf args).run Try.prog w = .ok (.enter gf args) w)
    (h : Tells Try.prog gf lb ((allL F ps).map argsOf) K w) (hK : ∀ k, K k → ∃ o : Obj, w.heap[k]? = some o ∧ o.isCells = true) (ba : Boxed w Ba 116 (.func (.func gf) #[] lb)) (bn : Boxed w Bn 3 (.int .i64 (F + (nxt ps : Int)))) :
    Tells Try.prog 83 #[.pointer (some ⟨Ba, 0, none⟩), .pointer (some ⟨Bn, 0, none⟩)] ((runL F ps).map argsOf) (K2 Ba Bn K) w := by
  intro V hV l J Jx U hJ hJx hU hY h0
  have ba' : Boxed V Ba _ _ := (hV.same _ (.inl rfl)).trans ba
  have bn' : Boxed V Bn _ _ := (hV.same _ (.inr (.inl rfl))).trans bn
  have hc : ∀ b, K2 Ba Bn K b → ∃ o : Obj, V.heap[b]? = some o ∧ o.isCells = true := fun k hk => by
    rcases id hk with rfl | rfl | hk'
    · exact ⟨_, ba', rfl⟩
    · exact ⟨_, bn', rfl⟩
    · obtain ⟨o, ho, h2⟩ := hK k hk'
      exact ⟨o, (hV.same k hk).trans ho, h2⟩
  have hKV : ∀ k, K2 Ba Bn K k → k < V.heap.size := fun k hk => by
    obtain ⟨o, ho, _⟩ := hc k hk
    exact (Array.getElem?_eq_some_iff.1 ho).1
  obtain ⟨w1, ew⟩ : ∃ w1, w1 = V.alloc (.cells #[.func (.yield l) #[] #[]] 119) := ⟨_, rfl⟩
  have B1 : Below V.heap.size V w1 := by rw [ew]; exact below_alloc (Below.refl _ _) _
  have s1 : w1.heap.size = V.heap.size + 1 := by rw [ew]; simp
  have U1 := (hJ 0).u V w1 h0 (Soft.of_below B1)
  have y1 : Mine U w1 V.heap.size (.cells #[.func (.yield l) #[] #[]] 119) := ⟨by rw [ew]; exact Boxed.new V _ _, rfl, fun hu => by have := (hU _ (U1 _ hu)).1; omega⟩
  have hseq := h.later (hV.less (fun k hk => .inr (.inr hk)) |>.trans (keepK_below (fun k hk => hKV k (.inr (.inr hk))) B1))
  have ca : w1.cell? ⟨Ba, 0, none⟩ = some (.func (.func gf) #[] lb) := (B1.cell (p := ⟨Ba, 0, none⟩) ba'.lt).trans ba'.cell
  rw [ew] at ca
  rw [List.length_map, runL_length]
  have I0 : RunI V U (K2 Ba Bn K) J (.cells #[.func (.yield l) #[] #[]] 119) (nxt ps) 0 w1 := ⟨Nat.zero_le _, (hJ _).keep _ _ h0 (Soft.of_below B1), ⟨B1.size, fun b hb => ⟨B1.block b (hKV b hb), fun hu => (hU b (U1 b hu)).2 hb⟩⟩, y1⟩
  have RC := hide (nxt_cnt ps)
  have BN := hide bn'
  have EW := hide ew
  have VS : V.heap.size ≤ w1.heap.size := B1.size
  clear h ba bn hV ba' bn' y1 ew
  refine (callsIn_wide (n := 9)).1 (callsIn_of_wp_marks Try.func83 rfl trivial (wpIn_wide.2 ?_) rfl)
  simp only [Try.ntmps83, List.size_toArray, List.length_cons, List.length_nil, Nat.reduceAdd, Nat.reduceSub, Array.replicate_succ, Array.replicate_zero, List.push_toArray, List.append_toArray, List.nil_append, List.cons_append]
  go_wp2_with fail
  rw [← EW.out]
  refine range_seq (gf := gf) (lb := lb) rfl eg hseq (fun k hk => by rw [s1]; exact Nat.lt_succ_of_lt (hKV k (.inr (.inr hk)))) (RunI V U (K2 Ba Bn K) J (.cells #[.func (.yield l) #[] #[]] 119) (nxt ps)) (fun c j W => c = .ret ∧ (J (nxt ps) W ∨ ∃ k, k < nxt ps ∧ Jx (k + 1) W)) U
    (fun j => ⟨fun W W' hi hs => hi.soft hJ hKV hs (by omega), fun W W' hi hs => (hJ _).u _ _ hi.j (hs.less VS)⟩) ?hIx (fun b hb => ⟨Nat.lt_of_lt_of_le (hU b (U1 b hb)).1 VS, fun hk => (hU b (U1 b hb)).2 (.inr (.inr hk))⟩) I0 ?round ?done ?stop
  case hIx =>
    refine fun c j => ⟨?_, ?_⟩
    · rintro W W' ⟨h1, h2 | ⟨k, hk, h2⟩⟩ hs
      · exact ⟨h1, .inl ((hJ _).keep _ _ h2 (hs.less VS))⟩
      · exact ⟨h1, .inr ⟨k, hk, (hJx _).keep _ _ h2 (hs.less VS)⟩⟩
    · rintro W W' ⟨h1, h2 | ⟨k, hk, h2⟩⟩ hs
      · exact (hJ _).u _ _ h2 (hs.less VS)
      · exact (hJx _).u _ _ h2 (hs.less VS)
  case round =>
    intro l2 j args W hl hx hW hi
    rw [List.getElem?_map] at hx
    obtain ⟨p, hp, rfl⟩ := Option.map_eq_some_iff.1 hx
    refine ⟨rfl, ?_⟩
    gi_wp2
    refine ⟨trivial, fun W2 hi2 hW2 => ?_⟩
    have cy : W2.cell? ⟨V.heap.size, 0, none⟩ = some (.func (.yield l) #[] #[]) := Boxed.cell (t := 119) hi2.y.at_
    have cn : W2.cell? ⟨Bn, 0, none⟩ = some (.int .i64 (F + (nxt ps : Int))) := (World.cell?_of_block (a := ⟨Bn, 0, none⟩) (hi2.k.2 Bn (.inr (.inl rfl))).1).trans BN.out.cell
    by_cases hr : j < nxt ps
    · obtain ⟨e1, x, e2, e3⟩ := runL_at ps F j hr
      rw [e1, hp] at e2
      cases e2
      have XA : ((runL F ps).map argsOf)[j]? = some (argsOf (F + (j : Int), x)) := by rw [List.getElem?_map, e1, hp]; rfl
      obtain ⟨fn, tmps, assign, body, hy, hR⟩ := yield_round (l' := l2) (yield_bool (m' := 6) (hY _ _ W2 XA hi2.k.1 hi2.j))
      simp only [argsOf, va] at hy ⊢
      have i1 : ¬ (F + (nxt ps : Int) ≤ F + (j : Int)) := by omega
      have i2 : ¬ ((nxt ps : Int) ≤ (j : Int)) := by omega
      have i3 : ¬ (nxt ps ≤ j) := by omega
      gi_wp2
      refine hR.mono ?_
      rintro e w3 ⟨ok, rfl, ⟨rfl, hj3, hk3, hf3⟩ | ⟨rfl, hj3, hk3, hf3⟩⟩
      · gi_wp2
        exact ⟨kf_less hf3 VS, hk3, ⟨hr, hj3, hi2.k.next hc hk3, hi2.y.keep hk3⟩⟩
      · gi_wp2
        exact ⟨kf_less hf3 VS, hk3, rfl, .inr ⟨j, hr, hj3⟩⟩
    · obtain ⟨k, e1, e2, e3⟩ := allL_get ps F j p hp
      have ej : j = nxt ps := by have := hi2.le; omega
      have i1 : nxt ps ≤ k := by
        have := cnt_le (ps.take k)
        have hl : (ps.take k).length ≤ k := by simp; omega
        omega
      have J1 := hide hi2.j
      rw [ej] at J1
      simp only [argsOf]
      clear ej
      gi_wp2
      refine ⟨(fun f hf => by cases hf), ?_⟩
      gi_wp2
      exact ⟨KeepsFrom.refl _ _, KeepU.refl _ _, rfl, .inl J1.out⟩
  case done =>
    intro D W hD hi hd nd
    have hj := hi.j
    have hl := hi.le
    rw [List.length_map, allL_length] at hj hl
    have ec : cnt ps = nxt ps := by have := RC.out; omega
    rw [ec] at hj
    dsimp only
    go_wp2_with fail
    refine ⟨by simp, .inl ⟨_, _, rfl, run_takeDeferred hd, ?_⟩⟩
    exact ⟨_, results_none rfl _ _ _, ⟨_, rfl⟩, .inl ((hJ _).keep _ _ hj (Soft.put (Nat.le_trans VS hD) nd _))⟩
  case stop =>
    rintro D c k W hD hk ⟨rfl, hi⟩ hd nd
    go_wp2_with fail
    refine ⟨by simp, .inl ⟨_, _, rfl, run_takeDeferred hd, ?_⟩⟩
    have S1 : Soft U V.heap.size W (W.putObj D (.deferred none)) := Soft.put (Nat.le_trans VS hD) nd _
    refine ⟨_, results_none rfl _ _ _, ⟨_, rfl⟩, ?_⟩
    rcases hi with hi | ⟨k, hk, hi⟩
    · exact .inl ((hJ _).keep _ _ hi S1)
    · exact .inr ⟨k, hk, (hJx _).keep _ _ hi S1⟩
end Go.Proofs.Ytcbijiielikfmaa.Ls
