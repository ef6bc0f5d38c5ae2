/- What the landed log's Holes tells, over whatever its All tells. No condition. -/
import Derived.Test.YtcbijiielikfmaaSlotsRunS
namespace Go.Proofs.Ytcbijiielikfmaa.Ls
open Go.ChangeShapes Go.WideShapes Go.ChangeAt Go.RowKit Go.Shelf Sx
set_option linter.unusedVariables false
attribute [local go_sem] Oper.semAt_some

def argH (p : Int) : Array Value := #[.int .i64 p]
/-- what the rounds within may write: besides, the box of the hole -/
def UH (U : World → Nat → Prop) (hb : Nat) (W : World) (b : Nat) : Prop := U W b ∨ b = hb
theorem KeepU.hole {U : World → Nat → Prop} {W W' : World} (h : KeepU U W W') (hb : Nat) : KeepU (UH U hb) W W' :=
  ⟨h.size, fun b o h1 h2 h3 => h.same b o h1 h2 (fun x => h3 (.inl x)), fun b x => by
    rcases x with x | x
    · exact (h.more b x).imp .inl id
    · exact .inl (.inr x)⟩
theorem keepU_cell {U : World → Nat → Prop} {W : World} {hb o : Nat} {v : Value} (hu : ∀ b, U (W.setCell ⟨hb, o, none⟩ v) b → U W b) : KeepU (UH U hb) W (W.setCell ⟨hb, o, none⟩ v) :=
  ⟨by simp [World.setCell], fun b q h1 h2 h3 => (Below.heap_setCell _ _ _ _ (fun e => h3 (.inr e))).trans h1, fun b x => .inl (x.imp (hu b) id)⟩
/-- the invariant of Holes' loop: q places are gone through, j of them filled -/
structure HolI (V : World) (U : World → Nat → Prop) (KR : Nat → Prop) (J : Nat → World → Prop) (y : Obj) (F : Int) (ps : List (Option Al)) (j q : Nat) (W : World) : Prop where
  ql : q ≤ ps.length
  c : cnt (ps.take q) = j
  jj : J (q - j) W
  k : MineK U KR V W
  yy : Mine U W V.heap.size y
  hh : Mine U W (V.heap.size + 1) (.cells #[.int .i64 (F + (q : Int))] 3 (0, 0))
section
variable {V : World} {U : World → Nat → Prop} {KR : Nat → Prop} {J : Nat → World → Prop} {y : Obj} {F : Int} {ps : List (Option Al)} {j q B : Nat} {W W' : World}
theorem HolI.soft (hJ : ∀ k, Stab U V.heap.size (J k)) (hlt : ∀ b, KR b → b < V.heap.size) (h : HolI V U KR J y F ps j q W) (hs : Soft U B W W') (hB : V.heap.size + 2 ≤ B) : HolI V U KR J y F ps j q W' := by
  have s1 := hs.less (B' := V.heap.size) (by omega)
  have u1 := (hJ _).u _ _ h.jj s1
  exact ⟨h.ql, h.c, (hJ _).keep _ _ h.jj s1, h.k.soft hlt (Nat.le_refl _) s1 u1, h.yy.soft hs (by omega) u1, h.hh.soft hs (by omega) u1⟩
/-- the box of the hole is written -/
theorem holI_put {j' q' : Nat} {v : Int} (hv : v = F + (q' : Int)) (hJ : ∀ k, Stab U V.heap.size (J k)) (hlt : ∀ b, KR b → b < V.heap.size) (hj : J (q' - j') W) (hk : MineK U KR V W) (hy : Mine U W V.heap.size y) (hh : Mine U W (V.heap.size + 1) (.cells #[.int .i64 (F + (q : Int))] 3 (0, 0))) (h1 : q' ≤ ps.length) (h2 : cnt (ps.take q') = j') :
    HolI V U KR J y F ps j' q' (W.setCell ⟨V.heap.size + 1, 0, none⟩ (.int .i64 v)) ∧ KeepU (UH U (V.heap.size + 1)) W (W.setCell ⟨V.heap.size + 1, 0, none⟩ (.int .i64 v)) := by
  subst hv
  have S1 : Soft U V.heap.size W (W.setCell ⟨V.heap.size + 1, 0, none⟩ (.int .i64 (F + (q' : Int)))) := Soft.cell (by omega) hh.no _
  have u1 := (hJ _).u _ _ hj S1
  refine ⟨⟨h1, h2, (hJ _).keep _ _ hj S1, hk.soft hlt (Nat.le_refl _) S1 u1, ⟨(Below.heap_setCell _ _ _ _ (by show V.heap.size ≠ V.heap.size + 1; omega)).trans hy.at_, hy.cells, fun x => hy.no (u1 _ x)⟩, ⟨Boxed.set _ hh.at_, rfl, fun x => hh.no (u1 _ x)⟩⟩, keepU_cell u1⟩
end
set_option maxRecDepth 100000 in
set_option maxHeartbeats 2000000 in
theorem holes1_tells {w : World} {Ba Bf gf : Nat} {lb : Array Value} {K : Nat → Prop} {F : Int} {ps : List (Option Al)} (eg : ∀ args w, (callFunc gf args).run Try.prog w = .ok (.enter gf args) w) (hF : 0 ≤ F ∧ F ≤ 1099511627776) (hm : ps.length ≤ 1024) (hlast : ∀ x, ps[ps.length - 1]? = some x → x.isSome = true)
    (h : Tells Try.prog gf lb ((allL F ps).map argsOf) K w) (hK : ∀ k, K k → ∃ o : Obj, w.heap[k]? = some o ∧ o.isCells = true) (ba : Boxed w Ba 116 (.func (.func gf) #[] lb)) (bf : Boxed w Bf 3 (.int .i64 F)) :
    Tells Try.prog 84 #[.pointer (some ⟨Bf, 0, none⟩), .pointer (some ⟨Ba, 0, none⟩)] ((holesL F ps).map argH) (K2 Ba Bf K) w := by
  intro V hV l J Jx U hJ hJx hU hY h0
  have ba' : Boxed V Ba _ _ := (hV.same _ (.inl rfl)).trans ba
  have bf' : Boxed V Bf _ _ := (hV.same _ (.inr (.inl rfl))).trans bf
  have hc : ∀ b, K2 Ba Bf K b → ∃ o : Obj, V.heap[b]? = some o ∧ o.isCells = true := fun k hk => by
    rcases id hk with rfl | rfl | hk'
    · exact ⟨_, ba', rfl⟩
    · exact ⟨_, bf', rfl⟩
    · obtain ⟨o, ho, h2⟩ := hK k hk'
      exact ⟨o, (hV.same k hk).trans ho, h2⟩
  have hKV : ∀ k, K2 Ba Bf K k → k < V.heap.size := fun k hk => by
    obtain ⟨o, ho, _⟩ := hc k hk
    exact (Array.getElem?_eq_some_iff.1 ho).1
  obtain ⟨w0, ew0⟩ : ∃ w0, w0 = V.alloc (.cells #[.func (.yield l) #[] #[]] 57) := ⟨_, rfl⟩
  obtain ⟨w1, ew⟩ : ∃ w1, w1 = w0.alloc (.cells #[.int .i64 F] 3) := ⟨_, rfl⟩
  have B0 : Below V.heap.size V w0 := by rw [ew0]; exact below_alloc (Below.refl _ _) _
  have B1 : Below V.heap.size V w1 := by rw [ew]; exact below_alloc B0 _
  have s0 : w0.heap.size = V.heap.size + 1 := by rw [ew0]; simp
  have s1 : w1.heap.size = V.heap.size + 2 := by rw [ew, World.size_alloc, s0]
  have U1 := (hJ 0).u V w1 h0 (Soft.of_below B1)
  have y1 : Mine U w1 V.heap.size (.cells #[.func (.yield l) #[] #[]] 57) := ⟨by rw [ew, ew0]; exact (Boxed.new V _ _).alloc _, rfl, fun hu => by have := (hU _ (U1 _ hu)).1; omega⟩
  have z1 : Mine U w1 (V.heap.size + 1) (.cells #[.int .i64 (F + ((0 : Nat) : Int))] 3) := ⟨by rw [ew, ew0]; simp only [Int.natCast_zero, Int.add_zero]; exact box_two V _ _ _, rfl, fun hu => by have := (hU _ (U1 _ hu)).1; omega⟩
  have hseq := h.later (hV.less (fun k hk => .inr (.inr hk)) |>.trans (keepK_below (fun k hk => hKV k (.inr (.inr hk))) B1))
  have ca : w1.cell? ⟨Ba, 0, none⟩ = some (.func (.func gf) #[] lb) := (B1.cell (p := ⟨Ba, 0, none⟩) ba'.lt).trans ba'.cell
  have cf : w0.cell? ⟨Bf, 0, none⟩ = some (.int .i64 F) := (B0.cell (p := ⟨Bf, 0, none⟩) bf'.lt).trans bf'.cell
  rw [ew, ew0] at ca
  rw [ew0] at cf
  have HL := holesL_length ps F
  rw [List.length_map]
  have I0 : HolI V U (K2 Ba Bf K) J (.cells #[.func (.yield l) #[] #[]] 57) F ps 0 0 w1 := ⟨Nat.zero_le _, by simp [cnt], (hJ _).keep _ _ h0 (Soft.of_below B1), ⟨B1.size, fun b hb => ⟨B1.block b (hKV b hb), fun hu => (hU b (U1 b hu)).2 hb⟩⟩, y1, z1⟩
  rw [ew0] at ew
  have EW := hide ew
  have VS : V.heap.size ≤ w1.heap.size := B1.size
  have PU : ∀ {W W' : World}, Soft (UH U (V.heap.size + 1)) w1.heap.size W W' → Soft U V.heap.size W W' := fun hs => (hs.part (fun b x => .inl x)).less VS
  clear h ba bf hV ba' bf' y1 z1 ew ew0 B0 s0
  refine (callsIn_wide (n := 9)).1 (callsIn_of_wp_marks Try.func84 rfl trivial (wpIn_wide.2 ?_) rfl)
  simp only [Try.ntmps84, List.size_toArray, List.length_cons, List.length_nil, Nat.reduceAdd, Nat.reduceSub, Array.replicate_succ, Array.replicate_zero, List.push_toArray, List.append_toArray, List.nil_append, List.cons_append]
  go_wp2_with fail
  rw [← EW.out]
  refine range_seq (gf := gf) (lb := lb) rfl eg hseq (fun k hk => by rw [s1]; have := hKV k (.inr (.inr hk)); omega) (fun j W => ∃ q, HolI V U (K2 Ba Bf K) J (.cells #[.func (.yield l) #[] #[]] 57) F ps j q W) (fun c j W => c = .ret ∧ ∃ k, k < (holesL F ps).length ∧ Jx (k + 1) W) (UH U (V.heap.size + 1))
    (fun j => ⟨fun W W' ⟨q, hi⟩ hs => ⟨q, hi.soft hJ hKV (hs.part (fun b x => .inl x)) (by omega)⟩, fun W W' ⟨q, hi⟩ hs b x => x.imp ((hJ _).u _ _ hi.jj (PU hs) b) id⟩) ?hIx (fun b hb => ?hU) ⟨0, I0⟩ ?round ?done ?stop
  case hIx =>
    refine fun c j => ⟨?_, ?_⟩
    · rintro W W' ⟨h1, k, hk, h2⟩ hs
      exact ⟨h1, k, hk, (hJx _).keep _ _ h2 (PU hs)⟩
    · rintro W W' ⟨h1, k, hk, h2⟩ hs b x
      exact x.imp ((hJx _).u _ _ h2 (PU hs) b) id
  case hU =>
    rcases hb with hb | hb
    · exact ⟨Nat.lt_of_lt_of_le (hU b (U1 b hb)).1 VS, fun hk => (hU b (U1 b hb)).2 (.inr (.inr hk))⟩
    · exact ⟨by omega, fun hk => by have := hKV b (.inr (.inr hk)); omega⟩
  case round =>
    intro l2 j args W hl hx hW hi
    rw [List.getElem?_map] at hx
    obtain ⟨p, hp, rfl⟩ := Option.map_eq_some_iff.1 hx
    obtain ⟨k, e1, e2, e3⟩ := allL_get ps F j p hp
    refine ⟨rfl, ?_⟩
    simp only [argsOf, e1]
    gi_wp2
    refine ⟨trivial, fun W2 hi2 hW2 => ?_⟩
    have kl := (List.getElem?_eq_some_iff.1 e2).1
    obtain ⟨q0, hq0⟩ := hi2
    have q0k : q0 ≤ k := by
      rcases Nat.lt_or_ge k q0 with h1 | h1
      · have := cnt_take_mono ps (a := k + 1) (b := q0) h1
        rw [cnt_take_succ e2, hq0.c, e3] at this
        simp only [Option.isSome_some, if_true] at this
        omega
      · exact h1
    gi_wp2
    have LK : Hid (cnt (ps.take (k + 1)) = j + 1) := by show _ = _; rw [cnt_take_succ e2, e3]; rfl
    have KH : Hid (HolI V U (K2 Ba Bf K) J (.cells #[.func (.yield l) #[] #[]] 57) F ps j q0 W2 ∧ KeepU (UH U (V.heap.size + 1)) W2 W2 ∧ KeepsFrom w1.heap.size W2 W2) := ⟨hq0, KeepU.refl _ _, KeepsFrom.refl _ _⟩
    clear hq0 hi hp hx
    gi_loopw [] (fun wr => ∃ q, q ≤ k ∧ Hid (HolI V U (K2 Ba Bf K) J (.cells #[.func (.yield l) #[] #[]] 57) F ps j q wr ∧ KeepU (UH U (V.heap.size + 1)) W2 wr ∧ KeepsFrom w1.heap.size W2 wr)) (fun wr => (F + (k : Int) - intOf ((wr.cell? ⟨V.heap.size + 1, 0, none⟩).getD undef)).toNat)
    case atStart => exact ⟨q0, q0k, KH⟩
    case round =>
      clear KH
      obtain ⟨q, qk, HI⟩ := hrel
      obtain ⟨hi, ku, kf⟩ := HI.out
      have ch : wr.cell? ⟨V.heap.size + 1, 0, none⟩ = some (.int .i64 (F + (q : Int))) := Boxed.cell (t := 3) hi.hh.at_
      have cz := Boxed.frozen (t := 3) hi.hh.at_
      have cy : wr.cell? ⟨V.heap.size, 0, none⟩ = some (.func (.yield l) #[] #[]) := Boxed.cell (t := 57) hi.yy.at_
      by_cases hlt : q < k
      · have en : ps[q]? = some none := by
          have ql : q < ps.length := by omega
          have h1 : ps[q]? = some ps[q] := List.getElem?_eq_getElem ql
          have h2 := cnt_take_succ h1
          have h3 := cnt_take_mono ps (a := q + 1) (b := k) (by omega)
          have h4 := hi.c
          cases ho : ps[q] with
          | none => rw [h1, ho]
          | some x =>
            rw [ho] at h2
            simp only [Option.isSome_some, if_true] at h2
            omega
        have hcq : j ≤ q := by
          have h1 := cnt_le (ps.take q)
          have h2 := hi.c
          simp at h1
          omega
        have XA : ((holesL F ps).map argH)[q - j]? = some (argH (F + (q : Int))) := by
          have := holesL_at ps F q en
          rw [hi.c] at this
          rw [List.getElem?_map, this]; rfl
        have XL : Hid (q - j < (holesL F ps).length) := by have := (List.getElem?_eq_some_iff.1 XA).1; rw [List.length_map] at this; exact this
        have CQ : Hid (cnt (ps.take (q + 1)) = j) := by show _ = _; rw [cnt_take_succ en, hi.c]; rfl
        obtain ⟨fn, tmps, assign, body, hy, hR⟩ := yield_round (l' := l2) (yield_bool (m' := 6) (hY _ _ wr XA hi.k.1 hi.jj))
        simp only [argH] at hy
        have i1 : F + (q : Int) < F + (k : Int) := by omega
        have i2 : IntKind.i64.wrap (F + (q : Int) + 1) = F + ((q + 1 : Nat) : Int) := by rw [IntKind.wrap_i64]; omega
        clear XA en hi ku kf
        gi_wp2
        refine hR.mono ?_
        rintro e w3 ⟨ok, rfl, ⟨rfl, hj3, hk3, hf3⟩ | ⟨rfl, hj3, hk3, hf3⟩⟩
        · have m3 := HI.out.1.k.next hc hk3
          have y3 := HI.out.1.yy.keep hk3
          have h3 := HI.out.1.hh.keep hk3
          have ch3 : w3.cell? ⟨V.heap.size + 1, 0, none⟩ = some (.int .i64 (F + (q : Int))) := Boxed.cell (t := 3) h3.at_
          have cz3 := Boxed.frozen (t := 3) h3.at_
          have FIN : Hid (∀ v : Int, v = F + ((q + 1 : Nat) : Int) → HolI V U (K2 Ba Bf K) J (.cells #[.func (.yield l) #[] #[]] 57) F ps j (q + 1) (w3.setCell ⟨V.heap.size + 1, 0, none⟩ (.int .i64 v)) ∧ KeepU (UH U (V.heap.size + 1)) W2 (w3.setCell ⟨V.heap.size + 1, 0, none⟩ (.int .i64 v)) ∧ KeepsFrom w1.heap.size W2 (w3.setCell ⟨V.heap.size + 1, 0, none⟩ (.int .i64 v))) := fun v hv => by
            have := holI_put (ps := ps) (q' := q + 1) (j' := j) hv hJ hKV (by rw [show q + 1 - j = q - j + 1 by omega]; exact hj3) m3 y3 h3 (by omega) CQ.out
            exact ⟨this.1, HI.out.2.1.trans ((KeepU.hole hk3 _).trans this.2), (HI.out.2.2.trans (kf_less hf3 VS)).trans ((KeepsOthers.setCell _ _ _).from _)⟩
          clear m3 y3 h3 hj3 hk3 hf3
          gi_wp2
          refine ⟨⟨q + 1, by omega, FIN.out _ (by omega)⟩, ?_⟩
          rw [ch, (Boxed.cell (t := 3) (FIN.out _ (by omega)).1.hh.at_)]
          simp [intOf]
          omega
        · gi_wp2
          exact ⟨HI.out.2.2.trans (kf_less hf3 VS), HI.out.2.1.trans (KeepU.hole hk3 _), rfl, _, XL.out, hj3⟩
      · obtain rfl : q = k := by omega
        have hcq : j ≤ q := by
          have h1 := cnt_le (ps.take q)
          have h2 := hi.c
          simp at h1
          omega
        have FIN : Hid (∀ v : Int, v = F + ((q + 1 : Nat) : Int) → HolI V U (K2 Ba Bf K) J (.cells #[.func (.yield l) #[] #[]] 57) F ps (j + 1) (q + 1) (wr.setCell ⟨V.heap.size + 1, 0, none⟩ (.int .i64 v)) ∧ KeepU (UH U (V.heap.size + 1)) W2 (wr.setCell ⟨V.heap.size + 1, 0, none⟩ (.int .i64 v)) ∧ KeepsFrom w1.heap.size W2 (wr.setCell ⟨V.heap.size + 1, 0, none⟩ (.int .i64 v))) := fun v hv => by
          have := holI_put (ps := ps) (q' := q + 1) (j' := j + 1) hv hJ hKV (by rw [show q + 1 - (j + 1) = q - j by omega]; exact hi.jj) hi.k hi.yy hi.hh (by omega) LK.out
          exact ⟨this.1, ku.trans this.2, kf.trans ((KeepsOthers.setCell _ _ _).from _)⟩
        have i3 : IntKind.i64.wrap (F + (q : Int) + 1) = F + (q : Int) + 1 := by rw [IntKind.wrap_i64]; omega
        clear hi ku kf
        gi_wp2
        obtain ⟨f1, f2, f3⟩ := FIN.out (F + (q : Int) + 1) (by omega)
        exact ⟨f3, f2, q + 1, f1⟩
  case done =>
    rintro D W hD ⟨q, hi⟩ hd nd
    have hj := hi.jj
    have hcc := hi.c
    rw [List.length_map, allL_length] at hj hcc
    have eq := cnt_whole hlast hi.ql hcc
    rw [eq, show ps.length - cnt ps = (holesL F ps).length by omega] at hj
    dsimp only
    go_wp2_with fail
    refine ⟨by simp, .inl ⟨_, _, rfl, run_takeDeferred hd, ?_⟩⟩
    exact ⟨_, results_none rfl _ _ _, ⟨_, rfl⟩, .inl ((hJ _).keep _ _ hj (Soft.put (Nat.le_trans VS hD) (fun x => nd (.inl x)) _))⟩
  case stop =>
    rintro D c k W hD hk ⟨rfl, k', hk', hi⟩ hd nd
    go_wp2_with fail
    refine ⟨by simp, .inl ⟨_, _, rfl, run_takeDeferred hd, ?_⟩⟩
    exact ⟨_, results_none rfl _ _ _, ⟨_, rfl⟩, .inr ⟨k', hk', (hJx _).keep _ _ hi (Soft.put (Nat.le_trans VS hD) (fun x => nd (.inl x)) _)⟩⟩
end Go.Proofs.Ytcbijiielikfmaa.Ls
