/- The law folder's told: what All, Run and Holes tell, as lists. No condition. -/
import Derived.Test.YtcbijiielikfmaaSlotsSeqS
import Derived.Test.YtcbijiielikfmaaSeqGath
namespace Go.Proofs.Ytcbijiielikfmaa.Ls
open Go.ChangeShapes Go.WideShapes Go.ChangeAt Go.RowKit Go.Shelf Sx
set_option linter.unusedVariables false
attribute [local go_sem] Oper.semAt_some

/-- places that are filled, as cells -/
def hcells (l : List (Int × Al)) : List Value := l.flatMap fun p => [.int .i64 p.1, va p.2]
def icells (l : List Int) : List Value := l.map fun p => .int .i64 p
theorem hcells_append (a b : List (Int × Al)) : hcells (a ++ b) = hcells a ++ hcells b := by simp [hcells]
theorem hcells_take {l : List (Int × Al)} {k : Nat} {p : Int × Al} (h : l[k]? = some p) : hcells (l.take (k + 1)) = hcells (l.take k) ++ [.int .i64 p.1, va p.2] := by
  have hk := (List.getElem?_eq_some_iff.1 h).1
  rw [List.take_succ_eq_append_getElem hk, hcells_append, (List.getElem?_eq_some_iff.1 h).2]
  rfl
theorem icells_take {l : List Int} {k : Nat} {p : Int} (h : l[k]? = some p) : icells (l.take (k + 1)) = icells (l.take k) ++ [.int .i64 p] := by
  have hk := (List.getElem?_eq_some_iff.1 h).1
  rw [List.take_succ_eq_append_getElem hk, icells, List.map_append, (List.getElem?_eq_some_iff.1 h).2]
  rfl
theorem heldinfo : (Try.prog.info? 118).map (fun i => (i.zero, i.size, i.bytes)) = some (some (.agg #[.int .i64 0, zv]), 2, 24) := by kernel_rfl
theorem intinfo : (Try.prog.info? 3).map (fun i => (i.zero, i.size, i.bytes)) = some (some (.int .i64 0), 1, 8) := by kernel_rfl
theorem eqf2 (w : World) (d : Nat) (f : Fn) (x y : Array Value) : (Op.equalIn (d + 1) 116 (.func f x y) .nilFunc).run Try.prog w = .ok false w := by
  simp [Op.equalIn, run_underlying Try.underlying116]
theorem eqf (w : World) (f : Fn) (x y : Array Value) : (binOp .eql 116 (.func f x y) .nilFunc).run Try.prog w = .ok (.bool false) w := by
  simp only [binOp]
  simp [Op.equal, Op.maxDepth, eqf2 w 9999 f x y]
theorem eqh2 (w : World) (d : Nat) (f : Fn) (x y : Array Value) : (Op.equalIn (d + 1) 89 (.func f x y) .nilFunc).run Try.prog w = .ok false w := by
  simp [Op.equalIn, run_underlying Try.underlying89]
theorem eqh (w : World) (f : Fn) (x y : Array Value) : (binOp .eql 89 (.func f x y) .nilFunc).run Try.prog w = .ok (.bool false) w := by
  simp only [binOp]
  simp [Op.equal, Op.maxDepth, eqh2 w 9999 f x y]
theorem keep_of {K : Nat → Prop} {w1 w3 : World} (c : ∀ k, K k → ∃ o : Obj, w1.heap[k]? = some o ∧ o.isCells = true) (b : Below w1.heap.size w1 w3) : KeepK K w1 w3 :=
  keepK_below (fun k hk => by obtain ⟨o, ho, _⟩ := c k hk; exact (Array.getElem?_eq_some_iff.1 ho).1) b
theorem keep_chg {K : Nat → Prop} {bx : Nat} {w1 w3 : World} (hlt : ∀ k, K k → k < w1.heap.size) (hn : ¬ K bx) (b : Chg (fun x => x = bx) w1 w3) : KeepK K w1 w3 := ⟨b.size, fun k hk => b.block k (hlt k hk) (fun e => hn (by rw [← e]; exact hk))⟩
theorem ub_first {K : Nat → Prop} {bx t : Nat} {w : World} (hb : Boxed w bx t (.slice none 0 0)) (hn : ¬ K bx) : ∀ b, Ub bx w b → b < w.heap.size ∧ ¬ K b := fun b h => by
  rcases h with rfl | ⟨v, h1, h2⟩
  · exact ⟨hb.lt, hn⟩
  · rw [hb.cell] at h1
    cases h1
    simp [Value.ownBlock] at h2
theorem stab_false {U : World → Nat → Prop} {B : Nat} : Stab U B (fun _ => False) := ⟨fun _ _ h _ => h, fun _ _ h _ => h.elim⟩
theorem cells2n (W : World) (a b : Value) (t : TypeId) : ∀ (j : Nat) (u : Value), [a, b][j]? = some u → (W.alloc (.cells #[a, b] t)).cell? ((⟨W.heap.size, 0, none⟩ : Addr).add j) = some u := fun j u hu => by
  rw [Addr.add_lit, cell_of_row _ _ _ _ _ _ (heap_alloc_new W _)]
  simpa using hu
theorem cells1n (W : World) (a : Value) (t : TypeId) : ∀ (j : Nat) (u : Value), [a][j]? = some u → (W.alloc (.cells #[a] t)).cell? ((⟨W.heap.size, 0, none⟩ : Addr).add j) = some u := fun j u hu => by
  rw [Addr.add_lit, cell_of_row _ _ _ _ _ _ (heap_alloc_new W _)]
  simpa using hu
/-- what told leaves -/
structure Told (w w' : World) (l r : List (Int × Al)) (h : List Int) (va vr vh : Value) : Prop where
  all : w'.ownsRow w.heap.size 118 2 va l.length (hcells l)
  run : w'.ownsRow w.heap.size 118 2 vr r.length (hcells r)
  holes : w'.ownsRow w.heap.size 3 1 vh h.length (icells h)
  sa : ∃ a c, va = .slice a l.length c
  sr : ∃ a c, vr = .slice a r.length c
  sh : ∃ a c, vh = .slice a h.length c
  below : Below w.heap.size w w'
set_option maxRecDepth 100000 in
set_option maxHeartbeats 2000000 in
theorem told_any {w : World} {p : Value} {F : Int} {ps : List (Option Al)} {Lv : Nat → Prop} (hA : Asks w p F ps Lv) :
    Calls Try.prog 54 #[p] w fun e w' => ∃ va vr vh, e = .returned (.tuple #[va, vr, vh, .bool true]) ∧ Told w w' (allL F ps) (runL F ps) (holesL F ps) va vr vh := by
  obtain ⟨i0, hi, hz0, hz1, hz2⟩ := info_parts heldinfo
  obtain ⟨j0, gi, gz0, gz1, gz2⟩ := info_parts intinfo
  obtain ⟨w0, ew⟩ : ∃ w0, w0 = (((w.alloc (.cells #[.slice none 0 0] 82)).alloc (.cells #[.slice none 0 0] 82)).alloc (.cells #[.slice none 0 0] 40)).alloc (.cells #[.bool false] 4) := ⟨_, rfl⟩
  have B0 : Below w.heap.size w w0 := by rw [ew]; exact below_alloc (below_alloc (below_alloc (below_alloc (Below.refl _ _) _) _) _) _
  have s0 : w0.heap.size = w.heap.size + 4 := by rw [ew]; simp
  have X0 : Boxed w0 w.heap.size 82 (.slice none 0 0) := by rw [ew]; exact (((Boxed.new w _ _).alloc _).alloc _).alloc _
  have X1 : Boxed w0 (w.heap.size + 1) 82 (.slice none 0 0) := by rw [ew]; exact ((box_two w _ _ _).alloc _).alloc _
  have X2 : Boxed w0 (w.heap.size + 2) 40 (.slice none 0 0) := by
    rw [ew]
    have := (box_two (w.alloc (.cells #[.slice none 0 0] 82)) (.cells #[.slice none 0 0] 82) 40 (.slice none 0 0)).alloc (.cells #[.bool false] 4)
    rwa [World.size_alloc] at this
  have X3 : Boxed w0 (w.heap.size + 3) 4 (.bool false) := by
    rw [ew]
    have := box_two ((w.alloc (.cells #[.slice none 0 0] 82)).alloc (.cells #[.slice none 0 0] 82)) (.cells #[.slice none 0 0] 40) 4 (.bool false)
    rwa [World.size_alloc, World.size_alloc] at this
  have CA := hide (hA.all w0 B0)
  rw [ew] at CA
  have EW := hide ew
  have M := hA.most
  have CM := cnt_le ps
  have NM := nxt_le ps
  have HM := holesL_length ps F
  have HA := hide hA
  have HX := hide (And.intro X0 (And.intro X1 (And.intro X2 X3)))
  have HB0 := hide B0
  clear hA ew X0 X1 X2 X3 B0
  refine (callsIn_wide (n := 9)).1 (callsIn_of_wp_marks Try.func54 rfl trivial (wpIn_wide.2 ?_) rfl)
  simp only [Try.ntmps54, List.size_toArray, List.length_cons, List.length_nil, Nat.reduceAdd, Nat.reduceSub, Array.replicate_succ, Array.replicate_zero, List.push_toArray, List.append_toArray, List.nil_append, List.cons_append]
  go_wp2_with fail
  refine CA.out.mono ?_
  rw [← EW.out]
  rintro e w1 ⟨gf1, lb1, K1, rfl, eg1, b1, t1, c1, k1⟩
  have B1 := HB0.out.trans (b1.mono HB0.out.size)
  have CR := hide (HA.out.run w1 B1)
  clear CA
  go_wp2_with fail
  refine CR.out.mono ?_
  rintro e w2 ⟨gf2, lb2, K2', rfl, eg2, b2, t2, c2, k2⟩
  have B2 := B1.trans (b2.mono B1.size)
  have CH := hide (HA.out.holes w2 B2)
  clear CR
  go_wp2_with fail
  refine CH.out.mono ?_
  rintro e w3 ⟨gf3, lb3, K3, rfl, eg3, b3, t3, c3, k3⟩
  have B3 := B2.trans (b3.mono B2.size)
  clear CH
  have q1 := eqf w3
  have q2 := eqh w3
  go_wp2_with fail
  clear q1 q2
  have L1 : ∀ k, K1 k → k < w1.heap.size := fun k hk => by obtain ⟨o, ho, _⟩ := c1 k hk; exact (Array.getElem?_eq_some_iff.1 ho).1
  have L2 : ∀ k, K2' k → k < w2.heap.size := fun k hk => by obtain ⟨o, ho, _⟩ := c2 k hk; exact (Array.getElem?_eq_some_iff.1 ho).1
  have L3 : ∀ k, K3 k → k < w3.heap.size := fun k hk => by obtain ⟨o, ho, _⟩ := c3 k hk; exact (Array.getElem?_eq_some_iff.1 ho).1
  have z1 := b1.size
  have z2 := b2.size
  have z3 := b3.size
  have N1 : ∀ i, i < 4 → ¬ K1 (w.heap.size + i) := fun i hi' hk => by rcases k1 _ hk with h | h; have := HA.out.lt _ h; omega; omega
  have N2 : ∀ i, i < 4 → ¬ K2' (w.heap.size + i) := fun i hi' hk => by rcases k2 _ hk with h | h; have := HA.out.lt _ h; omega; omega
  have N3 : ∀ i, i < 4 → ¬ K3 (w.heap.size + i) := fun i hi' hk => by rcases k3 _ hk with h | h; have := HA.out.lt _ h; omega; omega
  have b13 : Below w1.heap.size w1 w3 := b2.trans (b3.mono b2.size)
  have b03 : Below w0.heap.size w0 w3 := b1.trans (b13.mono b1.size)
  have Y0 : Boxed w3 w.heap.size 82 (.slice none 0 0) := (b03.block _ HX.out.1.lt).trans HX.out.1
  have Y1 : Boxed w3 (w.heap.size + 1) 82 (.slice none 0 0) := (b03.block _ HX.out.2.1.lt).trans HX.out.2.1
  have Y2 : Boxed w3 (w.heap.size + 2) 40 (.slice none 0 0) := (b03.block _ HX.out.2.2.1.lt).trans HX.out.2.2.1
  have Y3 : Boxed w3 (w.heap.size + 3) 4 (.bool false) := (b03.block _ HX.out.2.2.2.lt).trans HX.out.2.2.2
  have T1 := t1.later (keep_of c1 b13)
  have T2 := t2.later (keep_of c2 b3)
  have T3 := t3
  have l0 := Y0.lt
  have HL : (allL F ps).length = cnt ps := allL_length ps F
  have HR : (runL F ps).length = nxt ps := runL_length ps F
  clear HX HB0 EW HA c1 c2 c3 k1 k2 k3 t1 t2 t3 b1 b2 b3 b13 b03 B1 B2
  refine range_seq (gf := gf1) (lb := lb1) rfl eg1 T1 (fun k hk => by have := L1 k hk; omega) (fun k => Gt w3 w.heap.size 82 118 2 (hcells ((allL F ps).take k)) k) (fun _ _ _ => False) (Ub w.heap.size) (fun k => gt_stab l0) (fun _ _ => stab_false) (ub_first Y0 (N1 0 (by omega))) (gt_new Y0) ?round1 ?done1 (fun _ _ _ _ _ _ h => h.elim)
  case round1 =>
    intro l2 j args W hl hx hW hi'
    rw [List.getElem?_map] at hx
    obtain ⟨p, hp, rfl⟩ := Option.map_eq_some_iff.1 hx
    refine ⟨rfl, ?_⟩
    simp only [argsOf, va]
    gi_wp2
    refine ⟨trivial, fun W2 hi2 hW2 => ?_⟩
    obtain ⟨hc, a, c, h1, h2⟩ := hi2
    have jl := (List.getElem?_eq_some_iff.1 hp).1
    have c4 := h1.cell
    have C4 := hide h1
    have R4 := hide h2
    have G4 := hide hc
    have TK := hide (hcells_take hp)
    simp only [va] at TK
    have j1 : ((j : Int) + 1 ≤ 1024) := by omega
    have j2 : ¬ (1024 < (j : Int) + 1) := by omega
    have j3 : ¬ (1024 < j + 1) := by omega
    clear h1 h2 hc hi' hx
    have ON : Hid (∀ u ∈ [Value.int .i64 p.1, .string p.2], u.oneCell' = true) := fun u hu => by simp at hu; rcases hu with rfl | rfl <;> rfl
    gi_wp2_with (gi_at_builtin; refine wpListIn_append_where _ rfl (.tmp 33) (.tmp 37) 82 rfl w3.heap.size 118 i0 (.agg #[.int .i64 0, zv]) 2 24 Try.underlying82 hi hz0 hz1 hz2 rfl (by omega) a j c (hcells ((allL F ps).take j)) rfl (R4.out.alloc _) ⟨W2.heap.size, 0, none⟩ 1 1 [.int .i64 p.1, .string p.2] rfl rfl (cells2n W2 _ _ _) ON.out (by omega) (by unfold maxLen; omega) (by omega) (by simp; omega) ?_; intro g cp w4 hown' hgrow wh; obtain ⟨u1, u2, u3, u4⟩ := gt_add (by decide) G4.out l0 C4.out R4.out hown' hgrow wh; have hc1 := u1.cell; have hf1 := u1.frozen; have V2 := hide u2; have V3 := hide u3; have V4 := hide u4; clear hown' hgrow wh u1 u2 u3 u4)
    refine ⟨V4.out.from _, V3.out, ?_⟩
    show Gt _ _ _ _ _ (hcells ((allL F ps).take (j + 1))) _ _
    rw [TK.out]
    exact V2.out
  case done1 =>
    intro D1 u1 hD1 g1 d1 nd1
    rw [List.length_map, List.take_length] at g1
    have zu1 := g1.chg.size
    have ZA := hide g1
    have DA := hide d1
    have y1 : Boxed u1 (w.heap.size + 1) 82 (.slice none 0 0) := (g1.chg.block _ Y1.lt (by omega)).trans Y1
    have y2 : Boxed u1 (w.heap.size + 2) 40 (.slice none 0 0) := (g1.chg.block _ Y2.lt (by omega)).trans Y2
    have y3 : Boxed u1 (w.heap.size + 3) 4 (.bool false) := (g1.chg.block _ Y3.lt (by omega)).trans Y3
    have T2' := T2.later (keep_chg (fun k hk => by have := L2 k hk; omega) (N2 0 (by omega)) g1.chg)
    have T3' := T3.later (keep_chg L3 (N3 0 (by omega)) g1.chg)
    have ld1 := (Array.getElem?_eq_some_iff.1 d1).1
    clear T1 T2 T3 g1 d1 nd1 Y0 Y1 Y2 Y3
    have l1 := y1.lt
    dsimp only
    go_wp2_with fail
    refine range_seq (gf := gf2) (lb := lb2) rfl eg2 T2' (fun k hk => by have := L2 k hk; omega) (fun k => Gt u1 (w.heap.size + 1) 82 118 2 (hcells ((runL F ps).take k)) k) (fun _ _ _ => False) (Ub (w.heap.size + 1)) (fun k => gt_stab l1) (fun _ _ => stab_false) (ub_first y1 (N2 1 (by omega))) (gt_new y1) ?round2 ?done2 (fun _ _ _ _ _ _ h => h.elim)
    case round2 =>
      intro l2 j args W hl hx hW hi'
      rw [List.getElem?_map] at hx
      obtain ⟨p, hp, rfl⟩ := Option.map_eq_some_iff.1 hx
      refine ⟨rfl, ?_⟩
      simp only [argsOf, va]
      gi_wp2
      refine ⟨trivial, fun W2 hi2 hW2 => ?_⟩
      obtain ⟨hc, a, c, h1, h2⟩ := hi2
      have jl := (List.getElem?_eq_some_iff.1 hp).1
      have c4 := h1.cell
      have C4 := hide h1
      have R4 := hide h2
      have G4 := hide hc
      have TK := hide (hcells_take hp)
      simp only [va] at TK
      have j1 : ((j : Int) + 1 ≤ 1024) := by omega
      have j2 : ¬ (1024 < (j : Int) + 1) := by omega
      have j3 : ¬ (1024 < j + 1) := by omega
      clear h1 h2 hc hi' hx
      have ON : Hid (∀ u ∈ [Value.int .i64 p.1, .string p.2], u.oneCell' = true) := fun u hu => by simp at hu; rcases hu with rfl | rfl <;> rfl
      gi_wp2_with (gi_at_builtin; refine wpListIn_append_where _ rfl (.tmp 45) (.tmp 49) 82 rfl u1.heap.size 118 i0 (.agg #[.int .i64 0, zv]) 2 24 Try.underlying82 hi hz0 hz1 hz2 rfl (by omega) a j c (hcells ((runL F ps).take j)) rfl (R4.out.alloc _) ⟨W2.heap.size, 0, none⟩ 1 1 [.int .i64 p.1, .string p.2] rfl rfl (cells2n W2 _ _ _) ON.out (by omega) (by unfold maxLen; omega) (by omega) (by simp; omega) ?_; intro g cp w4 hown' hgrow wh; obtain ⟨u1, u2, u3, u4⟩ := gt_add (by decide) G4.out l1 C4.out R4.out hown' hgrow wh; have hc1 := u1.cell; have hf1 := u1.frozen; have V2 := hide u2; have V3 := hide u3; have V4 := hide u4; clear hown' hgrow wh u1 u2 u3 u4)
      refine ⟨V4.out.from _, V3.out, ?_⟩
      show Gt _ _ _ _ _ (hcells ((runL F ps).take (j + 1))) _ _
      rw [TK.out]
      exact V2.out
    case done2 =>
      intro D2 u2 hD2 g2 d2 nd2
      rw [List.length_map, List.take_length] at g2
      have zu2 := g2.chg.size
      have ZB := hide g2
      have DB := hide d2
      have x2 : Boxed u2 (w.heap.size + 2) 40 (.slice none 0 0) := (g2.chg.block _ y2.lt (by omega)).trans y2
      have x3 : Boxed u2 (w.heap.size + 3) 4 (.bool false) := (g2.chg.block _ y3.lt (by omega)).trans y3
      have T3'' := T3'.later (keep_chg (fun k hk => by have := L3 k hk; omega) (N3 1 (by omega)) g2.chg)
      have ld2 := (Array.getElem?_eq_some_iff.1 d2).1
      have l2' := x2.lt
      clear T2' T3' g2 d2 nd2 y1 y2 y3
      dsimp only
      go_wp2_with fail
      refine range_seq (gf := gf3) (lb := lb3) rfl eg3 T3'' (fun k hk => by have := L3 k hk; omega) (fun k => Gt u2 (w.heap.size + 2) 40 3 1 (icells ((holesL F ps).take k)) k) (fun _ _ _ => False) (Ub (w.heap.size + 2)) (fun k => gt_stab l2') (fun _ _ => stab_false) (ub_first x2 (N3 2 (by omega))) (gt_new x2) ?round3 ?done3 (fun _ _ _ _ _ _ h => h.elim)
      case round3 =>
        intro l2 j args W hl hx hW hi'
        rw [List.getElem?_map] at hx
        obtain ⟨p, hp, rfl⟩ := Option.map_eq_some_iff.1 hx
        refine ⟨rfl, ?_⟩
        simp only [argH]
        gi_wp2
        refine ⟨trivial, fun W2 hi2 hW2 => ?_⟩
        obtain ⟨hc, a, c, h1, h2⟩ := hi2
        have jl := (List.getElem?_eq_some_iff.1 hp).1
        have c4 := h1.cell
        have C4 := hide h1
        have R4 := hide h2
        have G4 := hide hc
        have TK := hide (icells_take hp)
        have j1 : ((j : Int) + 1 ≤ 1024) := by omega
        have j2 : ¬ (1024 < (j : Int) + 1) := by omega
        have j3 : ¬ (1024 < j + 1) := by omega
        clear h1 h2 hc hi' hx
        have ON : Hid (∀ u ∈ [Value.int .i64 p], u.oneCell' = true) := fun u hu => by simp at hu; rcases hu with rfl; rfl
        gi_wp2_with (gi_at_builtin; refine wpListIn_append_where _ rfl (.tmp 56) (.tmp 58) 40 rfl u2.heap.size 3 j0 (.int .i64 0) 1 8 Try.underlying40 gi gz0 gz1 gz2 rfl (by omega) a j c (icells ((holesL F ps).take j)) rfl (R4.out.alloc _) ⟨W2.heap.size, 0, none⟩ 1 1 [.int .i64 p] rfl rfl (cells1n W2 _ _) ON.out (by omega) (by unfold maxLen; omega) (by omega) (by simp; omega) ?_; intro g cp w4 hown' hgrow wh; obtain ⟨u1, u2, u3, u4⟩ := gt_add (by decide) G4.out l2' C4.out R4.out hown' hgrow wh; have hc1 := u1.cell; have hf1 := u1.frozen; have V2 := hide u2; have V3 := hide u3; have V4 := hide u4; clear hown' hgrow wh u1 u2 u3 u4)
        refine ⟨V4.out.from _, V3.out, ?_⟩
        show Gt _ _ _ _ _ (icells ((holesL F ps).take (j + 1))) _ _
        rw [TK.out]
        exact V2.out
      case done3 =>
        intro D3 u3 hD3 g3 d3 nd3
        rw [List.length_map, List.take_length] at g3
        obtain ⟨a1, c1, p1, r1⟩ := ZA.out.ex
        obtain ⟨a2, c2, p2, r2⟩ := ZB.out.ex
        obtain ⟨a3, c3, p3, r3⟩ := g3.ex
        have G1 := ZA.out.chg
        have G2 := ZB.out.chg
        have G3 := g3.chg
        have m1 : Boxed u3 w.heap.size 82 (.slice a1 (allL F ps).length c1) := (G3.block _ (by omega) (by omega)).trans ((G2.block _ (by omega) (by omega)).trans p1)
        have m2 : Boxed u3 (w.heap.size + 1) 82 (.slice a2 (runL F ps).length c2) := (G3.block _ (by omega) (by omega)).trans p2
        have m4 : Boxed u3 (w.heap.size + 3) 4 (.bool false) := (G3.block _ x3.lt (by omega)).trans x3
        have n1 : u3.ownsRow w.heap.size 118 2 (.slice a1 (allL F ps).length c1) (allL F ps).length (hcells (allL F ps)) := by
          have := row_same r1 (w' := u3) (fun k hk => by have := r1.lt k hk; exact (G3.block _ (by omega) (by omega)).trans (G2.block _ (by omega) (by omega)))
          obtain ⟨hl, h | ⟨g, cp, cur, h1, h2, h3⟩⟩ := this
          · exact ⟨hl, .inl h⟩
          · exact ⟨hl, .inr ⟨g, cp, cur, h1, by omega, h3⟩⟩
        have n2 : u3.ownsRow w.heap.size 118 2 (.slice a2 (runL F ps).length c2) (runL F ps).length (hcells (runL F ps)) := by
          have := row_same r2 (w' := u3) (fun k hk => by have := r2.lt k hk; exact G3.block _ (by omega) (by omega))
          obtain ⟨hl, h | ⟨g, cp, cur, h1, h2, h3⟩⟩ := this
          · exact ⟨hl, .inl h⟩
          · exact ⟨hl, .inr ⟨g, cp, cur, h1, by omega, h3⟩⟩
        have n3 : u3.ownsRow w.heap.size 3 1 (.slice a3 (holesL F ps).length c3) (holesL F ps).length (icells (holesL F ps)) := by
          obtain ⟨hl, h | ⟨g, cp, cur, h1, h2, h3⟩⟩ := r3
          · exact ⟨hl, .inl h⟩
          · exact ⟨hl, .inr ⟨g, cp, cur, h1, by omega, h3⟩⟩
        have dd1 : u3.heap[D1]? = some (.deferred (some [])) := (G3.block _ (by omega) (by omega)).trans ((G2.block _ (by omega) (by omega)).trans DA.out)
        have dd2 : u3.heap[D2]? = some (.deferred (some [])) := (G3.block _ (by omega) (by omega)).trans DB.out
        have zu3 := G3.size
        have BB : Below w.heap.size w u3 := by
          have k1 : Below w.heap.size w3 u1 := G1.below (by omega) (fun k hk => by omega)
          have k2 : Below w.heap.size u1 u2 := G2.below (by omega) (fun k hk => by omega)
          have k3 : Below w.heap.size u2 u3 := G3.below (by omega) (fun k hk => by omega)
          exact ((B3.trans k1).trans k2).trans k3
        have q1 := m1.cell
        have q2 := m2.cell
        have q3 := p3.cell
        have q4 := m4.cell
        have f1 := m1.frozen
        have f2 := m2.frozen
        have f3 := p3.frozen
        have f4 := m4.frozen
        have HH := hide (And.intro m1 (And.intro m2 (And.intro p3 m4)))
        have HN := hide (And.intro n1 (And.intro n2 n3))
        have HD := hide (And.intro dd1 (And.intro dd2 d3))
        have HBB := hide BB
        have HD3 := hide hD3
        have HD2 := hide hD2
        have HD1 := hide hD1
        clear m1 m2 p3 m4 n1 n2 n3 dd1 dd2 d3 BB r1 r2 r3 G1 G2 G3 g3 ZA ZB p1 p2 x2 x3 nd3 DA DB T3'' HL HR HM M CM NM
        dsimp only
        go_wp2_with fail
        have s1 := set_id HH.out.1
        have s2 := set_id HH.out.2.1
        have s3 := set_id HH.out.2.2.1
        have W1 := hide (HH.out.1.other (show w.heap.size ≠ w.heap.size + 1 + 1 + 1 by omega) (.bool true))
        have W2 := hide (HH.out.2.1.other (show w.heap.size + 1 ≠ w.heap.size + 1 + 1 + 1 by omega) (.bool true))
        have W3 := hide (HH.out.2.2.1.other (show w.heap.size + 1 + 1 ≠ w.heap.size + 1 + 1 + 1 by omega) (.bool true))
        have W4 := hide (Boxed.set (.bool true) HH.out.2.2.2)
        go_cut [] from 66 (fun w5 => w5 = (u3.setCell ⟨w.heap.size + 1 + 1 + 1, 0, none⟩ (.bool true)).drew)
        case first =>
          refine wp_nopanic ?_
          go_region_held3 (fun u => u.cell? ⟨w.heap.size, 0, none⟩ = some (.slice a1 (allL F ps).length c1) ∧ u.cell? ⟨w.heap.size + 1, 0, none⟩ = some (.slice a2 (runL F ps).length c2) ∧ u.cell? ⟨w.heap.size + 1 + 1, 0, none⟩ = some (.slice a3 (holesL F ps).length c3)) ((first | exact ⟨q1, q2, q3⟩ | exact ⟨W1.out.cell, W2.out.cell, W3.out.cell⟩)) (fail)
          all_goals (go_wp2_with fail; go_meet; case rel => rfl)
        case rest =>
          subst hcut
          go_wp2_with fail
          have h1 := HD1.out
          have h2 := HD2.out
          have h3 := HD3.out
          obtain ⟨W0, eW⟩ : ∃ W0, W0 = (u3.setCell ⟨w.heap.size + 1 + 1 + 1, 0, none⟩ (.bool true)).drew := ⟨_, rfl⟩
          have e3 : W0.heap[D3]? = some (.deferred (some [])) := by rw [eW]; exact (Below.heap_setCell _ _ _ _ (show D3 ≠ w.heap.size + 1 + 1 + 1 by omega)).trans HD.out.2.2
          have e2 : W0.heap[D2]? = some (.deferred (some [])) := by rw [eW]; exact (Below.heap_setCell _ _ _ _ (show D2 ≠ w.heap.size + 1 + 1 + 1 by omega)).trans HD.out.2.1
          have e1 : W0.heap[D1]? = some (.deferred (some [])) := by rw [eW]; exact (Below.heap_setCell _ _ _ _ (show D1 ≠ w.heap.size + 1 + 1 + 1 by omega)).trans HD.out.1
          have v1 : Boxed W0 w.heap.size 82 (.slice a1 (allL F ps).length c1) := by rw [eW]; exact W1.out
          have v2 : Boxed W0 (w.heap.size + 1) 82 (.slice a2 (runL F ps).length c2) := by rw [eW]; exact W2.out
          have v3 : Boxed W0 (w.heap.size + 1 + 1) 40 (.slice a3 (holesL F ps).length c3) := by rw [eW]; exact W3.out
          have v4 : Boxed W0 (w.heap.size + 1 + 1 + 1) 4 (.bool true) := by rw [eW]; exact W4.out
          have o1 : W0.ownsRow w.heap.size 118 2 (.slice a1 (allL F ps).length c1) (allL F ps).length (hcells (allL F ps)) := by rw [eW]; exact row_same (row_cell HN.out.1 HH.out.2.2.2 (by decide)) (fun _ _ => rfl)
          have o2 : W0.ownsRow w.heap.size 118 2 (.slice a2 (runL F ps).length c2) (runL F ps).length (hcells (runL F ps)) := by rw [eW]; exact row_same (row_cell HN.out.2.1 HH.out.2.2.2 (by decide)) (fun _ _ => rfl)
          have o3 : W0.ownsRow w.heap.size 3 1 (.slice a3 (holesL F ps).length c3) (holesL F ps).length (icells (holesL F ps)) := by rw [eW]; exact row_same (row_cell HN.out.2.2 HH.out.2.2.2 (by decide)) (fun _ _ => rfl)
          have bb : Below w.heap.size w W0 := by rw [eW]; exact (HBB.out.setCell (p := ⟨w.heap.size + 1 + 1 + 1, 0, none⟩) (by show _ ≤ w.heap.size + 1 + 1 + 1; omega) _).drew
          rw [← eW]
          clear eW
          have e2' : (W0.putObj D3 (.deferred none)).heap[D2]? = some (.deferred (some [])) := (World.putObj_heap_other (by omega)).trans e2
          have e1' : ((W0.putObj D3 (.deferred none)).putObj D2 (.deferred none)).heap[D1]? = some (.deferred (some [])) := (World.putObj_heap_other (by omega)).trans ((World.putObj_heap_other (by omega)).trans e1)
          refine ⟨by simp, .inl ⟨_, _, rfl, run_takeDeferred e3, by simp, .inl ⟨_, _, rfl, run_takeDeferred e2', by simp, .inl ⟨_, _, rfl, run_takeDeferred e1', ?_⟩⟩⟩⟩
          refine ⟨_, results_cells rfl _ _ w.heap.size (w.heap.size + 1) (w.heap.size + 1 + 1) (w.heap.size + 1 + 1 + 1) (.slice a1 (allL F ps).length c1) (.slice a2 (runL F ps).length c2) (.slice a3 (holesL F ps).length c3) (.bool true) rfl rfl rfl rfl
            (run_loadVar_box (box_put (box_put (box_put v1 (by omega) _) (by omega) _) (by omega) _) Try.underlying82 rfl) (run_loadVar_box (box_put (box_put (box_put v2 (by omega) _) (by omega) _) (by omega) _) Try.underlying82 rfl)
            (run_loadVar_box (box_put (box_put (box_put v3 (by omega) _) (by omega) _) (by omega) _) Try.underlying40 rfl) (run_loadVar_box (box_put (box_put (box_put v4 (by omega) _) (by omega) _) (by omega) _) Try.underlying4 rfl), _, _, _, rfl, ?_⟩
          exact ⟨row_put (row_put (row_put o1 e3 rfl _) e2' rfl _) e1' rfl _, row_put (row_put (row_put o2 e3 rfl _) e2' rfl _) e1' rfl _, row_put (row_put (row_put o3 e3 rfl _) e2' rfl _) e1' rfl _, ⟨_, _, rfl⟩, ⟨_, _, rfl⟩, ⟨_, _, rfl⟩, below_put (below_put (below_put bb (by omega) _) (by omega) _) (by omega) _⟩
end Go.Proofs.Ytcbijiielikfmaa.Ls
