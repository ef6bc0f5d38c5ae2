/- Load of votes that lie in a row. No condition but a size. -/
import Derived.Test.YtdnniokpkamjjaaAccAccept
import Derived.Deep.Cut
namespace Go.Proofs.Ytdnniokpkamjjaa
open Go.ChangeShapes Go.WideShapes Go.ChangeAt Go.RowKit B8 Am
set_option linter.unusedVariables false

theorem put_last {vs : List Vt} {v : Vt} (h : ∀ u ∈ vs, u.s < v.s) : put vs v = vs ++ [v] := by
  unfold put
  rw [List.filter_eq_self.2 (fun u hu => by simpa using h u hu), List.filter_eq_nil_iff.2 (fun u hu => by have := h u hu; simp; omega)]
theorem ok_snoc {r n f : Int} {vs : List Vt} {v : Vt} (h : Ok ⟨r, n, f, vs⟩) (h1 : f ≤ v.s) (h2 : v.s < f + 16) (h3 : fitsB v = true) (h4 : lessB r n v.r v.n = false) (h5 : ∀ u ∈ vs, u.s < v.s) : Ok ⟨r, n, f, vs ++ [v]⟩ := by
  refine ⟨h.lo, h.hi, fun u hu => ?_, List.pairwise_append.2 ⟨h.sorted, by simp, fun a ha b hb => by rw [List.mem_singleton.1 hb]; exact h5 a ha⟩, fun u hu => ?_, fun u hu => ?_, h.prom⟩
  · rcases List.mem_append.1 hu with hu | hu
    · exact h.win u hu
    · rw [List.mem_singleton.1 hu]; exact ⟨h1, h2⟩
  · rcases List.mem_append.1 hu with hu | hu
    · exact h.each u hu
    · rw [List.mem_singleton.1 hu]; exact h3
  · rcases List.mem_append.1 hu with hu | hu
    · exact h.below u hu
    · rw [List.mem_singleton.1 hu]; exact h4
/-- what Load answers -/
def LoadP (w : World) (s : As) (e : Ending) (w' : World) : Prop :=
  Below w.heap.size w w' ∧ ((loadB s = true ∧ ∃ A mb, e = .returned (.tuple #[.pointer (some ⟨A, 0, none⟩), .int .i64 0]) ∧ Ac w' (fun k => w.heap.size ≤ k) A mb s ∧ w.heap.size ≤ A ∧ w.heap.size ≤ mb) ∨ (loadB s = false ∧ e = .returned (.tuple #[.pointer none, .int .i64 21])))
/-- it is refused by its head -/
theorem load_head {w : World} {a : Option Addr} {m c : Nat} (r n f : Int) (vs : List Vt) (hb : headB r n f = false) :
    Calls Try.prog 18 #[.agg #[.int .i64 r, .int .i64 n], .int .i64 f, .slice a m c] w (LoadP w ⟨r, n, f, vs⟩) := by
  have L0 : Hid (loadB ⟨r, n, f, vs⟩ = false) := by show _ = _; simp [loadB, hb]
  have B1 : Hid (Below w.heap.size w (w.alloc (.cells #[.int .i64 r, .int .i64 n] 30))) := below_alloc (Below.refl _ _) _
  by_cases h1 : f < 1
  · clear hb
    go_enter Try.func18, Try.ntmps18
    go_wp2_with fail
    go_ret2
    exact ⟨B1.out, .inr ⟨L0.out, rfl⟩⟩
  · by_cases h2 : 1099511627776 < f
    · clear hb
      go_enter Try.func18, Try.ntmps18
      go_wp2_with fail
      go_ret2
      exact ⟨B1.out, .inr ⟨L0.out, rfl⟩⟩
    · have hb2 : (decide (r = 0 ∧ n = 0) || mayB r n) = false := by
        simp only [headB] at hb
        rw [decide_eq_true (show 1 ≤ f ∧ f ≤ 1099511627776 by omega), Bool.true_and] at hb
        exact hb
      simp only [Bool.or_eq_false_iff, decide_eq_false_iff_not] at hb2
      have CM := hide (fun w => may_any r n w)
      rw [hb2.2] at CM
      have hz := hb2.1
      clear hb hb2
      by_cases h3 : r = 0
      · have h4 : ¬ n = 0 := fun e => hz ⟨h3, e⟩
        subst h3
        have x1 : (n == 0) = false := by simpa using h4
        clear hz
        go_enter Try.func18, Try.ntmps18
        go_wp2_with fail
        refine (CM.out _).mono ?_
        rintro e w1 ⟨rfl, rfl⟩
        go_wp2_with fail
        go_ret2
        exact ⟨below_alloc B1.out _, .inr ⟨L0.out, rfl⟩⟩
      · have x1 : (r == 0) = false := by simpa using h3
        clear hz
        go_enter Try.func18, Try.ntmps18
        go_wp2_with fail
        refine (CM.out _).mono ?_
        rintro e w1 ⟨rfl, rfl⟩
        go_wp2_with fail
        go_ret2
        exact ⟨below_alloc B1.out _, .inr ⟨L0.out, rfl⟩⟩
/-- the two ballots' cells -/
def V2 (u : World) (N : Nat) (r n : Int) : Prop := u.cell? ⟨N, 0, none⟩ = some (.int .i64 r) ∧ u.cell? ⟨N, 1, none⟩ = some (.int .i64 n)
theorem V2.below {u u' : World} {N : Nat} {r n : Int} (h : V2 u N r n) (hb : Below u.heap.size u u') : V2 u' N r n :=
  ⟨(hb.cell (World.block_lt_of_cell? _ _ h.1)).trans h.1, (hb.cell (World.block_lt_of_cell? _ _ h.2)).trans h.2⟩
theorem v2_new (w : World) (r n : Int) : V2 (w.alloc (.cells #[.int .i64 r, .int .i64 n] 30)) w.heap.size r n := by
  unfold V2
  simp
theorem V2.chg {u u' : World} {N : Nat} {r n : Int} {M : Nat → Prop} (h : V2 u N r n) (hc : Chg M u u') (hn : ¬ M N) : V2 u' N r n := by
  have c : ∀ o, u'.cell? ⟨N, o, none⟩ = u.cell? ⟨N, o, none⟩ := fun o => World.cell?_of_block (a := ⟨N, o, none⟩) (hc.block N (World.block_lt_of_cell? _ _ h.1) hn)
  unfold V2
  rw [c, c]
  exact h
set_option maxRecDepth 100000 in
set_option maxHeartbeats 4000000 in
theorem load_any {w : World} {B : Nat} {Q : Nat → Prop} {a : Option Addr} {m c : Nat} {l : List Vv} (h : Vl w B Q a m c l) (hm : m ≤ 9000000000000) (r n f : Int) :
    Calls Try.prog 18 #[.agg #[.int .i64 r, .int .i64 n], .int .i64 f, .slice a m c] w (LoadP w ⟨r, n, f, l.map Vv.vt⟩) := by
  cases hb : headB r n f
  · exact load_head r n f _ hb
  · have LB : Hid (loadB ⟨r, n, f, l.map Vv.vt⟩ = goodL r n f f (l.map Vv.vt)) := by show _ = _; simp [loadB, hb]
    have hb1 := hb
    simp only [headB, Bool.and_eq_true, Bool.or_eq_true, decide_eq_true_eq] at hb1
    obtain ⟨⟨hf1, hf2⟩, hpr⟩ := hb1
    have OK0 : Hid (Ok ⟨r, n, f, []⟩) := ⟨hf1, hf2, by simp, by simp, by simp, by simp, hpr⟩
    have H := hide h
    have LN := hide h.len
    have mk : ∀ W : World, (Instr.makeMap 61 none).run Try.prog W = .ok (.map (some W.heap.size)) (W.alloc (.map #[] 0)) := fun W => by first | exact run_makeMap W | (simp [Instr.makeMap]; done)
    obtain ⟨N, eN⟩ : ∃ N, N = w.heap.size := ⟨_, rfl⟩
    have EN := hide eN
    clear h hb eN
    have CM := hide (fun w => may_any r n w)
    by_cases hz : r = 0 ∧ n = 0
    · obtain ⟨rfl, rfl⟩ := hz
      clear hpr CM
      go_enter Try.func18, Try.ntmps18
      go_upto_region 3 with fail
      obtain ⟨u, eu⟩ : ∃ u, u = w.alloc (.cells #[.int .i64 0, .int .i64 0] 30) := ⟨_, rfl⟩
      have BU : Hid (Below w.heap.size w u) := by rw [eu]; exact below_alloc (Below.refl _ _) _
      have X : Hid (V2 u N 0 0) := by rw [eu]; rw [EN.out]; exact v2_new w 0 0
      have SU : Hid (N < u.heap.size) := World.block_lt_of_cell? _ _ X.out.1
      rw [← eu, ← EN.out]
      clear eu
      obtain ⟨x0, x1⟩ := X.out
      obtain ⟨mb, em⟩ : ∃ mb, mb = u.heap.size := ⟨_, rfl⟩
      obtain ⟨A, eA⟩ : ∃ A, A = u.heap.size + 1 := ⟨_, rfl⟩
      obtain ⟨w2, e2⟩ : ∃ w2, w2 = (u.alloc (.map #[] 0)).alloc (.cells #[.int .i64 0, .int .i64 0, .int .i64 f, .map (some u.heap.size)] 63) := ⟨_, rfl⟩
      have BU2 : Hid (Below u.heap.size u w2) := by rw [e2]; exact below_alloc (below_alloc (Below.refl _ _) _) _
      have A2 : Hid (Ac w2 (fun k => w.heap.size ≤ k) A mb ⟨0, 0, f, []⟩) := by
        have RW : ((u.alloc (.map #[] 0)).alloc (.cells #[.int .i64 0, .int .i64 0, .int .i64 f, .map (some u.heap.size)] 63)).heap[u.heap.size + 1]? = some (.cells #[.int .i64 0, .int .i64 0, .int .i64 f, .map (some u.heap.size)] 63 (0, 0)) := by
          have := heap_alloc_new (u.alloc (.map #[] 0)) (.cells #[.int .i64 0, .int .i64 0, .int .i64 f, .map (some u.heap.size)] 63)
          simpa using this
        rw [e2, eA, em]
        exact ⟨RW, ⟨[], (mp_new u).same (Below.heap_alloc _ _ _ (by simp)), rfl, fun p hp => absurd hp (by simp)⟩, OK0.out⟩
      have EM := hide em
      have EA := hide eA
      have E2 := hide e2
      have LA : Hid (w.heap.size ≤ A ∧ w.heap.size ≤ mb) := by have := BU.out.size; exact ⟨by omega, by omega⟩
      have NN : Hid (¬ AM A mb N) := fun hk => by have := SU.out; rcases hk with rfl | rfl <;> omega
      clear e2
      have X2 := hide (X.out.below BU2.out)
      have B2 : Hid (Below w.heap.size w w2) := below_step BU.out BU2.out
      clear em eA
      go_upto_region 4 with fail
      rw [← E2.out, ← EA.out]
      clear E2 x0 x1 mk
      go_wp2_with fail
      go_loopw [9, 36] (fun t9 i wr => ∃ (k : Nat) (nx : Int), k ≤ m ∧ i = .int .i64 k ∧ t9 = .int .i64 nx ∧ Hid (Below w.heap.size w wr) ∧ Hid (Ac wr (fun k => w.heap.size ≤ k) A mb ⟨0, 0, f, (l.take k).map Vv.vt⟩) ∧ Hid (V2 wr N 0 0) ∧ Hid (goodL 0 0 f nx ((l.drop k).map Vv.vt) = goodL 0 0 f f (l.map Vv.vt)) ∧ Hid (f ≤ nx ∧ ∀ u ∈ (l.take k).map Vv.vt, u.s < nx)) (fun _ i _ => m - (intOf i).toNat)
      case atStart => exact ⟨0, f, Nat.zero_le _, rfl, rfl, B2, A2, X2, rfl, Int.le_refl _, fun u hu => absurd hu (by simp)⟩
      case round =>
        clear A2 X2 B2
        obtain ⟨k, nx, hk, rfl, rfl, HB, HA, HX, HG, HN⟩ := hrel
        by_cases hlt : k < m
        · have i1 : (k : Int) < (m : Int) := by omega
          have i2 : (0 : Int) ≤ (k : Int) := by omega
          have lk : k < l.length := by have := LN.out; omega
          obtain ⟨p, hp⟩ : ∃ p, l[k]? = some p := ⟨l[k], by simp [lk]⟩
          have TK : Hid ((l.take (k + 1)).map Vv.vt = (l.take k).map Vv.vt ++ [p.vt]) := by
            show _ = _
            rw [List.take_succ_eq_append_getElem lk, (List.getElem?_eq_some_iff.1 hp).2]
            simp
          have DK : Hid ((l.drop k).map Vv.vt = p.vt :: (l.drop (k + 1)).map Vv.vt) := by
            show _ = _
            rw [List.drop_eq_getElem_cons lk, (List.getElem?_eq_some_iff.1 hp).2]
            simp
          have HR := hide (H.out.below HB.out)
          have PI := hide (HR.out.ins p (List.mem_of_getElem? hp))
          obtain ⟨g, rfl, _, hg, d0, d1, d2, d3⟩ := HR.out.at hp
          obtain ⟨V, eV⟩ : ∃ V, V = wr.heap.size := ⟨_, rfl⟩
          obtain ⟨w5, e5⟩ : ∃ w5, w5 = wr.alloc (.cells #[.int .i64 p.s, .int .i64 p.r, .int .i64 p.n, .slice p.a p.m p.cp] 48) := ⟨_, rfl⟩
          have B5 : Hid (Below wr.heap.size wr w5) := by rw [e5]; exact below_alloc (Below.refl _ _) _
          have Y5 : Hid (V4 w5 V p) := by rw [e5, eV]; exact v4_new wr p
          have A5 := hide (HA.out.below B5.out)
          have X5 := hide (HX.out.below B5.out)
          have NV : Hid (¬ AM A mb V) := fun hk => by have := HA.out.lt V hk; omega
          have BW5 := hide (below_step HB.out B5.out)
          have E5 := hide e5
          have EV := hide eV
          have PL : Hid (p.b.length = p.m) := PI.out.1.length
          clear e5 eV hp lk
          go_upto_region 8 with fail
          rw [← E5.out, ← EV.out]
          clear d0 d1 d2 d3 hg E5 EV
          obtain ⟨y0, y1, y2, y3⟩ := Y5.out
          obtain ⟨z0, z1⟩ := X5.out
          have a2 := A5.out.c2
          dsimp only at a2
          have CE : Hid (∀ y : World, Below w5.heap.size w5 y → Calls Try.prog 36 #[.pointer (some ⟨A, 0, none⟩)] y fun e w' => e = .returned (.int .i64 (f + 16)) ∧ Below y.heap.size y w') := fun y hy => (end_any ((hy.cell (p := ⟨A, 2, none⟩) A5.out.ltA).trans a2) hf1 hf2).mono (fun e w' ⟨h1, h2⟩ => ⟨h1, by rw [h2]; exact Below.refl _ _⟩)
          have REF : Hid (goodL 0 0 f nx (p.vt :: (l.drop (k + 1)).map Vv.vt) = false → ∀ w', Below w5.heap.size w5 w' → LoadP w ⟨0, 0, f, l.map Vv.vt⟩ (.returned (.tuple #[.pointer none, .int .i64 21])) w') := fun hgf w' hw' => ⟨below_step BW5.out hw', .inr ⟨by rw [LB.out, ← HG.out, DK.out]; exact hgf, rfl⟩⟩
          by_cases c1 : p.s < nx
          · have q1 : decide (p.s < nx) = true := decide_eq_true c1
            have q2 : (p.s < nx) = True := eq_true c1
            have GF : Hid (goodL 0 0 f nx (p.vt :: (l.drop (k + 1)).map Vv.vt) = false) := by have h0 : decide (nx ≤ p.vt.s) = false := decide_eq_false (by show ¬ nx ≤ p.s; omega); show _ = _; simp only [goodL, h0, Bool.false_and]
            clear c1
            refine wp_region_cells w5 [(⟨V, 0, none⟩, .int .i64 p.s), (⟨V, 1, none⟩, .int .i64 p.r), (⟨V, 2, none⟩, .int .i64 p.n), (⟨V, 3, none⟩, .slice p.a p.m p.cp), (⟨N, 0, none⟩, .int .i64 0), (⟨N, 1, none⟩, .int .i64 0)] (by kernel_rfl) (by kernel_rfl) (Below.refl _ _) (by simp [AllCells, y0, y1, y2, y3, z0, z1]) ?_
            intro hne qq
            simp only [AllCells, and_true] at qq
            clear y0 y1 y2 y3 z0 z1 a2
            repeat (go_big_quiet_step (first | (go_at_call 36; exact Held.call _ (CE.out _ (Held.below _)))))
            refine wpQuiet_nil ?_
            rintro _ ⟨y, rfl⟩
            have BY : Hid (Below w5.heap.size w5 y.x) := y.below
            clear qq hne
            go_wp2_with fail
            go_ret2
            exact REF.out GF.out _ BY.out
          · have q1 : decide (p.s < nx) = false := decide_eq_false c1
            have q2 : (p.s < nx) = False := eq_false c1
            have c1' : nx ≤ p.s := by omega
            have C1 := hide c1'
            clear c1 c1'
            by_cases c2 : f + 16 ≤ p.s
            · have q3 : decide (f + 16 ≤ p.s) = true := decide_eq_true c2
              have q4 : (f + 16 ≤ p.s) = True := eq_true c2
              have GF : Hid (goodL 0 0 f nx (p.vt :: (l.drop (k + 1)).map Vv.vt) = false) := by
                have : decide (p.vt.s < f + 16) = false := decide_eq_false (by show ¬ p.s < f + 16; omega)
                show _ = _
                simp only [goodL, this, Bool.and_false, Bool.false_and]
              clear c2
              refine wp_region_cells w5 [(⟨V, 0, none⟩, .int .i64 p.s), (⟨V, 1, none⟩, .int .i64 p.r), (⟨V, 2, none⟩, .int .i64 p.n), (⟨V, 3, none⟩, .slice p.a p.m p.cp), (⟨N, 0, none⟩, .int .i64 0), (⟨N, 1, none⟩, .int .i64 0)] (by kernel_rfl) (by kernel_rfl) (Below.refl _ _) (by simp [AllCells, y0, y1, y2, y3, z0, z1]) ?_
              intro hne qq
              simp only [AllCells, and_true] at qq
              clear y0 y1 y2 y3 z0 z1 a2
              repeat (go_big_quiet_step (first | (go_at_call 36; exact Held.call _ (CE.out _ (Held.below _)))))
              refine wpQuiet_nil ?_
              rintro _ ⟨y, rfl⟩
              have BY : Hid (Below w5.heap.size w5 y.x) := y.below
              clear qq hne
              go_wp2_with fail
              go_ret2
              exact REF.out GF.out _ BY.out
            · have q3 : decide (f + 16 ≤ p.s) = false := decide_eq_false c2
              have q4 : (f + 16 ≤ p.s) = False := eq_false c2
              have c2' : p.s < f + 16 := by omega
              have C2 := hide c2'
              clear c2 c2'
              cases c3 : fitsB p.vt
              · have CF := hide (fun y => fits_lit PL.out c3 y)
                have GF : Hid (goodL 0 0 f nx (p.vt :: (l.drop (k + 1)).map Vv.vt) = false) := by
                  show _ = _
                  simp only [goodL, c3, Bool.and_false, Bool.false_and]
                clear c3
                refine wp_region_cells w5 [(⟨V, 0, none⟩, .int .i64 p.s), (⟨V, 1, none⟩, .int .i64 p.r), (⟨V, 2, none⟩, .int .i64 p.n), (⟨V, 3, none⟩, .slice p.a p.m p.cp), (⟨N, 0, none⟩, .int .i64 0), (⟨N, 1, none⟩, .int .i64 0)] (by kernel_rfl) (by kernel_rfl) (Below.refl _ _) (by simp [AllCells, y0, y1, y2, y3, z0, z1]) ?_
                intro hne qq
                simp only [AllCells, and_true] at qq
                clear y0 y1 y2 y3 z0 z1 a2
                repeat (go_big_quiet_step (first | (go_at_call 36; exact Held.call _ (CE.out _ (Held.below _))) | (go_at_call 37; exact Held.call _ (CF.out _))))
                refine wpQuiet_nil ?_
                rintro _ ⟨y, rfl⟩
                have BY : Hid (Below w5.heap.size w5 y.x) := y.below
                clear qq hne
                go_wp2_with fail
                go_ret2
                exact REF.out GF.out _ BY.out
              · have CF := hide (fun y => fits_lit PL.out c3 y)
                cases c4 : lessB 0 0 p.r p.n
                · have CL := hide (fun y => less_lit c4 y)
                  have GS : Hid (goodL 0 0 f nx (p.vt :: (l.drop (k + 1)).map Vv.vt) = goodL 0 0 f (p.s + 1) ((l.drop (k + 1)).map Vv.vt)) := by
                    have h1 : decide (nx ≤ p.vt.s) = true := decide_eq_true C1.out
                    have h2 : decide (p.vt.s < f + 16) = true := decide_eq_true C2.out
                    have h4 : lessB 0 0 p.vt.r p.vt.n = false := c4
                    show _ = _
                    simp only [goodL, h1, h2, c3, h4, Bool.true_and, Bool.not_false]
                    rfl
                  have OKN : Hid (Ok ⟨0, 0, f, put ((l.take k).map Vv.vt) p.vt⟩) := by
                    show Ok _
                    rw [put_last (fun u hu => Int.lt_of_lt_of_le (HN.out.2 u hu) C1.out)]
                    exact ok_snoc HA.out.ok (by have := HN.out.1; have := C1.out; show f ≤ p.s; omega) C2.out c3 c4 (fun u hu => Int.lt_of_lt_of_le (HN.out.2 u hu) C1.out)
                  have FM : Hid (p.m ≤ 2048) := by show _ ≤ _; rw [← PL.out]; exact fits_len c3
                  have PW : Hid ((Lit.int .i64 p.s).wf = true) := wf64 (by have := HN.out.1; have := C1.out; omega) (by have := C2.out; omega)
                  clear c3 c4
                  refine wp_region_cells w5 [(⟨V, 0, none⟩, .int .i64 p.s), (⟨V, 1, none⟩, .int .i64 p.r), (⟨V, 2, none⟩, .int .i64 p.n), (⟨V, 3, none⟩, .slice p.a p.m p.cp), (⟨N, 0, none⟩, .int .i64 0), (⟨N, 1, none⟩, .int .i64 0)] (by kernel_rfl) (by kernel_rfl) (Below.refl _ _) (by simp [AllCells, y0, y1, y2, y3, z0, z1]) ?_
                  intro hne qq
                  simp only [AllCells, and_true] at qq
                  clear y0 y1 y2 y3 z0 z1 a2
                  repeat (go_big_quiet_step (first | (go_at_call 36; exact Held.call _ (CE.out _ (Held.below _))) | (go_at_call 37; exact Held.call _ (CF.out _)) | (go_at_call 38; exact Held.call _ (CL.out _))))
                  refine wpQuiet_nil ?_
                  rintro _ ⟨y, rfl⟩
                  have BY : Hid (Below w5.heap.size w5 y.x) := y.below
                  clear qq hne
                  obtain ⟨w6, e6⟩ : ∃ w6, w6 = y.x := ⟨_, rfl⟩
                  rw [← e6] at BY ⊢
                  clear e6 q1 q2 q3 q4
                  have Y6 := hide (Y5.out.below BY.out)
                  have A6 := hide (A5.out.below BY.out)
                  have X6 := hide (X5.out.below BY.out)
                  have BW6 := hide (below_step BW5.out BY.out)
                  obtain ⟨y0, y1, y2, y3⟩ := Y6.out
                  have c3 := A6.out.c3
                  have Q6 : Hid (Sq w6.drew p.a p.m p.cp p.b) := (((PI.out.below B5.out).below BY.out).same (w' := w6.drew) (fun _ _ _ => rfl)).1
                  have PB : Hid (∀ k, w6.heap.size ≤ k → w.heap.size ≤ k) := fun k hk => Nat.le_trans BW6.out.size hk
                  go_wp2_with fail
                  go_region_held3 (fun v => v.cell? ⟨V, 0, none⟩ = some (.int .i64 p.s) ∧ v.cell? ⟨V, 1, none⟩ = some (.int .i64 p.r) ∧ v.cell? ⟨V, 2, none⟩ = some (.int .i64 p.n) ∧ v.cell? ⟨V, 3, none⟩ = some (.slice p.a p.m p.cp) ∧ v.cell? ⟨A, 3, none⟩ = some (.map (some mb))) (first | go_keep | exact ⟨y0, y1, y2, y3, c3⟩ | exact ⟨d0, d1, d2, d3, d4⟩ | exact ⟨g0, g1, g2, g3, g4⟩) ((first | (go_at_call 39; refine (own_any (p := p) Q6.out FM.out).mono ?_; rintro e w7 ⟨a', c', rfl, hb7, hr7⟩; obtain ⟨d0, d1, d2, d3⟩ := Y6.out.drew.below hb7; have d4 := (A6.out.drew.below hb7).c3; have PI7 : Hid (Vv.In w7 (fun k => w.heap.size ≤ k) { p with a := a', cp := c' }) := own_in PL.out Q6.out.wf hr7 PB.out; obtain ⟨w8, run8, hm8⟩ := ac_put (A6.out.drew.below hb7) (p := { p with a := a', cp := c' }) PI7.out PW.out OKN.out; have M8 := hide hm8; have B7 := hide hb7; obtain ⟨g0, g1, g2, g3⟩ := (Y6.out.drew.below hb7).chg hm8.1 NV.out; have g4 := hm8.2.c3; unfold Vv.val; clear hb7 hr7 hm8)))
                  have Y8 : Hid (V4 w8 V p) := (Y6.out.drew.below B7.out).chg M8.out.1 NV.out
                  have X8 : Hid (V2 w8 N 0 0) := (V2.below (u := w6.drew) X6.out B7.out).chg M8.out.1 NN.out
                  have BW8 : Hid (Below w.heap.size w w8) := (below_step BW6.out ((Below.refl _ _).drew.trans B7.out)).trans (M8.out.1.below (Nat.le_trans BW6.out.size B7.out.size) (fun k hk => by rcases hk with rfl | rfl; exact LA.out.1; exact LA.out.2))
                  have A8 : Hid (Ac w8 (fun k => w.heap.size ≤ k) A mb ⟨0, 0, f, (l.take (k + 1)).map Vv.vt⟩) := by
                    have e : (l.take (k + 1)).map Vv.vt = put ((l.take k).map Vv.vt) (Vv.vt { p with a := a', cp := c' }) := by
                      rw [TK.out, put_last (fun u hu => Int.lt_of_lt_of_le (HN.out.2 u hu) C1.out)]
                      rfl
                    show Ac _ _ _ _ _
                    rw [e]
                    exact M8.out.2
                  clear y0 y1 y2 y3 c3 d0 d1 d2 d3 d4 g0 g1 g2 g3 g4
                  obtain ⟨y0, y1, y2, y3⟩ := Y8.out
                  have b1 : 1 ≤ p.s := by have := HN.out.1; have := C1.out; omega
                  have b2 : p.s < f + 16 := C2.out
                  go_wp2_with fail
                  go_roundw
                  case rel => exact ⟨k + 1, p.s + 1, by omega, by go_num, by go_num, BW8, A8, X8, by show _ = _; rw [← GS.out, ← DK.out, HG.out], by have := HN.out.1; have := C1.out; omega, fun u hu => by
                    rw [TK.out] at hu
                    rcases List.mem_append.1 hu with hu | hu
                    · have := HN.out.2 u hu; have := C1.out; omega
                    · rw [List.mem_singleton.1 hu]; show p.s < p.s + 1; omega⟩
                  case measure => simp [intOf]; omega
                · have CL := hide (fun y => less_lit c4 y)
                  have GF : Hid (goodL 0 0 f nx (p.vt :: (l.drop (k + 1)).map Vv.vt) = false) := by
                    have h4 : lessB 0 0 p.vt.r p.vt.n = true := c4
                    show _ = _
                    simp only [goodL, h4, Bool.not_true, Bool.and_false, Bool.false_and]
                  clear c3 c4
                  refine wp_region_cells w5 [(⟨V, 0, none⟩, .int .i64 p.s), (⟨V, 1, none⟩, .int .i64 p.r), (⟨V, 2, none⟩, .int .i64 p.n), (⟨V, 3, none⟩, .slice p.a p.m p.cp), (⟨N, 0, none⟩, .int .i64 0), (⟨N, 1, none⟩, .int .i64 0)] (by kernel_rfl) (by kernel_rfl) (Below.refl _ _) (by simp [AllCells, y0, y1, y2, y3, z0, z1]) ?_
                  intro hne qq
                  simp only [AllCells, and_true] at qq
                  clear y0 y1 y2 y3 z0 z1 a2
                  repeat (go_big_quiet_step (first | (go_at_call 36; exact Held.call _ (CE.out _ (Held.below _))) | (go_at_call 37; exact Held.call _ (CF.out _)) | (go_at_call 38; exact Held.call _ (CL.out _))))
                  refine wpQuiet_nil ?_
                  rintro _ ⟨y, rfl⟩
                  have BY : Hid (Below w5.heap.size w5 y.x) := y.below
                  clear qq hne
                  go_wp2_with fail
                  go_ret2
                  exact REF.out GF.out _ BY.out
        · obtain rfl : k = m := by omega
          have EL : Hid (l.take k = l) := List.take_of_length_le (by have := LN.out; omega)
          have GD : Hid (loadB ⟨0, 0, f, l.map Vv.vt⟩ = true) := by
            show _ = _
            rw [LB.out, ← HG.out, List.drop_eq_nil_iff.2 (by have := LN.out; omega)]
            rfl
          have HA2 := HA.out
          rw [EL.out] at HA2
          have HA3 := hide HA2
          clear HA2 hlt hk
          go_wp2_with fail
          go_ret2
          exact ⟨HB.out, .inl ⟨GD.out, A, mb, rfl, HA3.out, LA.out.1, LA.out.2⟩⟩
    · have hmay : mayB r n = true := hpr.resolve_left hz
      rw [hmay] at CM
      have h3 : ¬ r = 0 := fun e => by have := of_decide_eq_true hmay; omega
      clear hpr hmay
      · have x1 : (r == 0) = false := by simpa using h3
        have x2 : (r = 0) = False := eq_false h3
        clear hz
        go_enter Try.func18, Try.ntmps18
        go_wp2_with fail
        refine (CM.out _).mono ?_
        rintro e w1 ⟨rfl, rfl⟩
        clear x1 x2 h3
        go_upto_region 3 with fail
        obtain ⟨u, eu⟩ : ∃ u, u = (w.alloc (.cells #[.int .i64 r, .int .i64 n] 30)).alloc (.cells #[.int .i64 r, .int .i64 n] 30) := ⟨_, rfl⟩
        have BU : Hid (Below w.heap.size w u) := by rw [eu]; exact below_alloc (below_alloc (Below.refl _ _) _) _
        have X : Hid (V2 u N r n) := by rw [eu]; exact V2.below (u := w.alloc (.cells #[.int .i64 r, .int .i64 n] 30)) (by rw [EN.out]; exact v2_new w r n) (below_alloc (Below.refl _ _) _)
        have SU : Hid (N < u.heap.size) := World.block_lt_of_cell? _ _ X.out.1
        rw [← eu, ← EN.out]
        clear eu
        obtain ⟨x0, x1⟩ := X.out
        obtain ⟨mb, em⟩ : ∃ mb, mb = u.heap.size := ⟨_, rfl⟩
        obtain ⟨A, eA⟩ : ∃ A, A = u.heap.size + 1 := ⟨_, rfl⟩
        obtain ⟨w2, e2⟩ : ∃ w2, w2 = (u.alloc (.map #[] 0)).alloc (.cells #[.int .i64 r, .int .i64 n, .int .i64 f, .map (some u.heap.size)] 63) := ⟨_, rfl⟩
        have BU2 : Hid (Below u.heap.size u w2) := by rw [e2]; exact below_alloc (below_alloc (Below.refl _ _) _) _
        have A2 : Hid (Ac w2 (fun k => w.heap.size ≤ k) A mb ⟨r, n, f, []⟩) := by
          have RW : ((u.alloc (.map #[] 0)).alloc (.cells #[.int .i64 r, .int .i64 n, .int .i64 f, .map (some u.heap.size)] 63)).heap[u.heap.size + 1]? = some (.cells #[.int .i64 r, .int .i64 n, .int .i64 f, .map (some u.heap.size)] 63 (0, 0)) := by
            have := heap_alloc_new (u.alloc (.map #[] 0)) (.cells #[.int .i64 r, .int .i64 n, .int .i64 f, .map (some u.heap.size)] 63)
            simpa using this
          rw [e2, eA, em]
          exact ⟨RW, ⟨[], (mp_new u).same (Below.heap_alloc _ _ _ (by simp)), rfl, fun p hp => absurd hp (by simp)⟩, OK0.out⟩
        have EM := hide em
        have EA := hide eA
        have E2 := hide e2
        have LA : Hid (w.heap.size ≤ A ∧ w.heap.size ≤ mb) := by have := BU.out.size; exact ⟨by omega, by omega⟩
        have NN : Hid (¬ AM A mb N) := fun hk => by have := SU.out; rcases hk with rfl | rfl <;> omega
        clear e2
        have X2 := hide (X.out.below BU2.out)
        have B2 : Hid (Below w.heap.size w w2) := below_step BU.out BU2.out
        clear em eA
        go_upto_region 4 with fail
        rw [← E2.out, ← EA.out]
        clear E2 x0 x1 mk
        go_wp2_with fail
        go_loopw [9, 36] (fun t9 i wr => ∃ (k : Nat) (nx : Int), k ≤ m ∧ i = .int .i64 k ∧ t9 = .int .i64 nx ∧ Hid (Below w.heap.size w wr) ∧ Hid (Ac wr (fun k => w.heap.size ≤ k) A mb ⟨r, n, f, (l.take k).map Vv.vt⟩) ∧ Hid (V2 wr N r n) ∧ Hid (goodL r n f nx ((l.drop k).map Vv.vt) = goodL r n f f (l.map Vv.vt)) ∧ Hid (f ≤ nx ∧ ∀ u ∈ (l.take k).map Vv.vt, u.s < nx)) (fun _ i _ => m - (intOf i).toNat)
        case atStart => exact ⟨0, f, Nat.zero_le _, rfl, rfl, B2, A2, X2, rfl, Int.le_refl _, fun u hu => absurd hu (by simp)⟩
        case round =>
          clear A2 X2 B2
          obtain ⟨k, nx, hk, rfl, rfl, HB, HA, HX, HG, HN⟩ := hrel
          by_cases hlt : k < m
          · have i1 : (k : Int) < (m : Int) := by omega
            have i2 : (0 : Int) ≤ (k : Int) := by omega
            have lk : k < l.length := by have := LN.out; omega
            obtain ⟨p, hp⟩ : ∃ p, l[k]? = some p := ⟨l[k], by simp [lk]⟩
            have TK : Hid ((l.take (k + 1)).map Vv.vt = (l.take k).map Vv.vt ++ [p.vt]) := by
              show _ = _
              rw [List.take_succ_eq_append_getElem lk, (List.getElem?_eq_some_iff.1 hp).2]
              simp
            have DK : Hid ((l.drop k).map Vv.vt = p.vt :: (l.drop (k + 1)).map Vv.vt) := by
              show _ = _
              rw [List.drop_eq_getElem_cons lk, (List.getElem?_eq_some_iff.1 hp).2]
              simp
            have HR := hide (H.out.below HB.out)
            have PI := hide (HR.out.ins p (List.mem_of_getElem? hp))
            obtain ⟨g, rfl, _, hg, d0, d1, d2, d3⟩ := HR.out.at hp
            obtain ⟨V, eV⟩ : ∃ V, V = wr.heap.size := ⟨_, rfl⟩
            obtain ⟨w5, e5⟩ : ∃ w5, w5 = wr.alloc (.cells #[.int .i64 p.s, .int .i64 p.r, .int .i64 p.n, .slice p.a p.m p.cp] 48) := ⟨_, rfl⟩
            have B5 : Hid (Below wr.heap.size wr w5) := by rw [e5]; exact below_alloc (Below.refl _ _) _
            have Y5 : Hid (V4 w5 V p) := by rw [e5, eV]; exact v4_new wr p
            have A5 := hide (HA.out.below B5.out)
            have X5 := hide (HX.out.below B5.out)
            have NV : Hid (¬ AM A mb V) := fun hk => by have := HA.out.lt V hk; omega
            have BW5 := hide (below_step HB.out B5.out)
            have E5 := hide e5
            have EV := hide eV
            have PL : Hid (p.b.length = p.m) := PI.out.1.length
            clear e5 eV hp lk
            go_upto_region 8 with fail
            rw [← E5.out, ← EV.out]
            clear d0 d1 d2 d3 hg E5 EV
            obtain ⟨y0, y1, y2, y3⟩ := Y5.out
            obtain ⟨z0, z1⟩ := X5.out
            have a2 := A5.out.c2
            dsimp only at a2
            have CE : Hid (∀ y : World, Below w5.heap.size w5 y → Calls Try.prog 36 #[.pointer (some ⟨A, 0, none⟩)] y fun e w' => e = .returned (.int .i64 (f + 16)) ∧ Below y.heap.size y w') := fun y hy => (end_any ((hy.cell (p := ⟨A, 2, none⟩) A5.out.ltA).trans a2) hf1 hf2).mono (fun e w' ⟨h1, h2⟩ => ⟨h1, by rw [h2]; exact Below.refl _ _⟩)
            have REF : Hid (goodL r n f nx (p.vt :: (l.drop (k + 1)).map Vv.vt) = false → ∀ w', Below w5.heap.size w5 w' → LoadP w ⟨r, n, f, l.map Vv.vt⟩ (.returned (.tuple #[.pointer none, .int .i64 21])) w') := fun hgf w' hw' => ⟨below_step BW5.out hw', .inr ⟨by rw [LB.out, ← HG.out, DK.out]; exact hgf, rfl⟩⟩
            by_cases c1 : p.s < nx
            · have q1 : decide (p.s < nx) = true := decide_eq_true c1
              have q2 : (p.s < nx) = True := eq_true c1
              have GF : Hid (goodL r n f nx (p.vt :: (l.drop (k + 1)).map Vv.vt) = false) := by have h0 : decide (nx ≤ p.vt.s) = false := decide_eq_false (by show ¬ nx ≤ p.s; omega); show _ = _; simp only [goodL, h0, Bool.false_and]
              clear c1
              refine wp_region_cells w5 [(⟨V, 0, none⟩, .int .i64 p.s), (⟨V, 1, none⟩, .int .i64 p.r), (⟨V, 2, none⟩, .int .i64 p.n), (⟨V, 3, none⟩, .slice p.a p.m p.cp), (⟨N, 0, none⟩, .int .i64 r), (⟨N, 1, none⟩, .int .i64 n)] (by kernel_rfl) (by kernel_rfl) (Below.refl _ _) (by simp [AllCells, y0, y1, y2, y3, z0, z1]) ?_
              intro hne qq
              simp only [AllCells, and_true] at qq
              clear y0 y1 y2 y3 z0 z1 a2
              repeat (go_big_quiet_step (first | (go_at_call 36; exact Held.call _ (CE.out _ (Held.below _)))))
              refine wpQuiet_nil ?_
              rintro _ ⟨y, rfl⟩
              have BY : Hid (Below w5.heap.size w5 y.x) := y.below
              clear qq hne
              go_wp2_with fail
              go_ret2
              exact REF.out GF.out _ BY.out
            · have q1 : decide (p.s < nx) = false := decide_eq_false c1
              have q2 : (p.s < nx) = False := eq_false c1
              have c1' : nx ≤ p.s := by omega
              have C1 := hide c1'
              clear c1 c1'
              by_cases c2 : f + 16 ≤ p.s
              · have q3 : decide (f + 16 ≤ p.s) = true := decide_eq_true c2
                have q4 : (f + 16 ≤ p.s) = True := eq_true c2
                have GF : Hid (goodL r n f nx (p.vt :: (l.drop (k + 1)).map Vv.vt) = false) := by
                  have : decide (p.vt.s < f + 16) = false := decide_eq_false (by show ¬ p.s < f + 16; omega)
                  show _ = _
                  simp only [goodL, this, Bool.and_false, Bool.false_and]
                clear c2
                refine wp_region_cells w5 [(⟨V, 0, none⟩, .int .i64 p.s), (⟨V, 1, none⟩, .int .i64 p.r), (⟨V, 2, none⟩, .int .i64 p.n), (⟨V, 3, none⟩, .slice p.a p.m p.cp), (⟨N, 0, none⟩, .int .i64 r), (⟨N, 1, none⟩, .int .i64 n)] (by kernel_rfl) (by kernel_rfl) (Below.refl _ _) (by simp [AllCells, y0, y1, y2, y3, z0, z1]) ?_
                intro hne qq
                simp only [AllCells, and_true] at qq
                clear y0 y1 y2 y3 z0 z1 a2
                repeat (go_big_quiet_step (first | (go_at_call 36; exact Held.call _ (CE.out _ (Held.below _)))))
                refine wpQuiet_nil ?_
                rintro _ ⟨y, rfl⟩
                have BY : Hid (Below w5.heap.size w5 y.x) := y.below
                clear qq hne
                go_wp2_with fail
                go_ret2
                exact REF.out GF.out _ BY.out
              · have q3 : decide (f + 16 ≤ p.s) = false := decide_eq_false c2
                have q4 : (f + 16 ≤ p.s) = False := eq_false c2
                have c2' : p.s < f + 16 := by omega
                have C2 := hide c2'
                clear c2 c2'
                cases c3 : fitsB p.vt
                · have CF := hide (fun y => fits_lit PL.out c3 y)
                  have GF : Hid (goodL r n f nx (p.vt :: (l.drop (k + 1)).map Vv.vt) = false) := by
                    show _ = _
                    simp only [goodL, c3, Bool.and_false, Bool.false_and]
                  clear c3
                  refine wp_region_cells w5 [(⟨V, 0, none⟩, .int .i64 p.s), (⟨V, 1, none⟩, .int .i64 p.r), (⟨V, 2, none⟩, .int .i64 p.n), (⟨V, 3, none⟩, .slice p.a p.m p.cp), (⟨N, 0, none⟩, .int .i64 r), (⟨N, 1, none⟩, .int .i64 n)] (by kernel_rfl) (by kernel_rfl) (Below.refl _ _) (by simp [AllCells, y0, y1, y2, y3, z0, z1]) ?_
                  intro hne qq
                  simp only [AllCells, and_true] at qq
                  clear y0 y1 y2 y3 z0 z1 a2
                  repeat (go_big_quiet_step (first | (go_at_call 36; exact Held.call _ (CE.out _ (Held.below _))) | (go_at_call 37; exact Held.call _ (CF.out _))))
                  refine wpQuiet_nil ?_
                  rintro _ ⟨y, rfl⟩
                  have BY : Hid (Below w5.heap.size w5 y.x) := y.below
                  clear qq hne
                  go_wp2_with fail
                  go_ret2
                  exact REF.out GF.out _ BY.out
                · have CF := hide (fun y => fits_lit PL.out c3 y)
                  cases c4 : lessB r n p.r p.n
                  · have CL := hide (fun y => less_lit c4 y)
                    have GS : Hid (goodL r n f nx (p.vt :: (l.drop (k + 1)).map Vv.vt) = goodL r n f (p.s + 1) ((l.drop (k + 1)).map Vv.vt)) := by
                      have h1 : decide (nx ≤ p.vt.s) = true := decide_eq_true C1.out
                      have h2 : decide (p.vt.s < f + 16) = true := decide_eq_true C2.out
                      have h4 : lessB r n p.vt.r p.vt.n = false := c4
                      show _ = _
                      simp only [goodL, h1, h2, c3, h4, Bool.true_and, Bool.not_false]
                      rfl
                    have OKN : Hid (Ok ⟨r, n, f, put ((l.take k).map Vv.vt) p.vt⟩) := by
                      show Ok _
                      rw [put_last (fun u hu => Int.lt_of_lt_of_le (HN.out.2 u hu) C1.out)]
                      exact ok_snoc HA.out.ok (by have := HN.out.1; have := C1.out; show f ≤ p.s; omega) C2.out c3 c4 (fun u hu => Int.lt_of_lt_of_le (HN.out.2 u hu) C1.out)
                    have FM : Hid (p.m ≤ 2048) := by show _ ≤ _; rw [← PL.out]; exact fits_len c3
                    have PW : Hid ((Lit.int .i64 p.s).wf = true) := wf64 (by have := HN.out.1; have := C1.out; omega) (by have := C2.out; omega)
                    clear c3 c4
                    refine wp_region_cells w5 [(⟨V, 0, none⟩, .int .i64 p.s), (⟨V, 1, none⟩, .int .i64 p.r), (⟨V, 2, none⟩, .int .i64 p.n), (⟨V, 3, none⟩, .slice p.a p.m p.cp), (⟨N, 0, none⟩, .int .i64 r), (⟨N, 1, none⟩, .int .i64 n)] (by kernel_rfl) (by kernel_rfl) (Below.refl _ _) (by simp [AllCells, y0, y1, y2, y3, z0, z1]) ?_
                    intro hne qq
                    simp only [AllCells, and_true] at qq
                    clear y0 y1 y2 y3 z0 z1 a2
                    repeat (go_big_quiet_step (first | (go_at_call 36; exact Held.call _ (CE.out _ (Held.below _))) | (go_at_call 37; exact Held.call _ (CF.out _)) | (go_at_call 38; exact Held.call _ (CL.out _))))
                    refine wpQuiet_nil ?_
                    rintro _ ⟨y, rfl⟩
                    have BY : Hid (Below w5.heap.size w5 y.x) := y.below
                    clear qq hne
                    obtain ⟨w6, e6⟩ : ∃ w6, w6 = y.x := ⟨_, rfl⟩
                    rw [← e6] at BY ⊢
                    clear e6 q1 q2 q3 q4
                    have Y6 := hide (Y5.out.below BY.out)
                    have A6 := hide (A5.out.below BY.out)
                    have X6 := hide (X5.out.below BY.out)
                    have BW6 := hide (below_step BW5.out BY.out)
                    obtain ⟨y0, y1, y2, y3⟩ := Y6.out
                    have c3 := A6.out.c3
                    have Q6 : Hid (Sq w6.drew p.a p.m p.cp p.b) := (((PI.out.below B5.out).below BY.out).same (w' := w6.drew) (fun _ _ _ => rfl)).1
                    have PB : Hid (∀ k, w6.heap.size ≤ k → w.heap.size ≤ k) := fun k hk => Nat.le_trans BW6.out.size hk
                    go_wp2_with fail
                    go_region_held3 (fun v => v.cell? ⟨V, 0, none⟩ = some (.int .i64 p.s) ∧ v.cell? ⟨V, 1, none⟩ = some (.int .i64 p.r) ∧ v.cell? ⟨V, 2, none⟩ = some (.int .i64 p.n) ∧ v.cell? ⟨V, 3, none⟩ = some (.slice p.a p.m p.cp) ∧ v.cell? ⟨A, 3, none⟩ = some (.map (some mb))) (first | go_keep | exact ⟨y0, y1, y2, y3, c3⟩ | exact ⟨d0, d1, d2, d3, d4⟩ | exact ⟨g0, g1, g2, g3, g4⟩) ((first | (go_at_call 39; refine (own_any (p := p) Q6.out FM.out).mono ?_; rintro e w7 ⟨a', c', rfl, hb7, hr7⟩; obtain ⟨d0, d1, d2, d3⟩ := Y6.out.drew.below hb7; have d4 := (A6.out.drew.below hb7).c3; have PI7 : Hid (Vv.In w7 (fun k => w.heap.size ≤ k) { p with a := a', cp := c' }) := own_in PL.out Q6.out.wf hr7 PB.out; obtain ⟨w8, run8, hm8⟩ := ac_put (A6.out.drew.below hb7) (p := { p with a := a', cp := c' }) PI7.out PW.out OKN.out; have M8 := hide hm8; have B7 := hide hb7; obtain ⟨g0, g1, g2, g3⟩ := (Y6.out.drew.below hb7).chg hm8.1 NV.out; have g4 := hm8.2.c3; unfold Vv.val; clear hb7 hr7 hm8)))
                    have Y8 : Hid (V4 w8 V p) := (Y6.out.drew.below B7.out).chg M8.out.1 NV.out
                    have X8 : Hid (V2 w8 N r n) := (V2.below (u := w6.drew) X6.out B7.out).chg M8.out.1 NN.out
                    have BW8 : Hid (Below w.heap.size w w8) := (below_step BW6.out ((Below.refl _ _).drew.trans B7.out)).trans (M8.out.1.below (Nat.le_trans BW6.out.size B7.out.size) (fun k hk => by rcases hk with rfl | rfl; exact LA.out.1; exact LA.out.2))
                    have A8 : Hid (Ac w8 (fun k => w.heap.size ≤ k) A mb ⟨r, n, f, (l.take (k + 1)).map Vv.vt⟩) := by
                      have e : (l.take (k + 1)).map Vv.vt = put ((l.take k).map Vv.vt) (Vv.vt { p with a := a', cp := c' }) := by
                        rw [TK.out, put_last (fun u hu => Int.lt_of_lt_of_le (HN.out.2 u hu) C1.out)]
                        rfl
                      show Ac _ _ _ _ _
                      rw [e]
                      exact M8.out.2
                    clear y0 y1 y2 y3 c3 d0 d1 d2 d3 d4 g0 g1 g2 g3 g4
                    obtain ⟨y0, y1, y2, y3⟩ := Y8.out
                    have b1 : 1 ≤ p.s := by have := HN.out.1; have := C1.out; omega
                    have b2 : p.s < f + 16 := C2.out
                    go_wp2_with fail
                    go_roundw
                    case rel => exact ⟨k + 1, p.s + 1, by omega, by go_num, by go_num, BW8, A8, X8, by show _ = _; rw [← GS.out, ← DK.out, HG.out], by have := HN.out.1; have := C1.out; omega, fun u hu => by
                      rw [TK.out] at hu
                      rcases List.mem_append.1 hu with hu | hu
                      · have := HN.out.2 u hu; have := C1.out; omega
                      · rw [List.mem_singleton.1 hu]; show p.s < p.s + 1; omega⟩
                    case measure => simp [intOf]; omega
                  · have CL := hide (fun y => less_lit c4 y)
                    have GF : Hid (goodL r n f nx (p.vt :: (l.drop (k + 1)).map Vv.vt) = false) := by
                      have h4 : lessB r n p.vt.r p.vt.n = true := c4
                      show _ = _
                      simp only [goodL, h4, Bool.not_true, Bool.and_false, Bool.false_and]
                    clear c3 c4
                    refine wp_region_cells w5 [(⟨V, 0, none⟩, .int .i64 p.s), (⟨V, 1, none⟩, .int .i64 p.r), (⟨V, 2, none⟩, .int .i64 p.n), (⟨V, 3, none⟩, .slice p.a p.m p.cp), (⟨N, 0, none⟩, .int .i64 r), (⟨N, 1, none⟩, .int .i64 n)] (by kernel_rfl) (by kernel_rfl) (Below.refl _ _) (by simp [AllCells, y0, y1, y2, y3, z0, z1]) ?_
                    intro hne qq
                    simp only [AllCells, and_true] at qq
                    clear y0 y1 y2 y3 z0 z1 a2
                    repeat (go_big_quiet_step (first | (go_at_call 36; exact Held.call _ (CE.out _ (Held.below _))) | (go_at_call 37; exact Held.call _ (CF.out _)) | (go_at_call 38; exact Held.call _ (CL.out _))))
                    refine wpQuiet_nil ?_
                    rintro _ ⟨y, rfl⟩
                    have BY : Hid (Below w5.heap.size w5 y.x) := y.below
                    clear qq hne
                    go_wp2_with fail
                    go_ret2
                    exact REF.out GF.out _ BY.out
          · obtain rfl : k = m := by omega
            have EL : Hid (l.take k = l) := List.take_of_length_le (by have := LN.out; omega)
            have GD : Hid (loadB ⟨r, n, f, l.map Vv.vt⟩ = true) := by
              show _ = _
              rw [LB.out, ← HG.out, List.drop_eq_nil_iff.2 (by have := LN.out; omega)]
              rfl
            have HA2 := HA.out
            rw [EL.out] at HA2
            have HA3 := hide HA2
            clear HA2 hlt hk
            go_wp2_with fail
            go_ret2
            exact ⟨HB.out, .inl ⟨GD.out, A, mb, rfl, HA3.out, LA.out.1, LA.out.2⟩⟩
end Go.Proofs.Ytdnniokpkamjjaa
