/- ChunkPlays: whatever pieces come, in whatever order: what a box takes, lacks, and has is the document's. Condition: the table of the half bytes is as the program's text lays it (the card). -/
import Derived.Test.YtanfmpeblhegpaaDoorChuDuo
import Derived.Test.YtanfmpeblhegpaaDoorRegionOrd
import Derived.Test.YtanfmpeblhegpaaDoorOwn8
import Derived.Test.YtanfmpeblhegpaaDoorPlI
import Derived.Test.YtanfmpeblhegpaaDoorCards
import Derived.Test.YtanfmpeblhegpaaDoorTie
import Derived.Deep.DeepHandedRow
import Derived.Lib.LaidTab
import Derived.Deep.Cut
import Derived.Deep.CutRange
namespace Go.Proofs.YtanfmpeblhegpaaDoor
namespace ChunkPlays
open Go.ChangeShapes Go.WideShapes Go.ChangeAt Go.RowKit B8 Ck
set_option linter.unusedVariables false

theorem p4_of {w : World} {N : Nat} {p : Pv} {a : Option Addr} {m c : Nat} (h : w.heap[N]? = some (.cells #[.int .i64 p.k, .int .i64 p.of, .int .u32 p.sum, .slice a m c] 32 (0, 0))) :
    w.cell? ⟨N, 0, none⟩ = some (.int .i64 p.k) ∧ w.cell? ⟨N, 1, none⟩ = some (.int .i64 p.of) ∧ w.cell? ⟨N, 2, none⟩ = some (.int .u32 p.sum) ∧ w.cell? ⟨N, 3, none⟩ = some (.slice a m c) :=
  ⟨by rw [cell_of_row _ _ _ _ _ _ h]; rfl, by rw [cell_of_row _ _ _ _ _ _ h]; rfl, by rw [cell_of_row _ _ _ _ _ _ h]; rfl, by rw [cell_of_row _ _ _ _ _ _ h]; rfl⟩
theorem row_at8 {w w' : World} {B g n : Nat} {c : Nat} {xs : List Value} {M : Nat → Prop} (h : w.ownsRow B 5 1 (.slice (some ⟨g, 0, none⟩) n c) n xs) (hc : Chg M w w') (hM : ¬ M g) : w'.ownsRow B 5 1 (.slice (some ⟨g, 0, none⟩) n c) n xs :=
  row_same h (fun k hk => hc.block k (h.lt k hk).2 (fun x => hM (by have : g = k := (by simpa [Value.ownBlock] using hk); rw [this]; exact x)))
theorem rp_any {W w : World} {G : Nat → Prop} {B R m c : Nat} {mo : Option Nat} {s s2 : Bx} {a : Option Addr} {l : List Pv} (h : Duo W w G B mo s R a m c l s2) (hG : ∀ k, G k → k < w.heap.size) {p : Pv} (hp : POk w (fun _ => True) p) {E : Int} (hE : E = putE s2 p.pc) :
    Calls Tryd.prog 9 #[.pointer (some ⟨R, 0, none⟩), .agg #[.int .i64 p.k, .int .i64 p.of, .int .u32 p.sum, .slice p.a p.m p.cp]] w fun e w' => e = .returned (.int .i64 E) ∧ (∃ a' m' c' l', Duo W w' G B mo s R a' m' c' l' (putS s2 p.pc)) ∧ Chg (RM R a m c) w w' := by
  rw [hE]
  exact h.rput hG hp
theorem kept_at {w : World} {B g len : Nat} {a : Option Addr} {cap : Nat} {zs : List Int} (h : w.ownsRow B 5 1 (.slice (some ⟨g, 0, none⟩) (len + 2) (len + 2)) (len + 2) (B8.vals (zs ++ [71, 71]))) (hl : zs.length = len) (hw : wfs zs) (h' : Sq w a len cap zs) (hm : len ≤ 140737488351232) :
    Calls Tryd.prog 10 #[.slice (some ⟨g, 0, none⟩) len (len + 2), .slice a len cap, .int .u8 71] w fun e w' => e = .returned (.bool true) ∧ ∃ n, w' = w.drewN n := by
  obtain ⟨k1, k2, k3⟩ := sq_own hl hw h
  exact kept_sq 71 k1 h' (by omega) k2 k3
theorem duo_clear {W w w' : World} {B R m c : Nat} {mo : Option Nat} {s s2 : Bx} {a : Option Addr} {l : List Pv} (h : Duo W w (fun _ => False) B mo s R a m c l s2) (hc : Chg (BM B mo) w w') (hb : Bm w' (fun k => ¬ RM R a m c k ∧ ¬ False) B mo newS) :
    Duo W (w'.alloc (.cells #[.slice none 0 0] 27)) (fun _ => False) B mo newS w'.heap.size none 0 0 [] newS := by
  have hB : Below W.heap.size W w' := h.below.trans (hc.below h.below.size h.base)
  have ba : Below w'.heap.size w' (w'.alloc (.cells #[.slice none 0 0] 27)) := below_alloc (Below.refl _ _) _
  have b1 : Bm w' (fun k => ¬ RM w'.heap.size none 0 0 k ∧ ¬ False) B mo newS := hb.mono (fun k hk hl => ⟨fun x => (by
    rcases x with x | x
    · omega
    · cases x), fun x => x⟩)
  exact ⟨below_step hB ba, b1.below ba, h.base, ⟨heap_alloc_new w' _, lw_nil _ _, hB.size⟩, rl_new, fun q hq => absurd hq (by simp)⟩
set_option maxRecDepth 100000 in
set_option maxHeartbeats 8000000 in
theorem walk {W : World} {a : Option Addr} {m c : Nat} {l : List Pv} (cl : Int) (h : Ls W (fun k => k < W.heap.size) a m l) (ht : Tab W) :
    Calls Tryd.prog 3 #[.slice a m c, .int .i64 cl] W fun e w' => e = .returned (.bool true) ∧ Below W.heap.size W w' := by
  have H := hide h
  have HT := hide ht
  have rm := h.room
  obtain ⟨B, eB⟩ : ∃ B, B = W.heap.size := ⟨_, rfl⟩
  have CN := hide (new_any W)
  rw [← eB] at CN
  have EB := hide eB
  clear h ht eB
  go_enter Tryd.func3, Tryd.ntmps3
  go_wp2_with fail
  refine CN.out.mono ?_
  rintro e w1 ⟨rfl, hb1, hm1⟩
  have hb1' : Below W.heap.size W w1 := by rw [EB.out] at hb1; exact hb1
  have D2 : Hid (Duo W (w1.alloc (.cells #[.slice none 0 0] 27)) (fun _ => False) B none newS w1.heap.size none 0 0 [] newS) :=
    ⟨below_alloc hb1' _, (hm1 _).below (below_alloc (Below.refl _ _) _), (fun k hk => by
      rcases hk with hk | hk
      · rw [hk, EB.out]; exact Nat.le_refl _
      · cases hk), ⟨heap_alloc_new w1 _, lw_nil _ _, hb1'.size⟩, rl_new, fun q hq => absurd hq (by simp)⟩
  clear hb1 hb1' hm1 CN
  go_wp2_with fail
  refine (awake_any (HT.out.below D2.out.below)).mono ?_
  rintro e w2 ⟨rfl, hb2⟩
  have D3 := hide (D2.out.next hb2)
  clear hb2 D2
  obtain ⟨R0, eR0⟩ : ∃ R0, R0 = w1.heap.size := ⟨_, rfl⟩
  rw [← eR0] at D3 ⊢
  clear eR0
  go_wp2_with fail
  go_loopw [6, 7, 8, 9, 10, 11, 12, 13, 14] (fun r x _ _ _ _ _ _ _ wr => ∃ (k : Nat) (mo : Option Nat) (s : Bx) (R : Nat) (a1 : Option Addr) (m1 c1 : Nat) (l1 : List Pv), k ≤ m ∧ x = .int .i64 k ∧ r = .pointer (some ⟨R, 0, none⟩) ∧ Hid (Duo W wr (fun _ => False) B mo s R a1 m1 c1 l1 s)) (fun _ x _ _ _ _ _ _ _ _ => m - (intOf x).toNat)
  case atStart => exact ⟨0, none, newS, R0, none, 0, 0, [], Nat.zero_le _, rfl, rfl, D3⟩
  case round =>
    obtain ⟨k, mo5, s5, R5, a5, m5, c5, l5, hk, rfl, rfl, D5⟩ := hrel
    clear D3
    by_cases hlt : k < m
    · have i1 : (k : Int) < (m : Int) := by omega
      have i2 : (0 : Int) ≤ (k : Int) := by omega
      obtain ⟨b, off, p, rfl, hbl, _, hpl, e0, e1, e2, e3⟩ := H.out.at hlt
      have PO := hide (H.out.each p hpl)
      have LB := hide hbl
      have E0 := hide e0
      have E1 := hide e1
      have E2 := hide e2
      have E3 := hide e3
      clear hbl hpl e0 e1 e2 e3
      go_upto_if 32 with fail
      go_cut [6] from 32 to 36 (fun v6 wc => ∃ (w5 : World) (mo : Option Nat) (s : Bx) (R : Nat) (a : Option Addr) (m1 c1 : Nat) (l : List Pv), v6 = .pointer (some ⟨R, 0, none⟩) ∧ Hid (w5 = wc) ∧ Hid (Duo W w5 (fun _ => False) B mo s R a m1 c1 l s))
      case first =>
        by_cases hcl : (k : Int) = cl
        · have kc : ((k : Int) == cl) = true := by simpa using hcl
          have CL := hide (clear_any D5.out.bm)
          clear hcl
          go_wp2_with fail
          refine CL.out.mono ?_
          rintro e w6 ⟨rfl, hc6, hb6⟩
          have D6 := hide (duo_clear D5.out hc6 hb6)
          clear hc6 hb6 CL
          go_wp2_with fail
          go_meet
          case rel => exact ⟨_, _, _, _, _, _, _, _, rfl, rfl, D6⟩
        · have kc : ((k : Int) == cl) = false := by simpa using hcl
          clear hcl
          go_wp2_with fail
          go_meet
          case rel => exact ⟨wr, mo5, s5, R5, a5, m5, c5, l5, rfl, rfl, D5⟩
      case rest =>
        obtain ⟨w5, mo6, s6, R6, a6, m6, c6, l6, rfl, EW, D6⟩ := hcut
        obtain rfl := EW.out
        clear EW D5
        have c0 := (D6.out.below.cell (p := ⟨b, off + k * 4, none⟩) LB.out).trans E0.out
        have c1 := (D6.out.below.cell (p := ⟨b, off + k * 4 + 1, none⟩) LB.out).trans E1.out
        have c2 := (D6.out.below.cell (p := ⟨b, off + k * 4 + 2, none⟩) LB.out).trans E2.out
        have c3 := (D6.out.below.cell (p := ⟨b, off + k * 4 + 3, none⟩) LB.out).trans E3.out
        obtain ⟨u, eu⟩ : ∃ u, u = w5.alloc (.cells #[.int .i64 p.k, .int .i64 p.of, .int .u32 p.sum, .slice p.a p.m p.cp] 32) := ⟨_, rfl⟩
        have BU : Hid (Below w5.heap.size w5 u) := by rw [eu]; exact below_alloc (Below.refl _ _) _
        have RNu : Hid (u.heap[w5.heap.size]? = some (.cells #[.int .i64 p.k, .int .i64 p.of, .int .u32 p.sum, .slice p.a p.m p.cp] 32 (0, 0))) := by rw [eu]; exact heap_alloc_new w5 _
        have SPu := hide ((((PO.out.below D6.out.below).below BU.out)).bi.1)
        have CO := hide (own_sq 71 SPu.out (by have := PO.out.room; omega))
        obtain ⟨N, eN⟩ : ∃ N, N = w5.heap.size := ⟨_, rfl⟩
        obtain ⟨g, eg⟩ : ∃ g, g = u.heap.size := ⟨_, rfl⟩
        rw [← eg] at CO
        rw [← eN] at RNu
        have LNu : Hid (N < u.heap.size) := (Array.getElem?_eq_some_iff.1 RNu.out).1
        have EU := hide eu
        have EN := hide eN
        have EG := hide eg
        clear eu eN eg
        go_upto_region 11 with fail
        rw [← EU.out, ← EN.out]
        clear EU c0 c1 c2
        have f3 : u.cell? ⟨b, off + k * 4 + 3, none⟩ = some (.slice p.a p.m p.cp) := (BU.out.cell (p := ⟨b, off + k * 4 + 3, none⟩) (World.block_lt_of_cell? _ _ c3)).trans c3
        clear c3
        go_cut [] from 41 to 47 (fun wc => ∃ w7 : World, Hid (w7 = wc) ∧ Hid (w7.heap[N]? = some (.cells #[.int .i64 p.k, .int .i64 p.of, .int .u32 p.sum, .slice (some ⟨g, 0, none⟩) p.m (p.m + 2)] 32 (0, 0))) ∧ Hid (w7.ownsRow g 5 1 (.slice (some ⟨g, 0, none⟩) (p.m + 2) (p.m + 2)) (p.m + 2) (B8.vals (p.b ++ [71, 71]))) ∧ Hid (Below w5.heap.size w5 w7))
        case first =>
          go_wp2_with fail
          refine CO.out.mono ?_
          rintro e w6 ⟨rfl, hb6, hr6⟩
          have hb6' : Below u.heap.size u w6 := by rw [EG.out] at hb6; exact hb6
          have r6 : w6.heap[N]? = some (.cells #[.int .i64 p.k, .int .i64 p.of, .int .u32 p.sum, .slice p.a p.m p.cp] 32 (0, 0)) := (hb6'.block N LNu.out).trans RNu.out
          have y3 : w6.cell? ⟨N, 3, none⟩ = some (.slice p.a p.m p.cp) := by rw [cell_of_row _ _ _ _ _ _ r6]; rfl
          have fN : w6.frozen? ⟨N, 3, none⟩ = false := by simp [World.frozen?, r6]
          have R7 : Hid ((w6.setCell ⟨N, 3, none⟩ (.slice (some ⟨g, 0, none⟩) p.m (p.m + 2))).heap[N]? = some (.cells #[.int .i64 p.k, .int .i64 p.of, .int .u32 p.sum, .slice (some ⟨g, 0, none⟩) p.m (p.m + 2)] 32 (0, 0))) := put_row r6
          have BB7 : Hid (Below w5.heap.size w5 (w6.setCell ⟨N, 3, none⟩ (.slice (some ⟨g, 0, none⟩) p.m (p.m + 2)))) := (below_step BU.out hb6').setCell (p := ⟨N, 3, none⟩) (by rw [EN.out]; exact Nat.le_refl _) _
          have OW7 : Hid ((w6.setCell ⟨N, 3, none⟩ (.slice (some ⟨g, 0, none⟩) p.m (p.m + 2))).ownsRow g 5 1 (.slice (some ⟨g, 0, none⟩) (p.m + 2) (p.m + 2)) (p.m + 2) (B8.vals (p.b ++ [71, 71]))) := by
            rw [EG.out] at hr6 ⊢
            refine row_same hr6 (fun k hk => ?_)
            have h1 := (hr6.lt k hk).1
            have h2 := LNu.out
            exact Below.heap_setCell _ _ _ _ (by simp; omega)
          clear hb6 hb6' hr6 r6 CO f3
          go_wp2_with fail
          go_meet
          case rel => exact ⟨_, rfl, R7, OW7, BB7⟩
        case rest =>
          obtain ⟨w7, EW, R7, OW7, BB7⟩ := hcut
          obtain rfl := EW.out
          clear EW CO f3
          have GW : Hid (w5.heap.size ≤ g) := by show _ ≤ _; rw [EG.out]; exact BU.out.size
          have D7 : Hid (Duo W w7.drew (fun k => k = g) B mo6 s6 R6 a6 m6 c6 l6 s6) := ((D6.out.markAt GW.out).next BB7.out).next (Below.refl _ _).drew
          have LG7 : Hid (g < w7.heap.size) := (OW7.out.lt g rfl).2
          have NRM : Hid (¬ RM R6 a6 m6 c6 N) := fun x => by have := D6.out.rmlt N x; have := EN.out; omega
          have GRM : Hid (¬ RM R6 a6 m6 c6 g) := fun x => by have := D6.out.rmlt g x; have := GW.out; omega
          have NBM : Hid (¬ BM B mo6 N) := bm_not D7.out.bm R7.out (by decide)
          have PO7 : Hid (POk w7.drew (fun _ => True) ⟨p.k, p.of, p.sum, some ⟨g, 0, none⟩, p.m, p.m + 2, p.b⟩) := ⟨bi_any ((sq_own SPu.out.length SPu.out.wf OW7.out).1.drew 1), PO.out.room, PO.out.k, PO.out.of, PO.out.sum⟩
          obtain ⟨E, eE⟩ : ∃ E, E = putE s6 p.pc := ⟨_, rfl⟩
          have CP : Hid (Calls Tryd.prog 8 #[.pointer (some ⟨B, 0, none⟩), .agg #[.int .i64 p.k, .int .i64 p.of, .int .u32 p.sum, .slice (some ⟨g, 0, none⟩) p.m (p.m + 2)]] w7.drew fun e w' => e = .returned (.int .i64 E) ∧ (∃ mo', Duo W w' (fun k => k = g) B mo' (putS s6 p.pc) R6 a6 m6 c6 l6 s6) ∧ Chg (BM B mo6) w7.drew w') := by
            rw [eE]
            have q := D7.out.put (p := ⟨p.k, p.of, p.sum, some ⟨g, 0, none⟩, p.m, p.m + 2, p.b⟩) (fun k hk => by rw [hk]; exact LG7.out) PO7.out
            exact q
          have EE := hide eE
          clear eE
          have x0 : w7.cell? ⟨N, 0, none⟩ = some (.int .i64 p.k) := by rw [cell_of_row _ _ _ _ _ _ R7.out]; rfl
          have x1 : w7.cell? ⟨N, 1, none⟩ = some (.int .i64 p.of) := by rw [cell_of_row _ _ _ _ _ _ R7.out]; rfl
          have x2 : w7.cell? ⟨N, 2, none⟩ = some (.int .u32 p.sum) := by rw [cell_of_row _ _ _ _ _ _ R7.out]; rfl
          have x3 : w7.cell? ⟨N, 3, none⟩ = some (.slice (some ⟨g, 0, none⟩) p.m (p.m + 2)) := by rw [cell_of_row _ _ _ _ _ _ R7.out]; rfl
          have d0 : w7.cell? ⟨b, off + k * 4, none⟩ = some (.int .i64 p.k) := (D7.out.below.cell (p := ⟨b, off + k * 4, none⟩) LB.out).trans E0.out
          have d1 : w7.cell? ⟨b, off + k * 4 + 1, none⟩ = some (.int .i64 p.of) := (D7.out.below.cell (p := ⟨b, off + k * 4 + 1, none⟩) LB.out).trans E1.out
          have d2 : w7.cell? ⟨b, off + k * 4 + 2, none⟩ = some (.int .u32 p.sum) := (D7.out.below.cell (p := ⟨b, off + k * 4 + 2, none⟩) LB.out).trans E2.out
          have d3 : w7.cell? ⟨b, off + k * 4 + 3, none⟩ = some (.slice p.a p.m p.cp) := (D7.out.below.cell (p := ⟨b, off + k * 4 + 3, none⟩) LB.out).trans E3.out
          go_upto_region 12 with fail
          go_cut [68] from 48 to 67 (fun v wc => ∃ (w9 : World) (mo : Option Nat) (a : Option Addr) (m2 c2 : Nat) (l : List Pv), v = .bool false ∧ Hid (w9 = wc) ∧ Hid (Duo W w9 (fun k => k = g) B mo (putS s6 p.pc) R6 a m2 c2 l (putS s6 p.pc)) ∧ Hid (w9.heap[N]? = some (.cells #[.int .i64 p.k, .int .i64 p.of, .int .u32 p.sum, .slice (some ⟨g, 0, none⟩) p.m (p.m + 2)] 32 (0, 0))) ∧ Hid (w9.ownsRow g 5 1 (.slice (some ⟨g, 0, none⟩) (p.m + 2) (p.m + 2)) (p.m + 2) (B8.vals (p.b ++ [71, 71]))))
          case first => as_aux_lemma =>
            refine region_ord [] [(0, true), (1, true), (3, true), (4, true), (5, true), (6, true), (7, true), (2, false), (8, false), (9, true), (10, true), (11, true), (12, true), (13, true), (14, true), (15, true), (16, true), (17, true), (18, false), (19, true), (20, true)] (by kernel_rfl) (by kernel_rfl) (by kernel_rfl) (by kernel_rfl) (by kernel_rfl) (by kernel_rfl) ?_
            refine ord_next (fun v => v.cell? ⟨N, 0, none⟩ = some (.int .i64 p.k) ∧ v.cell? ⟨N, 1, none⟩ = some (.int .i64 p.of) ∧ v.cell? ⟨N, 2, none⟩ = some (.int .u32 p.sum) ∧ v.cell? ⟨N, 3, none⟩ = some (.slice (some ⟨g, 0, none⟩) p.m (p.m + 2)) ∧ v.cell? ⟨b, off + k * 4, none⟩ = some (.int .i64 p.k) ∧ v.cell? ⟨b, off + k * 4 + 1, none⟩ = some (.int .i64 p.of) ∧ v.cell? ⟨b, off + k * 4 + 2, none⟩ = some (.int .u32 p.sum) ∧ v.cell? ⟨b, off + k * 4 + 3, none⟩ = some (.slice p.a p.m p.cp)) ?_
            refine ord_take (v := ?_) rfl (fun _ _ _ h => h) (by rfl) (And.intro x0 (And.intro x1 (And.intro x2 (And.intro x3 (And.intro d0 (And.intro d1 (And.intro d2 d3))))))) ?_ ?_
            rotate_left
            · (intro y hy; simp only [List.getElem_toArray, List.getElem_cons_zero]; go_simp; try with_reducible rfl)
            simp only [List.getElem_toArray, List.getElem_cons_zero, Act.put, List.setIfInBounds_toArray, List.set_cons_zero, List.set_cons_succ]
            refine ord_take (v := ?_) rfl (fun _ _ _ h => h) (by rfl) (And.intro x0 (And.intro x1 (And.intro x2 (And.intro x3 (And.intro d0 (And.intro d1 (And.intro d2 d3))))))) ?_ ?_
            rotate_left
            · (intro y hy; obtain ⟨q0, q1, q2, q3, r0, r1, r2, r3⟩ := hy; simp only [List.getElem_toArray, List.getElem_cons_zero, List.getElem_cons_succ]; go_simp; try with_reducible rfl)
            simp only [List.getElem_toArray, List.getElem_cons_zero, List.getElem_cons_succ, Act.put, List.setIfInBounds_toArray, List.set_cons_zero, List.set_cons_succ]
            refine ord_take (v := ?_) rfl (fun _ _ _ h => h) (by rfl) (And.intro x0 (And.intro x1 (And.intro x2 (And.intro x3 (And.intro d0 (And.intro d1 (And.intro d2 d3))))))) ?_ ?_
            rotate_left
            · (intro y hy; simp only [List.getElem_toArray, List.getElem_cons_zero, List.getElem_cons_succ]; go_simp; try with_reducible rfl)
            simp only [List.getElem_toArray, List.getElem_cons_zero, List.getElem_cons_succ, Act.put, List.setIfInBounds_toArray, List.set_cons_zero, List.set_cons_succ]
            refine ord_take (v := ?_) rfl (fun _ _ _ h => h) (by rfl) (And.intro x0 (And.intro x1 (And.intro x2 (And.intro x3 (And.intro d0 (And.intro d1 (And.intro d2 d3))))))) ?_ ?_
            rotate_left
            · (intro y hy; simp only [List.getElem_toArray, List.getElem_cons_zero, List.getElem_cons_succ]; go_simp; try with_reducible rfl)
            simp only [List.getElem_toArray, List.getElem_cons_zero, List.getElem_cons_succ, Act.put, List.setIfInBounds_toArray, List.set_cons_zero, List.set_cons_succ]
            refine ord_take (v := ?_) rfl (fun _ _ _ h => h) (by rfl) (And.intro x0 (And.intro x1 (And.intro x2 (And.intro x3 (And.intro d0 (And.intro d1 (And.intro d2 d3))))))) ?_ ?_
            rotate_left
            · (intro y hy; simp only [List.getElem_toArray, List.getElem_cons_zero, List.getElem_cons_succ]; go_simp; try with_reducible rfl)
            simp only [List.getElem_toArray, List.getElem_cons_zero, List.getElem_cons_succ, Act.put, List.setIfInBounds_toArray, List.set_cons_zero, List.set_cons_succ]
            refine ord_take (v := ?_) rfl (fun _ _ _ h => h) (by rfl) (And.intro x0 (And.intro x1 (And.intro x2 (And.intro x3 (And.intro d0 (And.intro d1 (And.intro d2 d3))))))) ?_ ?_
            rotate_left
            · (intro y hy; simp only [List.getElem_toArray, List.getElem_cons_zero, List.getElem_cons_succ]; go_simp; try with_reducible rfl)
            simp only [List.getElem_toArray, List.getElem_cons_zero, List.getElem_cons_succ, Act.put, List.setIfInBounds_toArray, List.set_cons_zero, List.set_cons_succ]
            refine ord_take (v := ?_) rfl (fun _ _ _ h => h) (by rfl) (And.intro x0 (And.intro x1 (And.intro x2 (And.intro x3 (And.intro d0 (And.intro d1 (And.intro d2 d3))))))) ?_ ?_
            rotate_left
            · (intro y hy; obtain ⟨q0, q1, q2, q3, r0, r1, r2, r3⟩ := hy; simp only [List.getElem_toArray, List.getElem_cons_zero, List.getElem_cons_succ]; go_simp; try with_reducible rfl)
            simp only [List.getElem_toArray, List.getElem_cons_zero, List.getElem_cons_succ, Act.put, List.setIfInBounds_toArray, List.set_cons_zero, List.set_cons_succ]
            refine ord_only rfl (fun K' hK => ?_)
            simp only [List.getElem_toArray, List.getElem_cons_zero, List.getElem_cons_succ]
            go_simp
            refine CP.out.mono ?_
            rintro e w8 ⟨rfl, ⟨mo8, hd8⟩, hc8⟩
            have D8 := hide hd8
            have R8 : Hid (w8.heap[N]? = some (.cells #[.int .i64 p.k, .int .i64 p.of, .int .u32 p.sum, .slice (some ⟨g, 0, none⟩) p.m (p.m + 2)] 32 (0, 0))) := (hc8.block N (Array.getElem?_eq_some_iff.1 R7.out).1 NBM.out).trans R7.out
            have OW8 := hide (row_box (w := w7.drew) OW7.out (by decide) D7.out.bm hc8)
            obtain ⟨xa0, xa1, xa2, xa3⟩ := p4_of R8.out
            have da0 := (hd8.below.cell (p := ⟨b, off + k * 4, none⟩) LB.out).trans E0.out
            have da1 := (hd8.below.cell (p := ⟨b, off + k * 4 + 1, none⟩) LB.out).trans E1.out
            have da2 := (hd8.below.cell (p := ⟨b, off + k * 4 + 2, none⟩) LB.out).trans E2.out
            have da3 := (hd8.below.cell (p := ⟨b, off + k * 4 + 3, none⟩) LB.out).trans E3.out
            have CR := hide (rp_any hd8 (fun k hk => by rw [hk]; exact (OW8.out.lt g rfl).2) (any_ok (PO.out.below hd8.below)) EE.out)
            clear hd8 hc8
            refine hK _ _ ⟨(And.intro xa0 (And.intro xa1 (And.intro xa2 (And.intro xa3 (And.intro da0 (And.intro da1 (And.intro da2 da3))))))), ?_⟩
            clear hK K' x0 x1 x2 x3 d0 d1 d2 d3
            refine ord_only rfl (fun K' hK => ?_)
            simp only [List.getElem_toArray, List.getElem_cons_zero, List.getElem_cons_succ]
            go_simp
            refine CR.out.mono ?_
            rintro e w9 ⟨rfl, ⟨a9, m9, c9, l9, hd9⟩, hc9⟩
            have D9 := hide hd9
            have R9 : Hid (w9.heap[N]? = some (.cells #[.int .i64 p.k, .int .i64 p.of, .int .u32 p.sum, .slice (some ⟨g, 0, none⟩) p.m (p.m + 2)] 32 (0, 0))) := (hc9.block N (Array.getElem?_eq_some_iff.1 R8.out).1 NRM.out).trans R8.out
            have OW9 := hide (row_at8 OW8.out hc9 GRM.out)
            obtain ⟨xb0, xb1, xb2, xb3⟩ := p4_of R9.out
            have db0 := (hd9.below.cell (p := ⟨b, off + k * 4, none⟩) LB.out).trans E0.out
            have db1 := (hd9.below.cell (p := ⟨b, off + k * 4 + 1, none⟩) LB.out).trans E1.out
            have db2 := (hd9.below.cell (p := ⟨b, off + k * 4 + 2, none⟩) LB.out).trans E2.out
            have db3 := (hd9.below.cell (p := ⟨b, off + k * 4 + 3, none⟩) LB.out).trans E3.out
            have CK := hide (kept_at OW9.out SPu.out.length SPu.out.wf (PO.out.below hd9.below).bi.1 PO.out.room)
            clear hd9 hc9
            refine hK _ _ ⟨(And.intro xb0 (And.intro xb1 (And.intro xb2 (And.intro xb3 (And.intro db0 (And.intro db1 (And.intro db2 db3))))))), ?_⟩
            clear hK K' xa0 xa1 xa2 xa3 da0 da1 da2 da3
            refine ord_take (v := ?_) rfl (fun _ _ _ h => h) (by rfl) (And.intro xb0 (And.intro xb1 (And.intro xb2 (And.intro xb3 (And.intro db0 (And.intro db1 (And.intro db2 db3))))))) ?_ ?_
            rotate_left
            · (intro y hy; simp only [List.getElem_toArray, List.getElem_cons_zero, List.getElem_cons_succ]; go_simp; try with_reducible rfl)
            simp only [List.getElem_toArray, List.getElem_cons_zero, List.getElem_cons_succ, Act.put, List.setIfInBounds_toArray, List.set_cons_zero, List.set_cons_succ]
            refine ord_take (v := ?_) rfl (fun _ _ _ h => h) (by rfl) (And.intro xb0 (And.intro xb1 (And.intro xb2 (And.intro xb3 (And.intro db0 (And.intro db1 (And.intro db2 db3))))))) ?_ ?_
            rotate_left
            · (intro y hy; simp only [List.getElem_toArray, List.getElem_cons_zero, List.getElem_cons_succ]; go_simp; try with_reducible rfl)
            simp only [List.getElem_toArray, List.getElem_cons_zero, List.getElem_cons_succ, Act.put, List.setIfInBounds_toArray, List.set_cons_zero, List.set_cons_succ]
            refine ord_take (v := ?_) rfl (fun _ _ _ h => h) (by rfl) (And.intro xb0 (And.intro xb1 (And.intro xb2 (And.intro xb3 (And.intro db0 (And.intro db1 (And.intro db2 db3))))))) ?_ ?_
            rotate_left
            · (intro y hy; simp only [List.getElem_toArray, List.getElem_cons_zero, List.getElem_cons_succ]; go_simp; try with_reducible rfl)
            simp only [List.getElem_toArray, List.getElem_cons_zero, List.getElem_cons_succ, Act.put, List.setIfInBounds_toArray, List.set_cons_zero, List.set_cons_succ]
            refine ord_take (v := ?_) rfl (fun _ _ _ h => h) (by rfl) (And.intro xb0 (And.intro xb1 (And.intro xb2 (And.intro xb3 (And.intro db0 (And.intro db1 (And.intro db2 db3))))))) ?_ ?_
            rotate_left
            · (intro y hy; obtain ⟨q0, q1, q2, q3, r0, r1, r2, r3⟩ := hy; simp only [List.getElem_toArray, List.getElem_cons_zero, List.getElem_cons_succ]; go_simp; try with_reducible rfl)
            simp only [List.getElem_toArray, List.getElem_cons_zero, List.getElem_cons_succ, Act.put, List.setIfInBounds_toArray, List.set_cons_zero, List.set_cons_succ]
            refine ord_take (v := ?_) rfl (fun _ _ _ h => h) (by rfl) (And.intro xb0 (And.intro xb1 (And.intro xb2 (And.intro xb3 (And.intro db0 (And.intro db1 (And.intro db2 db3))))))) ?_ ?_
            rotate_left
            · (intro y hy; simp only [List.getElem_toArray, List.getElem_cons_zero, List.getElem_cons_succ]; go_simp; try with_reducible rfl)
            simp only [List.getElem_toArray, List.getElem_cons_zero, List.getElem_cons_succ, Act.put, List.setIfInBounds_toArray, List.set_cons_zero, List.set_cons_succ]
            refine ord_take (v := ?_) rfl (fun _ _ _ h => h) (by rfl) (And.intro xb0 (And.intro xb1 (And.intro xb2 (And.intro xb3 (And.intro db0 (And.intro db1 (And.intro db2 db3))))))) ?_ ?_
            rotate_left
            · (intro y hy; simp only [List.getElem_toArray, List.getElem_cons_zero, List.getElem_cons_succ]; go_simp; try with_reducible rfl)
            simp only [List.getElem_toArray, List.getElem_cons_zero, List.getElem_cons_succ, Act.put, List.setIfInBounds_toArray, List.set_cons_zero, List.set_cons_succ]
            refine ord_take (v := ?_) rfl (fun _ _ _ h => h) (by rfl) (And.intro xb0 (And.intro xb1 (And.intro xb2 (And.intro xb3 (And.intro db0 (And.intro db1 (And.intro db2 db3))))))) ?_ ?_
            rotate_left
            · (intro y hy; simp only [List.getElem_toArray, List.getElem_cons_zero, List.getElem_cons_succ]; go_simp; try with_reducible rfl)
            simp only [List.getElem_toArray, List.getElem_cons_zero, List.getElem_cons_succ, Act.put, List.setIfInBounds_toArray, List.set_cons_zero, List.set_cons_succ]
            refine ord_take (v := ?_) rfl (fun _ _ _ h => h) (by rfl) (And.intro xb0 (And.intro xb1 (And.intro xb2 (And.intro xb3 (And.intro db0 (And.intro db1 (And.intro db2 db3))))))) ?_ ?_
            rotate_left
            · (intro y hy; simp only [List.getElem_toArray, List.getElem_cons_zero, List.getElem_cons_succ]; go_simp; try with_reducible rfl)
            simp only [List.getElem_toArray, List.getElem_cons_zero, List.getElem_cons_succ, Act.put, List.setIfInBounds_toArray, List.set_cons_zero, List.set_cons_succ]
            refine ord_take (v := ?_) rfl (fun _ _ _ h => h) (by rfl) (And.intro xb0 (And.intro xb1 (And.intro xb2 (And.intro xb3 (And.intro db0 (And.intro db1 (And.intro db2 db3))))))) ?_ ?_
            rotate_left
            · (intro y hy; obtain ⟨q0, q1, q2, q3, r0, r1, r2, r3⟩ := hy; simp only [List.getElem_toArray, List.getElem_cons_zero, List.getElem_cons_succ]; go_simp; try with_reducible rfl)
            simp only [List.getElem_toArray, List.getElem_cons_zero, List.getElem_cons_succ, Act.put, List.setIfInBounds_toArray, List.set_cons_zero, List.set_cons_succ]
            refine ord_only rfl (fun K' hK => ?_)
            simp only [List.getElem_toArray, List.getElem_cons_zero, List.getElem_cons_succ]
            go_simp
            refine CK.out.mono ?_
            rintro e w10 ⟨rfl, n10, rfl⟩
            refine hK _ _ ⟨(And.intro xb0 (And.intro xb1 (And.intro xb2 (And.intro xb3 (And.intro db0 (And.intro db1 (And.intro db2 db3))))))), ?_⟩
            clear hK K'
            refine ord_take (v := ?_) rfl (fun _ _ _ h => h) (by rfl) (And.intro xb0 (And.intro xb1 (And.intro xb2 (And.intro xb3 (And.intro db0 (And.intro db1 (And.intro db2 db3))))))) ?_ ?_
            rotate_left
            · (intro y hy; simp only [List.getElem_toArray, List.getElem_cons_zero, List.getElem_cons_succ]; go_simp; try with_reducible rfl)
            simp only [List.getElem_toArray, List.getElem_cons_zero, List.getElem_cons_succ, Act.put, List.setIfInBounds_toArray, List.set_cons_zero, List.set_cons_succ]
            refine ord_take (v := ?_) rfl (fun _ _ _ h => h) (by rfl) (And.intro xb0 (And.intro xb1 (And.intro xb2 (And.intro xb3 (And.intro db0 (And.intro db1 (And.intro db2 db3))))))) ?_ ?_
            rotate_left
            · (intro y hy; simp only [List.getElem_toArray, List.getElem_cons_zero, List.getElem_cons_succ]; go_simp; try with_reducible rfl)
            simp only [List.getElem_toArray, List.getElem_cons_zero, List.getElem_cons_succ, Act.put, List.setIfInBounds_toArray, List.set_cons_zero, List.set_cons_succ]
            refine ord_done ?_
            go_wp2_with fail
            go_meet
            case rel => exact ⟨_, _, _, _, _, _, rfl, rfl, D9.out.next (below_drewN8 (Below.refl _ _) _), R9.out, OW9.out⟩
          case rest => as_aux_lemma =>
            obtain ⟨w9, mo9, a9, m9, c9, l9, rfl, EW, D9, R9, OW9⟩ := hcut
            obtain rfl := EW.out
            clear EW D7 R7 OW7 BB7 CP NRM GRM NBM PO7 EE x0 x1 x2 x3 d0 d1 d2 d3 LG7 SPu RNu BU LNu EG EN
            generalize putS s6 p.pc = s7 at D9
            have G9 : Hid (∃ cs, w9.heap[g]? = some (.cells cs 5 (0, 0)) ∧ p.m + 2 ≤ cs.size) := by
              obtain ⟨_, ⟨e1, _⟩ | ⟨g', cp, cur, e1, _, hg, h1, _, h2, _⟩⟩ := OW9.out
              · cases e1
              · obtain ⟨e2, e3⟩ : g = g' ∧ p.m + 2 = cp := by simpa using e1
                subst e2
                exact ⟨cur, hg, by omega⟩
            have GG : Hid (W.heap.size ≤ g) := Nat.le_trans D6.out.below.size GW.out
            have NG : Hid (N ≠ g) := fun e => by
              have h1 := R9.out
              obtain ⟨cs, h2, _⟩ := G9.out
              rw [e, h2] at h1
              simp at h1
            clear OW9 D6 GW
            go_wp2_with fail
            go_loopw [9] (fun x wr => ∃ j : Nat, j ≤ p.m ∧ x = .int .i64 j ∧ Hid (Duo W wr (fun k => k = g) B mo9 s7 R6 a9 m9 c9 l9 s7) ∧ Hid (wr.heap[N]? = some (.cells #[.int .i64 p.k, .int .i64 p.of, .int .u32 p.sum, .slice (some ⟨g, 0, none⟩) p.m (p.m + 2)] 32 (0, 0))) ∧ Hid (∃ cs, wr.heap[g]? = some (.cells cs 5 (0, 0)) ∧ p.m + 2 ≤ cs.size)) (fun x _ => p.m - (intOf x).toNat)
            case atStart => exact ⟨0, Nat.zero_le _, rfl, D9, R9, G9⟩
            case round => as_aux_lemma =>
              obtain ⟨j, hj, rfl, DW, RW, GW⟩ := hrel
              clear D9 R9 G9
              have pr := PO.out.room
              have y3 : wr.cell? ⟨N, 3, none⟩ = some (.slice (some ⟨g, 0, none⟩) p.m (p.m + 2)) := by rw [cell_of_row _ _ _ _ _ _ RW.out]; rfl
              by_cases hjl : j < p.m
              · have j1 : (j : Int) < (p.m : Int) := by omega
                have j2 : (0 : Int) ≤ (j : Int) := by omega
                obtain ⟨cs, hg, hs⟩ := GW.out
                obtain ⟨v, hv⟩ : ∃ v, wr.cell? ⟨g, j, none⟩ = some v := by
                  rw [cell_of_row _ _ _ _ _ _ hg]
                  exact ⟨_, Array.getElem?_eq_getElem (by omega)⟩
                have fz : wr.frozen? ⟨g, j, none⟩ = false := by simp [World.frozen?, hg]
                have GC : Hid (Chg (fun k => k = g) wr (wr.setCell ⟨g, j, none⟩ (.int .u8 97))) := (Chg.refl (fun k => k = g) wr).setCell (p := ⟨g, j, none⟩) (.inl rfl) _
                have D8 : Hid (Duo W (wr.setCell ⟨g, j, none⟩ (.int .u8 97)) (fun k => k = g) B mo9 s7 R6 a9 m9 c9 l9 s7) := DW.out.write GC.out (fun k hk => by rw [hk]; exact ⟨GG.out, cs, hg⟩)
                have R8 : Hid ((wr.setCell ⟨g, j, none⟩ (.int .u8 97)).heap[N]? = some (.cells #[.int .i64 p.k, .int .i64 p.of, .int .u32 p.sum, .slice (some ⟨g, 0, none⟩) p.m (p.m + 2)] 32 (0, 0))) := set_row RW.out (fun e => NG.out e.symm)
                have G8 : Hid (∃ cs, (wr.setCell ⟨g, j, none⟩ (.int .u8 97)).heap[g]? = some (.cells cs 5 (0, 0)) ∧ p.m + 2 ≤ cs.size) := ⟨_, put_row hg, by simpa using hs⟩
                clear hg hs
                go_wp2_with fail
                go_roundw
                case rel => exact ⟨j + 1, by omega, by go_num, D8, R8, G8⟩
                case measure => simp [intOf]; omega
              · have j1 : ¬ (j : Int) < (p.m : Int) := by omega
                have D10 := hide DW.out.drop
                clear DW RW GW
                obtain ⟨V, eV⟩ : ∃ V, V = wr := ⟨_, rfl⟩
                rw [← eV] at D10 y3 ⊢
                clear eV
                have CA := hide (done_any D10.out.bm (HT.out.below D10.out.below))
                have MW : Hid (I8.wfs (missL s7)) := missL_wfs s7 D10.out.bm.ok
                have DF : Hid (wfs (doneL s7)) := D10.out.bm.wfsD
                have DLE : Hid ((doneL s7).length ≤ 8192) := doneL_length D10.out.bm.ok
                have LM : Hid ((missL s7).length ≤ 16) := by
                  show _ ≤ _
                  have h1 := missN_length s7.ps (max s7.of 1).toNat
                  have h2 := D10.out.bm.ok.of
                  unfold missL
                  omega
                obtain ⟨nX, eX⟩ : ∃ nX, nX = (doneL s7).length := ⟨_, rfl⟩
                obtain ⟨nL, eL⟩ : ∃ nL, nL = (missL s7).length := ⟨_, rfl⟩
                obtain ⟨dB, eD⟩ : ∃ dB, dB = doneB s7 := ⟨_, rfl⟩
                rw [← eX, ← eD] at CA
                rw [← eX] at DLE
                rw [← eL] at LM
                have EX := hide eX
                have EL := hide eL
                have ED := hide eD
                clear eX eL eD
                go_wp2_with fail
                refine CA.out.mono ?_
                rintro e w11 ⟨aX, cX, rfl, hb11, hr11⟩
                have D11 := hide (D10.out.next hb11)
                have X11 := hide hr11
                have V11 : Hid (Below V.heap.size V w11) := hb11
                have CB := hide (rdone_any D11.out.rb D11.out.rl)
                rw [← EX.out, ← ED.out] at CB
                clear hb11 hr11 CA
                go_wp2_with fail
                refine CB.out.mono ?_
                rintro e w12 ⟨aY, cY, rfl, hb12, hr12⟩
                have D12 := hide (D11.out.next hb12)
                have V12 : Hid (Below V.heap.size V w12) := below_step V11.out hb12
                have X12 := hide (row_below X11.out hb12)
                have Y12 := hide hr12
                have CM := hide (missing_any D12.out.bm)
                rw [← EL.out] at CM
                clear hb12 hr12 CB D11 X11
                go_wp2_with fail
                refine CM.out.mono ?_
                rintro e w13 ⟨a13, c13, rfl, hb13, hr13⟩
                have D13 := hide (D12.out.next hb13)
                have V13 : Hid (Below V.heap.size V w13) := below_step V12.out hb13
                have X13 := hide (row_below X12.out hb13)
                have Y13 := hide (row_below Y12.out hb13)
                have M13 := hide hr13
                have CN := hide (rmissing_any D13.out.rb D13.out.rl)
                rw [← EL.out] at CN
                clear hb13 hr13 CM D12 X12 Y12
                go_wp2_with fail
                refine CN.out.mono ?_
                rintro e w14 ⟨a14, c14, rfl, hb14, hr14⟩
                have D14 := hide (D13.out.next hb14)
                have V14 : Hid (Below V.heap.size V w14) := below_step V13.out hb14
                have X14 := hide (row_below X13.out hb14)
                have Y14 := hide (row_below Y13.out hb14)
                have CE : Hid (Calls Tryd.prog 13 #[.slice a13 nL c13, .slice a14 nL c14] w14 fun e w' => e = .returned (.bool true) ∧ ∃ n, w' = w14.drewN n) := by
                  obtain ⟨x1, y1, e1, q1⟩ := I8.sq_of_row EL.out.symm MW.out (I8.row_below M13.out hb14)
                  obtain ⟨rfl, rfl⟩ : a13 = x1 ∧ c13 = y1 := by simpa using e1
                  obtain ⟨x2, y2, e2, q2⟩ := I8.sq_of_row EL.out.symm MW.out hr14
                  obtain ⟨rfl, rfl⟩ : a14 = x2 ∧ c14 = y2 := by simpa using e2
                  exact I8.plain_sq q1 q2 (by have := LM.out; omega)
                clear hb14 hr14 CN D13 X13 Y13 M13
                go_wp2_with fail
                refine CE.out.mono ?_
                rintro e w15 ⟨rfl, n15, e15⟩
                have hb15 : Below w14.heap.size w14 w15 := by rw [e15]; exact below_drewN8 (Below.refl _ _) _
                have V15 : Hid (Below V.heap.size V w15) := below_step V14.out hb15
                have X15 := hide (row_below X14.out hb15)
                have CY : Hid (Calls Tryd.prog 16 #[.slice aX nX cX, .slice aY nX cY] w15 fun e w' => e = .returned (.bool true) ∧ Below w15.heap.size w15 w') := by
                  obtain ⟨x1, y1, e1, q1⟩ := sq_of_row EX.out.symm DF.out X15.out
                  obtain ⟨rfl, rfl⟩ : aX = x1 ∧ cX = y1 := by simpa using e1
                  obtain ⟨x2, y2, e2, q2⟩ := sq_of_row EX.out.symm DF.out (row_below Y14.out hb15)
                  obtain ⟨rfl, rfl⟩ : aY = x2 ∧ cY = y2 := by simpa using e2
                  exact bytes_lit q1 q2 (by have := DLE.out; omega) (by simp)
                clear hb15 e15 CE D14 X14 Y14
                go_wp2_with fail
                refine CY.out.mono ?_
                rintro e w16 ⟨rfl, hb16⟩
                have V16 : Hid (Below V.heap.size V w16) := below_step V15.out hb16
                have X16 := hide (row_below X15.out hb16)
                have G16 : Hid (nX = 0 ∨ ∃ g2 cs, aX = some ⟨g2, 0, none⟩ ∧ V.heap.size ≤ g2 ∧ w16.heap[g2]? = some (.cells cs 5 (0, 0)) ∧ nX ≤ cs.size) := by
                  obtain ⟨_, ⟨e1, e0⟩ | ⟨g', cp, cur, e1, hgl, hg, h1, _, h2, _⟩⟩ := X16.out
                  · exact .inl (by simp at e1; exact e1.2.1)
                  · obtain ⟨e2, e3⟩ : aX = some ⟨g', 0, none⟩ ∧ cX = cp := by simpa using e1
                    exact .inr ⟨g', cur, e2, hgl, hg, by omega⟩
                clear hb16 CY X15 X16 V11 V12 V13 V14 V15
                go_wp2_with fail
                go_loopw [14] (fun x wr => ∃ i : Nat, i ≤ nX ∧ x = .int .i64 i ∧ Hid (Below V.heap.size V wr) ∧ Hid (nX = 0 ∨ ∃ g2 cs, aX = some ⟨g2, 0, none⟩ ∧ V.heap.size ≤ g2 ∧ wr.heap[g2]? = some (.cells cs 5 (0, 0)) ∧ nX ≤ cs.size)) (fun x _ => nX - (intOf x).toNat)
                case atStart => exact ⟨0, Nat.zero_le _, rfl, V16, G16⟩
                case round => as_aux_lemma =>
                  obtain ⟨i, hi, rfl, HB, HG⟩ := hrel
                  clear V16 G16
                  have dl := DLE.out
                  by_cases hil : i < nX
                  · have j5 : (i : Int) < (nX : Int) := by omega
                    have j6 : (0 : Int) ≤ (i : Int) := by omega
                    rcases HG.out with h0 | ⟨g2, cs, rfl, hl, hg, hs⟩
                    · omega
                    · obtain ⟨v, hv⟩ : ∃ v, wr.cell? ⟨g2, i, none⟩ = some v := by
                        rw [cell_of_row _ _ _ _ _ _ hg]
                        exact ⟨_, Array.getElem?_eq_getElem (by omega)⟩
                      have fz : wr.frozen? ⟨g2, i, none⟩ = false := by simp [World.frozen?, hg]
                      have B8 : Hid (Below V.heap.size V (wr.setCell ⟨g2, i, none⟩ (.int .u8 96))) := HB.out.setCell (p := ⟨g2, i, none⟩) hl _
                      have G8 : Hid (nX = 0 ∨ ∃ g3 cs, (some ⟨g2, 0, none⟩ : Option Addr) = some ⟨g3, 0, none⟩ ∧ V.heap.size ≤ g3 ∧ (wr.setCell ⟨g2, i, none⟩ (.int .u8 96)).heap[g3]? = some (.cells cs 5 (0, 0)) ∧ nX ≤ cs.size) := .inr ⟨g2, _, rfl, hl, put_row hg, by simpa using hs⟩
                      clear hg hs hl
                      go_wp2_with fail
                      go_roundw
                      case rel => exact ⟨i + 1, by omega, by go_num, B8, G8⟩
                      case measure => simp [intOf]; omega
                  · have j5 : ¬ (i : Int) < (nX : Int) := by omega
                    have D17 := hide (D10.out.next HB.out)
                    go_wp2_with fail
                    go_roundw
                    case rel => exact ⟨k + 1, mo9, s7, R6, a9, m9, c9, l9, by omega, by go_num, rfl, D17⟩
                    case measure => simp [intOf]; omega
    · go_wp2_with fail
      go_ret
      exact ⟨rfl, D5.out.below⟩
theorem gTab : Tryd.prog.globalNamed "purse/codec.halves" = some 0 := by kernel_rfl
theorem gTabType : (Tryd.prog.globals[0]?).map (·.type) = some 58 := by kernel_rfl
theorem cellsT : Tryd.prog.cellsOf 58 = 16 := by kernel_rfl
theorem cellsE : Tryd.prog.cellsOf 29 = 1 := by kernel_rfl
theorem table {W : World} (h : laidMetH Tryd.prog Rows.chunkPlaysRow.laid W) : Tab W := by
  have t : Lib.TabIs Tryd.prog W "purse/codec.halves" .u32 Crc.tab := Lib.tabIs_of_head (rest := []) gTab gTabType Tryd.underlying58 Tryd.underlying29 cellsE cellsT h
  intro j hj
  rw [t.cell gTab j hj]
  simp [List.getD]
theorem contract (H : Type) (enc : TypeId × Value → H) (W : World) (base : Nat) (args : Array Value) (ds gs : List (DataW H)) (before : List MemPlace)
    (hval0 : ∀ (j : Nat) t v, Tryd.f3.params[j]? = some t → args[j]? = some v → Value.okWide Tryd.prog W .any base t v)
    (hW : DataW.Whole enc Tryd.prog Tryd.f3.params.toList Rows.chunkPlaysSpec.vars false W args.toList ds gs before)
    (hsz0 : (DataW.weightsEach Tryd.prog (Tryd.f3.params.toList ++ Rows.chunkPlaysSpec.plain.varTypes Tryd.prog) (ds ++ gs)).all (· ≤ reachBytes) = true) (hL : laidMetH Tryd.prog Rows.chunkPlaysRow.laid W) :
    Calls Tryd.prog 3 args W fun e W' => ∃ v, e = .returned v ∧ Rows.chunkPlaysSpec.post enc Tryd.prog Tryd.f3 false true false false W args v W' := by
  have hsz : (DataW.weightsEach Tryd.prog (Tryd.f3.params.toList ++ Rows.chunkPlaysSpec.plain.varTypes Tryd.prog) (ds ++ gs)).all (· ≤ reachBytes) = true := hsz0
  have hval : ∀ (j : Nat) t v, Tryd.f3.params[j]? = some t → args[j]? = some v → Value.okWide Tryd.prog W .any base t v := hval0
  have hW' := hW
  obtain ⟨p, q, hA0, hV, rfl, hfz, hnd⟩ := hW
  have hA : DataW.TrodAll enc Tryd.prog W 0 (fun _ => true) true Tryd.f3.params.toList args.toList ds p := hA0
  rw [Tryd.params3] at hA hval hsz
  obtain ⟨v0, vs0, d0, ds0, p0, q0, hargs, rfl, rfl, h0, r0⟩ := trodAll_cons hA
  obtain ⟨v1, vs1, d1, ds1, p1, q1, rfl, rfl, rfl, h1, r1⟩ := trodAll_cons r0
  obtain ⟨rfl, rfl, rfl⟩ := trodAll_nil r1
  obtain rfl : args = #[v0, v1] := by cases args; simp_all
  obtain ⟨rfl, rfl⟩ := trodVars_none hV
  have lt0 : ∀ x ∈ p0, x.block < W.heap.size := by obtain ⟨m, hm⟩ := h0; exact DataW.trod_lt m _ _ _ hm
  obtain ⟨ap, mp, cp, lp, rfl, hl⟩ := open_pieces_held (hval 0 22 v0 rfl rfl) h0 (fun n hn => by have h := List.all_eq_true.1 hsz n (DataW.weights_mem_each (j := 0) rfl rfl n hn); simpa using h)
  have lt1 : ∀ x ∈ p1, x.block < W.heap.size := by obtain ⟨m, hm⟩ := h1; exact DataW.trod_lt m _ _ _ hm
  obtain ⟨clr, rfl, hc⟩ := open_i64 (hval 1 3 v1 rfl rfl) h1
  clear hA0 hval0
  refine (walk clr hl (table hL)).mono fun e W' ⟨he, bel⟩ => ?_
  subst he
  exact ⟨_, rfl, _, _, _, [], _, [], hW', trodAll_mk1 (shut_bool Tryd.underlying4 _), (trodAll_cons_mk (Below.trod laidOut (by kernel_rfl) (of_decide_eq_true (by kernel_rfl)) h0 bel lt0) (trodAll_cons_mk (Below.trod laidOut (by kernel_rfl) (of_decide_eq_true (by kernel_rfl)) h1 bel lt1) trodAll_mk0)), rfl, bel.frame _, fun h => by cases h⟩

noncomputable def laidWorld (os : Os) : World :=
  { World.holding Tryd.prog os ⟨#[], #[], []⟩ with heap := (World.holding Tryd.prog os ⟨#[], #[], []⟩).heap.modify 0 fun
      | .cells _ t frozen => .cells #[.int .u32 0, .int .u32 498536548, .int .u32 997073096, .int .u32 651767980, .int .u32 1994146192, .int .u32 1802195444, .int .u32 1303535960, .int .u32 1342533948, .int .u32 3988292384, .int .u32 4027552580, .int .u32 3604390888, .int .u32 3412177804, .int .u32 2607071920, .int .u32 2262029012, .int .u32 2685067896, .int .u32 3183342108] t frozen
      | o => o }
theorem laid_met (os : Os) : laidMet Tryd.prog Rows.chunkPlaysRow.laid ((laidWorld os).forCall (fun _ _ => 0) ⟨#[], #[Value.slice none 0 0, Value.int .i64 0], []⟩).memory :=
  laidMet_of_run' 8 (by kernel_rfl) (by kernel_rfl)
theorem reads (os : Os) {H : Type} (enc : TypeId × Value → H) : ∃ places, DataW.whole enc Tryd.prog ((laidWorld os).forCall (fun _ _ => 0) ⟨#[], #[Value.slice none 0 0, Value.int .i64 0], []⟩).memory Tryd.f3.params.toList Rows.chunkPlaysSpec.vars false #[Value.slice none 0 0, Value.int .i64 0].toList 8 = some ([.nil, .lit (.int .i64 0)], [], places) :=
  ⟨[], by kernel_rfl⟩
set_option maxRecDepth 100000 in
theorem lifted (os : Os) (started : os.Started) (H : Type) (enc : TypeId × Value → H) (F : Stop.Interp) :
    ReturnsInHanded {} Tryd.checked os 3 .any ((OpenSpec.ofChange Rows.chunkPlaysSpec).preRow enc Tryd.prog Tryd.f3 Rows.chunkPlaysRow.domain false Rows.chunkPlaysRow.laid) (((OpenSpec.ofChange Rows.chunkPlaysSpec).at F).post enc Tryd.prog Tryd.f3 false true false false) := by
  obtain ⟨places, hx⟩ := reads os enc
  refine returnsInHanded_of_row (C := Tryd.checked) (s := OpenSpec.ofChange Rows.chunkPlaysSpec) own started (by kernel_rfl) Tryd.func3
    (witness_row_at (enc := enc) (C := Tryd.checked) false (laidWorld os) #[Value.slice none 0 0, Value.int .i64 0] rfl (by kernel_rfl) (by kernel_rfl) (by kernel_rfl)
      (OpenSpec.preRow_of_cond 8 hx (by kernel_rfl) (fun k hk => by cases hk) (by kernel_rfl) (laid_met os))) ?_
  intro W base args ds gs before hval hW _ _ hsz hL _ _
  exact contract H enc W base args ds gs before hval hW hsz hL

theorem said : Rows.ChunkPlaysSaid :=
  OpenClaim.holds_of_cond 3 Tryd.f3 rfl rfl rfl rfl rfl rfl rfl ⟨rfl, rfl, rfl, rfl, rfl⟩ rfl rfl rfl rfl rfl (by kernel_rfl) Tryd.func3 (by kernel_rfl)
    (of_decide_eq_true (by kernel_rfl)) (by unfold Func.isWrapper; first | (rw [if_pos (by decide +kernel)]; kernel_rfl) | (rw [if_neg (by decide +kernel)]; exact ⟨rfl, rfl⟩))
    (fun os started H enc _ F => by rw [OpenClaim.pre_eq_preRow]; exact lifted os started H enc F)
theorem plain (f : FuncId) (fn : Func) (hf : Tryd.pinned.checked.prog.funcNamed "purse/purselaw12.ChunkPlays" = some f) (hfn : Tryd.pinned.checked.prog.funcs[f]? = some fn) :
    false = Tryd.pinned.checked.prog.looks [] ∧ ∀ (j : Nat) t, fn.params[j]? = some t → Tryd.pinned.checked.prog.wantsStandIn t = false := by
  obtain rfl : f = 3 := Option.some.inj ((show Tryd.prog.funcNamed "purse/purselaw12.ChunkPlays" = some 3 by kernel_rfl).symm.trans hf) |>.symm
  obtain rfl : fn = Tryd.f3 := (Option.some.inj (Tryd.func3.symm.trans hfn)).symm
  refine ⟨by kernel_rfl, fun j t ht => ?_⟩
  rw [Tryd.params3] at ht
  have hmem := Array.mem_of_getElem? ht
  have ht2 : t = 22 ∨ t = 3 := by simpa using hmem
  rcases ht2 with rfl | rfl
  · exact (show Tryd.prog.wantsStandIn 22 = false by kernel_rfl)
  · exact (show Tryd.prog.wantsStandIn 3 = false by kernel_rfl)
theorem card : Rows.ChunkPlaysCardSaid :=
  Claim7.holds_tied_plain_at .later [] _ _ _ _ said (fun _ h => by cases h) (by kernel_rfl) (fun _ h => by cases h) chunkPlays_row_tie rfl ⟨rfl, rfl⟩ (by kernel_rfl) rfl plain (by kernel_rfl)
#print axioms card
end ChunkPlays
theorem chunkPlays_holds : Rows.ChunkPlaysCardSaid := ChunkPlays.card
end Go.Proofs.YtanfmpeblhegpaaDoor
