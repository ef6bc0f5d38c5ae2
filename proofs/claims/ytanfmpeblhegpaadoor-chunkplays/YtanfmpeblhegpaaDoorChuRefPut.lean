/- The document's box: Put. No condition. -/
import Derived.Test.YtanfmpeblhegpaaDoorChuRefC
import Derived.Deep.RegionLaw
namespace Go.Proofs.YtanfmpeblhegpaaDoor
open Go.ChangeShapes Go.WideShapes Go.ChangeAt Go.RowKit B8 Ck
set_option linter.unusedVariables false

/-- one piece more -/
theorem lw_add2 {w : World} {B : Nat} {a : Option Addr} {m c : Nat} {l : List Pv} (h : Lw w B a m c l) (hm : m ≤ 4398046510976) (hB : B ≤ w.heap.size) {p : Pv}
    (hp : w.ownsRow B 5 1 (.slice p.a p.m p.cp) p.m (B8.vals p.b) ∧ p.b.length = p.m ∧ wfs p.b ∧ p.m ≤ 140737488351232 ∧ (Lit.int .i64 p.k).wf = true ∧ (Lit.int .i64 p.of).wf = true ∧ 0 ≤ p.sum ∧ p.sum ≤ 4294967295) (ty : TypeId) :
    ∃ g cp w', (Builtin.append_ #[22, 22] ty #[.slice a m c, .slice (some ⟨w.heap.size, 0, none⟩) 1 1]).run Tryd.prog (w.alloc (.cells #[.int .i64 p.k, .int .i64 p.of, .int .u32 p.sum, .slice p.a p.m p.cp] 32)) = .ok (.slice (some ⟨g, 0, none⟩) (m + 1) cp) w'
      ∧ Lw w' B (some ⟨g, 0, none⟩) (m + 1) cp (l ++ [p]) ∧ Below B w w' ∧ Chg (fun k => (Value.slice a m c).ownBlock = some k) w w' ∧ ((Value.slice a m c).ownBlock = some g ∨ w.heap.size ≤ g) := by
  obtain ⟨i0, hi, hz0, hz1, hz2⟩ := info_parts pieceinfo
  obtain ⟨g, cp, w', hr, ho, hc, hb, hloc⟩ := row_add (ty := ty) Tryd.underlying22 hi hz0 hz1 hz2 rfl (by omega) h.row #[.int .i64 p.k, .int .i64 p.of, .int .u32 p.sum, .slice p.a p.m p.cp] rfl (fun u hu => by simp at hu; rcases hu with rfl | rfl | rfl | rfl <;> rfl) (by omega) (by omega) hB
  refine ⟨g, cp, w', hr, ⟨?_, by simp [h.len], fun q hq => ?_⟩, hb, hc, hloc⟩
  · rw [pcells_append]
    simpa [pcells, Pv.cells] using ho
  · have hq' : w.ownsRow B 5 1 (.slice q.a q.m q.cp) q.m (B8.vals q.b) ∧ q.b.length = q.m ∧ wfs q.b ∧ q.m ≤ 140737488351232 ∧ (Lit.int .i64 q.k).wf = true ∧ (Lit.int .i64 q.of).wf = true ∧ 0 ≤ q.sum ∧ q.sum ≤ 4294967295 := by
      have : q ∈ l ∨ q = p := by simpa using hq
      rcases this with hq | rfl
      · exact h.each q hq
      · exact hp
    refine ⟨row_same hq'.1 (fun k hk => hc.block k (hq'.1.lt k hk).2 (fun e2 => ?_)), hq'.2⟩
    obtain ⟨cs, e⟩ := isP h.row e2
    obtain ⟨cs', e'⟩ := isU hq'.1 hk
    rw [e] at e'
    simp at e'
/-- the blocks that the document's Put may write -/
def RM (R : Nat) (a : Option Addr) (m c : Nat) (k : Nat) : Prop := k = R ∨ (Value.slice a m c).ownBlock = some k
theorem other_block {w : World} {B n g T sz : Nat} {v : Value} {xs : List Value} {cs : Array Value} {T' R : Nat} (h : w.ownsRow B T sz v n xs) (hg : v.ownBlock = some g) (hR : w.heap[R]? = some (.cells cs T' (0, 0))) (hT : T ≠ T') : g ≠ R := fun e => by
  subst e
  obtain ⟨_, ⟨e, _⟩ | ⟨g', cp, cur, e, _, hg', _⟩⟩ := h
  · rw [e] at hg; cases hg
  · rw [e] at hg
    have : g' = g := by simpa [Value.ownBlock] using hg
    subst this
    rw [hR] at hg'
    simp at hg'
    exact hT hg'.2.symm
theorem Lw.setOther {w : World} {B R o : Nat} {a : Option Addr} {m c : Nat} {l : List Pv} {cs : Array Value} (h : Lw w B a m c l) (hR : w.heap[R]? = some (.cells cs 27 (0, 0))) (v : Value) : Lw (w.setCell ⟨R, o, none⟩ v) B a m c l :=
  ⟨row_same h.row (fun k hk => Below.heap_setCell _ _ _ _ (by simpa using other_block h.row hk hR (by decide))), h.len, fun p hp => ⟨row_same (h.each p hp).1 (fun k hk => Below.heap_setCell _ _ _ _ (by simpa using other_block (h.each p hp).1 hk hR (by decide))), (h.each p hp).2⟩⟩
set_option maxRecDepth 100000 in
set_option maxHeartbeats 4000000 in
theorem rput_any {w : World} {B R : Nat} {a : Option Addr} {m c : Nat} {l : List Pv} {s : Bx} (h : Rb w B R a m c l) (hr : Rl s (l.map Pv.pc)) {p : Pv} (hp : POk w (fun _ => True) p) (hB : B ≤ w.heap.size) :
    Calls Tryd.prog 9 #[.pointer (some ⟨R, 0, none⟩), .agg #[.int .i64 p.k, .int .i64 p.of, .int .u32 p.sum, .slice p.a p.m p.cp]] w fun e w' => e = .returned (.int .i64 (putE s p.pc)) ∧ ∃ a' m' c' l', Rb w' B R a' m' c' l' ∧ Rl (putS s p.pc) (l'.map Pv.pc) ∧ Below B w w' ∧ Chg (RM R a m c) w w' ∧ (∀ k, (Value.slice a' m' c').ownBlock = some k → (Value.slice a m c).ownBlock = some k ∨ w.heap.size ≤ k) ∧ ∀ q ∈ l', q ∈ l ∨ ∀ k, (Value.slice q.a q.m q.cp).ownBlock = some k → w.heap.size ≤ k := by
  have hm := rl_m h hr
  obtain ⟨u, eu⟩ : ∃ u, u = w.alloc (.cells #[.int .i64 p.k, .int .i64 p.of, .int .u32 p.sum, .slice p.a p.m p.cp] 32) := ⟨_, rfl⟩
  have BU : Hid (Below w.heap.size w u) := by rw [eu]; exact below_alloc (Below.refl _ _) _
  have X : Hid (P4 u w.heap.size p) := by rw [eu]; exact p4_new w p
  have RN : Hid (u.heap[w.heap.size]? = some (.cells #[.int .i64 p.k, .int .i64 p.of, .int .u32 p.sum, .slice p.a p.m p.cp] 32 (0, 0))) := by rw [eu]; exact heap_alloc_new w _
  have H0 := hide h
  have H := hide (h.below BU.out)
  have HR := hide hr
  have SP := hide ((hp.below BU.out).bi.1)
  have PM := hide hp.room
  have PK := hide hp
  have hB0 := hide hB
  obtain ⟨N, eN⟩ : ∃ N, N = w.heap.size := ⟨_, rfl⟩
  rw [← eN] at X RN
  have CM := hide (rmay_any p hp.bi.1.length u)
  have EU := hide eu
  have EN := hide eN
  have x0' := X.out.1
  have x1' := X.out.2.1
  have x2' := X.out.2.2.1
  have x3' := X.out.2.2.2
  rw [eu, eN] at x0' x1' x2' x3'
  rw [eu] at CM
  clear h hr hp eu eN hB
  cases hmay : mayB p.pc with
  | false =>
    have e1 : putE s p.pc = 21 := by simp [putE, hmay]
    rw [hmay] at CM
    rw [e1, putS_ne (by rw [e1]; decide)]
    clear e1 hmay
    go_enter Tryd.func9, Tryd.ntmps9
    go_wp2_with fail
    refine CM.out.mono ?_
    rintro e w1 ⟨rfl, hb1⟩
    rw [← EU.out] at hb1
    have B1 := hide hb1
    clear hb1
    go_wp2_with fail
    go_ret
    exact ⟨rfl, _, _, _, l, H.out.below B1.out, HR.out, (below_step BU.out B1.out).mono hB0.out, Chg.of_below (below_step BU.out B1.out) _, fun k hk => .inl hk, fun q hq => .inl hq⟩
  | true =>
    have HMAY := hide hmay
    rw [hmay] at CM
    clear hmay
    go_enter Tryd.func9, Tryd.ntmps9
    go_wp2_with fail
    refine CM.out.mono ?_
    rintro e w1 ⟨rfl, hb1⟩
    rw [← EU.out] at hb1
    rw [← EN.out]
    have B1 := hide hb1
    clear hb1 x0' x1' x2' x3' CM
    go_wp2_with fail
    go_loopw [5] (fun x wr => ∃ i : Nat, i ≤ m ∧ x = .int .i64 i ∧ Hid (Below u.heap.size u wr) ∧ Hid (∀ j, j < i → ∀ r, (l.map Pv.pc)[j]? = some r → r.of = p.of ∧ r.sum = p.sum ∧ (r.k = p.k → r.b = p.b))) (fun x _ => m - (intOf x).toNat)
    case atStart => exact ⟨0, Nat.zero_le _, rfl, B1, fun j hj => absurd hj (by omega)⟩
    case round =>
      obtain ⟨i, hi, rfl, HB, IV⟩ := hrel
      have H1 := hide (H.out.below HB.out)
      have c0 := H1.out.c0
      obtain ⟨x0, x1, x2, x3⟩ := X.out.below HB.out
      by_cases hlt : i < m
      · have i1 : (i : Int) < (m : Int) := by omega
        have i2 : (0 : Int) ≤ (i : Int) := by omega
        obtain ⟨b, off, q, rfl, _, hq, hql, d0, d1, d2, d3⟩ := H1.out.lw.at (by omega) hlt
        have QP : Hid ((l.map Pv.pc)[i]? = some q.pc) := by show _ = _; rw [List.getElem?_map, hq]; rfl
        have QL := hide hql
        obtain ⟨r1, r2, r3, r4, _⟩ := H.out.lw.each q hql
        have OQ : Hid (Sq u q.a q.m q.cp q.b) := (bi_row (P := fun _ => True) r2 r3 r1 (fun _ _ => trivial)).1
        have QM := hide r4
        clear hq hql r1 r2 r3 r4
        by_cases h_of : q.of = p.of
        · by_cases h_sum : q.sum = p.sum
          · by_cases h_k : q.k = p.k
            · by_cases h_b : q.b = p.b
              · have EQ : Hid (∀ y : World, Below u.heap.size u y → Calls Tryd.prog 16 #[.slice q.a q.m q.cp, .slice p.a p.m p.cp] y fun e w' => e = .returned (.bool true) ∧ Below y.heap.size y w') := fun y hy => bytes_lit (OQ.out.below hy) (SP.out.below hy) (by have := QM.out; omega) (decide_eq_true h_b)
                have hgood : q.of = p.of ∧ q.sum = p.sum ∧ (q.k = p.k → q.b = p.b) := ⟨h_of, h_sum, fun _ => h_b⟩
                have IV2 : Hid (∀ j, j < i + 1 → ∀ r, (l.map Pv.pc)[j]? = some r → r.of = p.of ∧ r.sum = p.sum ∧ (r.k = p.k → r.b = p.b)) := fun j hj r hr2 => by
                  by_cases ej : j = i
                  · subst ej
                    rw [QP.out] at hr2
                    cases hr2
                    exact hgood
                  · exact IV.out j (by omega) r hr2
                clear hgood
                have k_of : (q.of == p.of) = true := by simpa using h_of
                have n_of : (q.of != p.of) = false := by simpa using h_of
                have k_sum : (q.sum == p.sum) = true := by simpa using h_sum
                have n_sum : (q.sum != p.sum) = false := by simpa using h_sum
                have k_k : (q.k == p.k) = true := by simpa using h_k
                have n_k : (q.k != p.k) = false := by simpa using h_k
                clear h_of h_sum h_k h_b
                go_wp2_with fail
                refine wp_region_cells u [(⟨R, 0, none⟩, .slice (some ⟨b, off, none⟩) m c), (⟨N, 0, none⟩, .int .i64 p.k), (⟨N, 1, none⟩, .int .i64 p.of), (⟨N, 2, none⟩, .int .u32 p.sum), (⟨N, 3, none⟩, .slice p.a p.m p.cp), (⟨b, off + i * 4, none⟩, .int .i64 q.k), (⟨b, off + i * 4 + 1, none⟩, .int .i64 q.of), (⟨b, off + i * 4 + 2, none⟩, .int .u32 q.sum), (⟨b, off + i * 4 + 3, none⟩, .slice q.a q.m q.cp)] (by kernel_rfl) (by kernel_rfl) HB.out (by exact ⟨c0, x0, x1, x2, x3, d0, d1, d2, d3, trivial⟩) ?_
                intro hne qq
                simp only [AllCells, and_true] at qq
                clear c0 x0 x1 x2 x3 d0 d1 d2 d3
                repeat (go_big_quiet_step (first | (go_at_call 16; exact Held.call _ (EQ.out _ (Held.below _)))))
                refine wpQuiet_nil ?_
                rintro _ ⟨y, rfl⟩
                have BQ : Hid (Below u.heap.size u y.x) := y.below
                clear qq hne
                go_wp2_with fail
                go_roundw
                case rel => exact ⟨i + 1, by omega, by go_num, BQ, IV2⟩
                case measure => simp [intOf]; omega
              · have EQ : Hid (∀ y : World, Below u.heap.size u y → Calls Tryd.prog 16 #[.slice q.a q.m q.cp, .slice p.a p.m p.cp] y fun e w' => e = .returned (.bool false) ∧ Below y.heap.size y w') := fun y hy => bytes_lit (OQ.out.below hy) (SP.out.below hy) (by have := QM.out; omega) (decide_eq_false h_b)
                have hbad : ¬ (q.of = p.of ∧ q.sum = p.sum ∧ (q.k = p.k → q.b = p.b)) := fun e => h_b (e.2.2 h_k)
                have PE : Hid (putE s p.pc = 120) := by
                  show _ = _
                  have hf : fitsB s p.pc = false := by
                    rw [rl_fits HR.out]
                    exact decide_eq_false (fun e => hbad (e q.pc (List.mem_map.2 ⟨q, QL.out, rfl⟩)))
                  unfold putE
                  rw [HMAY.out, hf]
                  rfl
                clear hbad
                have k_of : (q.of == p.of) = true := by simpa using h_of
                have n_of : (q.of != p.of) = false := by simpa using h_of
                have k_sum : (q.sum == p.sum) = true := by simpa using h_sum
                have n_sum : (q.sum != p.sum) = false := by simpa using h_sum
                have k_k : (q.k == p.k) = true := by simpa using h_k
                have n_k : (q.k != p.k) = false := by simpa using h_k
                clear h_of h_sum h_k h_b
                go_wp2_with fail
                refine wp_region_cells u [(⟨R, 0, none⟩, .slice (some ⟨b, off, none⟩) m c), (⟨N, 0, none⟩, .int .i64 p.k), (⟨N, 1, none⟩, .int .i64 p.of), (⟨N, 2, none⟩, .int .u32 p.sum), (⟨N, 3, none⟩, .slice p.a p.m p.cp), (⟨b, off + i * 4, none⟩, .int .i64 q.k), (⟨b, off + i * 4 + 1, none⟩, .int .i64 q.of), (⟨b, off + i * 4 + 2, none⟩, .int .u32 q.sum), (⟨b, off + i * 4 + 3, none⟩, .slice q.a q.m q.cp)] (by kernel_rfl) (by kernel_rfl) HB.out (by exact ⟨c0, x0, x1, x2, x3, d0, d1, d2, d3, trivial⟩) ?_
                intro hne qq
                simp only [AllCells, and_true] at qq
                clear c0 x0 x1 x2 x3 d0 d1 d2 d3
                repeat (go_big_quiet_step (first | (go_at_call 16; exact Held.call _ (EQ.out _ (Held.below _)))))
                refine wpQuiet_nil ?_
                rintro _ ⟨y, rfl⟩
                have BQ : Hid (Below u.heap.size u y.x) := y.below
                clear qq hne
                go_wp2_with fail
                go_ret
                rw [PE.out, putS_ne (by rw [PE.out]; decide)]
                exact ⟨rfl, _, _, _, l, (H.out.below BQ.out), HR.out, (below_step BU.out BQ.out).mono hB0.out, Chg.of_below (below_step BU.out BQ.out) _, fun k hk => .inl hk, fun q hq => .inl hq⟩
            · have hgood : q.of = p.of ∧ q.sum = p.sum ∧ (q.k = p.k → q.b = p.b) := ⟨h_of, h_sum, fun e => absurd e h_k⟩
              have IV2 : Hid (∀ j, j < i + 1 → ∀ r, (l.map Pv.pc)[j]? = some r → r.of = p.of ∧ r.sum = p.sum ∧ (r.k = p.k → r.b = p.b)) := fun j hj r hr2 => by
                by_cases ej : j = i
                · subst ej
                  rw [QP.out] at hr2
                  cases hr2
                  exact hgood
                · exact IV.out j (by omega) r hr2
              clear hgood
              have k_of : (q.of == p.of) = true := by simpa using h_of
              have n_of : (q.of != p.of) = false := by simpa using h_of
              have k_sum : (q.sum == p.sum) = true := by simpa using h_sum
              have n_sum : (q.sum != p.sum) = false := by simpa using h_sum
              have k_k : (q.k == p.k) = false := by simpa using h_k
              have n_k : (q.k != p.k) = true := by simpa using h_k
              clear h_of h_sum h_k
              go_wp2_with fail
              refine wp_region_cells u [(⟨R, 0, none⟩, .slice (some ⟨b, off, none⟩) m c), (⟨N, 0, none⟩, .int .i64 p.k), (⟨N, 1, none⟩, .int .i64 p.of), (⟨N, 2, none⟩, .int .u32 p.sum), (⟨N, 3, none⟩, .slice p.a p.m p.cp), (⟨b, off + i * 4, none⟩, .int .i64 q.k), (⟨b, off + i * 4 + 1, none⟩, .int .i64 q.of), (⟨b, off + i * 4 + 2, none⟩, .int .u32 q.sum), (⟨b, off + i * 4 + 3, none⟩, .slice q.a q.m q.cp)] (by kernel_rfl) (by kernel_rfl) HB.out (by exact ⟨c0, x0, x1, x2, x3, d0, d1, d2, d3, trivial⟩) ?_
              intro hne qq
              simp only [AllCells, and_true] at qq
              clear c0 x0 x1 x2 x3 d0 d1 d2 d3
              repeat (go_big_quiet_step (fail))
              refine wpQuiet_nil ?_
              rintro _ ⟨y, rfl⟩
              have BQ : Hid (Below u.heap.size u y.x) := y.below
              clear qq hne
              go_wp2_with fail
              go_roundw
              case rel => exact ⟨i + 1, by omega, by go_num, BQ, IV2⟩
              case measure => simp [intOf]; omega
          · have hbad : ¬ (q.of = p.of ∧ q.sum = p.sum ∧ (q.k = p.k → q.b = p.b)) := fun e => h_sum e.2.1
            have PE : Hid (putE s p.pc = 120) := by
              show _ = _
              have hf : fitsB s p.pc = false := by
                rw [rl_fits HR.out]
                exact decide_eq_false (fun e => hbad (e q.pc (List.mem_map.2 ⟨q, QL.out, rfl⟩)))
              unfold putE
              rw [HMAY.out, hf]
              rfl
            clear hbad
            have k_of : (q.of == p.of) = true := by simpa using h_of
            have n_of : (q.of != p.of) = false := by simpa using h_of
            have k_sum : (q.sum == p.sum) = false := by simpa using h_sum
            have n_sum : (q.sum != p.sum) = true := by simpa using h_sum
            clear h_of h_sum
            go_wp2_with fail
            refine wp_region_cells u [(⟨R, 0, none⟩, .slice (some ⟨b, off, none⟩) m c), (⟨N, 0, none⟩, .int .i64 p.k), (⟨N, 1, none⟩, .int .i64 p.of), (⟨N, 2, none⟩, .int .u32 p.sum), (⟨N, 3, none⟩, .slice p.a p.m p.cp), (⟨b, off + i * 4, none⟩, .int .i64 q.k), (⟨b, off + i * 4 + 1, none⟩, .int .i64 q.of), (⟨b, off + i * 4 + 2, none⟩, .int .u32 q.sum), (⟨b, off + i * 4 + 3, none⟩, .slice q.a q.m q.cp)] (by kernel_rfl) (by kernel_rfl) HB.out (by exact ⟨c0, x0, x1, x2, x3, d0, d1, d2, d3, trivial⟩) ?_
            intro hne qq
            simp only [AllCells, and_true] at qq
            clear c0 x0 x1 x2 x3 d0 d1 d2 d3
            repeat (go_big_quiet_step (fail))
            refine wpQuiet_nil ?_
            rintro _ ⟨y, rfl⟩
            have BQ : Hid (Below u.heap.size u y.x) := y.below
            clear qq hne
            go_wp2_with fail
            go_ret
            rw [PE.out, putS_ne (by rw [PE.out]; decide)]
            exact ⟨rfl, _, _, _, l, (H.out.below BQ.out), HR.out, (below_step BU.out BQ.out).mono hB0.out, Chg.of_below (below_step BU.out BQ.out) _, fun k hk => .inl hk, fun q hq => .inl hq⟩
        · have hbad : ¬ (q.of = p.of ∧ q.sum = p.sum ∧ (q.k = p.k → q.b = p.b)) := fun e => h_of e.1
          have PE : Hid (putE s p.pc = 120) := by
            show _ = _
            have hf : fitsB s p.pc = false := by
              rw [rl_fits HR.out]
              exact decide_eq_false (fun e => hbad (e q.pc (List.mem_map.2 ⟨q, QL.out, rfl⟩)))
            unfold putE
            rw [HMAY.out, hf]
            rfl
          clear hbad
          have k_of : (q.of == p.of) = false := by simpa using h_of
          have n_of : (q.of != p.of) = true := by simpa using h_of
          clear h_of
          go_wp2_with fail
          refine wp_region_cells u [(⟨R, 0, none⟩, .slice (some ⟨b, off, none⟩) m c), (⟨N, 0, none⟩, .int .i64 p.k), (⟨N, 1, none⟩, .int .i64 p.of), (⟨N, 2, none⟩, .int .u32 p.sum), (⟨N, 3, none⟩, .slice p.a p.m p.cp), (⟨b, off + i * 4, none⟩, .int .i64 q.k), (⟨b, off + i * 4 + 1, none⟩, .int .i64 q.of), (⟨b, off + i * 4 + 2, none⟩, .int .u32 q.sum), (⟨b, off + i * 4 + 3, none⟩, .slice q.a q.m q.cp)] (by kernel_rfl) (by kernel_rfl) HB.out (by exact ⟨c0, x0, x1, x2, x3, d0, d1, d2, d3, trivial⟩) ?_
          intro hne qq
          simp only [AllCells, and_true] at qq
          clear c0 x0 x1 x2 x3 d0 d1 d2 d3
          repeat (go_big_quiet_step (fail))
          refine wpQuiet_nil ?_
          rintro _ ⟨y, rfl⟩
          have BQ : Hid (Below u.heap.size u y.x) := y.below
          clear qq hne
          go_wp2_with fail
          go_ret
          rw [PE.out, putS_ne (by rw [PE.out]; decide)]
          exact ⟨rfl, _, _, _, l, (H.out.below BQ.out), HR.out, (below_step BU.out BQ.out).mono hB0.out, Chg.of_below (below_step BU.out BQ.out) _, fun k hk => .inl hk, fun q hq => .inl hq⟩
      · have him : i = m := by omega
        have PE : Hid (putE s p.pc = 0) := by
          show _ = _
          have hf : fitsB s p.pc = true := by
            rw [rl_fits HR.out]
            refine decide_eq_true (fun q hq => ?_)
            obtain ⟨j, hj⟩ := List.getElem?_of_mem hq
            have h1 := (List.getElem?_eq_some_iff.1 hj).1
            have h2 := H.out.lw.len
            simp at h1
            exact IV.out j (by omega) q hj
          exact putE_zero.2 ⟨HMAY.out, hf⟩
        have RL2 := hide (rl_put HR.out (p := p.pc) PK.out.sum PE.out)
        have i1 : ¬ (i : Int) < (m : Int) := by omega
        have CH := hide (rhas_any H1.out (by omega) p.k)
        cases hh : hasI (l.map Pv.pc) p.k with
        | some j =>
          rw [has_pos hh] at CH
          have g1 : ¬ (j : Int) < 0 := by omega
          have RL3 : Hid (Rl (putS s p.pc) (l.map Pv.pc)) := by
            have := RL2.out
            unfold addL at this
            rw [if_neg (by simp only [Pv.pc] at hh ⊢; rw [hh]; simp)] at this
            exact this
          clear hh
          go_wp2_with fail
          refine CH.out.mono ?_
          rintro e w5 ⟨rfl, rfl⟩
          go_wp2_with fail
          go_ret
          rw [PE.out]
          exact ⟨rfl, _, _, _, l, H1.out, RL3.out, (below_step BU.out HB.out).mono hB0.out, Chg.of_below (below_step BU.out HB.out) _, fun k hk => .inl hk, fun q hq => .inl hq⟩
        | none =>
          rw [has_neg hh] at CH
          have RL3 : Hid (Rl (putS s p.pc) (l.map Pv.pc ++ [p.pc])) := by
            have := RL2.out
            unfold addL at this
            rw [if_pos (by simp only [Pv.pc] at hh ⊢; exact hh)] at this
            exact this
          clear hh
          obtain ⟨a2, c2, w2, hr2, hb2, ho2⟩ := copy_row 30 (SP.out.below HB.out) (by have := PM.out; omega)
          have hwN : w.heap.size = N := EN.out.symm
          have LN : N < u.heap.size := (Array.getElem?_eq_some_iff.1 RN.out).1
          have LNr : N < wr.heap.size := Nat.lt_of_lt_of_le LN HB.out.size
          have rN : w2.heap[N]? = some (.cells #[.int .i64 p.k, .int .i64 p.of, .int .u32 p.sum, .slice p.a p.m p.cp] 32 (0, 0)) := (hb2.block N LNr).trans ((HB.out.block N LN).trans RN.out)
          have y3 : w2.cell? ⟨N, 3, none⟩ = some (.slice p.a p.m p.cp) := by rw [cell_of_row _ _ _ _ _ _ rN]; rfl
          have fN : ∀ o, w2.frozen? ⟨N, o, none⟩ = false := fun o => by simp [World.frozen?, rN]
          obtain ⟨w3, e3⟩ : ∃ w3, w3 = w2.setCell ⟨N, 3, none⟩ (.slice a2 p.m c2) := ⟨_, rfl⟩
          have rN3 : w3.heap[N]? = some (.cells #[.int .i64 p.k, .int .i64 p.of, .int .u32 p.sum, .slice a2 p.m c2] 32 (0, 0)) := by rw [e3]; exact put_row rN
          have BW2 : Below w.heap.size w w2 := below_step (below_step BU.out HB.out) hb2
          have BW3 : Hid (Below w.heap.size w w3) := by rw [e3]; exact BW2.setCell (p := ⟨N, 3, none⟩) (by rw [EN.out]; exact Nat.le_refl _) _
          have R3 := hide (H0.out.below BW3.out)
          have ho3 : w3.ownsRow wr.heap.size 5 1 (.slice a2 p.m c2) p.m (B8.vals p.b) := row_same ho2 (fun k hk => by
            have := (ho2.lt k hk).1
            rw [e3]
            exact Below.heap_setCell _ _ _ _ (by simp; omega))
          have OD : w3.drew.ownsRow B 5 1 (.slice a2 p.m c2) p.m (B8.vals p.b) := row_baseT (w := w3.drew) (B := wr.heap.size) ho3 (Nat.le_trans hB0.out (Nat.le_trans BU.out.size HB.out.size))
          have LD : Lw w3.drew B a m c l := R3.out.lw.below (Below.refl _ _).drew
          obtain ⟨g, cp, w5, hr3, hl5, hb5, hc5, hloc⟩ := lw_add2 LD (by omega) (Nat.le_trans hB0.out BW3.out.size) (p := ⟨p.k, p.of, p.sum, a2, p.m, c2, p.b⟩) ⟨OD, SP.out.length, SP.out.wf, PM.out, PK.out.k, PK.out.of, PK.out.sum.1, PK.out.sum.2⟩ 22
          have rR3 : w3.drew.heap[R]? = some (.cells #[.slice a m c] 27 (0, 0)) := R3.out.row
          have LR3 : R < w3.drew.heap.size := (Array.getElem?_eq_some_iff.1 rR3).1
          have rR5 : w5.heap[R]? = some (.cells #[.slice a m c] 27 (0, 0)) := (hc5.block R LR3 (fun e => other_block LD.row e rR3 (by decide) rfl)).trans rR3
          have LOC : Hid (∀ k, (Value.slice (some ⟨g, 0, none⟩) (m + 1) cp).ownBlock = some k → (Value.slice a m c).ownBlock = some k ∨ w.heap.size ≤ k) := fun k hk => by
            obtain rfl : g = k := by simpa [Value.ownBlock] using hk
            rcases hloc with e | e
            · exact .inl e
            · exact .inr (Nat.le_trans BW3.out.size e)
          have NEW : Hid (∀ q ∈ l ++ [(⟨p.k, p.of, p.sum, a2, p.m, c2, p.b⟩ : Pv)], q ∈ l ∨ ∀ k, (Value.slice q.a q.m q.cp).ownBlock = some k → w.heap.size ≤ k) := fun q hq => by
            have : q ∈ l ∨ q = ⟨p.k, p.of, p.sum, a2, p.m, c2, p.b⟩ := by simpa using hq
            rcases this with hq | rfl
            · exact .inl hq
            · exact .inr (fun k hk => Nat.le_trans (Nat.le_trans BU.out.size HB.out.size) (ho2.lt k hk).1)
          have z0 : w5.cell? ⟨R, 0, none⟩ = some (.slice a m c) := by rw [cell_of_row _ _ _ _ _ _ rR5]; rfl
          have z1 : w5.frozen? ⟨R, 0, none⟩ = false := by simp [World.frozen?, rR5]
          have FIN : Hid (Rb (w5.setCell ⟨R, 0, none⟩ (.slice (some ⟨g, 0, none⟩) (m + 1) cp)) B R (some ⟨g, 0, none⟩) (m + 1) cp (l ++ [⟨p.k, p.of, p.sum, a2, p.m, c2, p.b⟩]) ∧ Below B w (w5.setCell ⟨R, 0, none⟩ (.slice (some ⟨g, 0, none⟩) (m + 1) cp)) ∧ Chg (RM R a m c) w (w5.setCell ⟨R, 0, none⟩ (.slice (some ⟨g, 0, none⟩) (m + 1) cp))) := by
            refine ⟨⟨put_row rR5, hl5.setOther rR5 _, R3.out.base⟩, ?_, ?_⟩
            · exact (((BW3.out.drew.mono hB0.out).trans hb5)).setCell (p := ⟨R, 0, none⟩) R3.out.base _
            · exact ((Chg.of_below BW3.out.drew (RM R a m c)).trans hc5 (fun k _ hk => .inr hk)).setCell (p := ⟨R, 0, none⟩) (.inl (.inl rfl)) _
          have q0 : w3.cell? ⟨R, 0, none⟩ = some (.slice a m c) := R3.out.c0
          have v0 : w3.cell? ⟨N, 0, none⟩ = some (.int .i64 p.k) := by rw [cell_of_row _ _ _ _ _ _ rN3]; rfl
          have v1 : w3.cell? ⟨N, 1, none⟩ = some (.int .i64 p.of) := by rw [cell_of_row _ _ _ _ _ _ rN3]; rfl
          have v2 : w3.cell? ⟨N, 2, none⟩ = some (.int .u32 p.sum) := by rw [cell_of_row _ _ _ _ _ _ rN3]; rfl
          have v3 : w3.cell? ⟨N, 3, none⟩ = some (.slice a2 p.m c2) := by rw [cell_of_row _ _ _ _ _ _ rN3]; rfl
          have qa : (w3.alloc (.cells #[.int .i64 p.k, .int .i64 p.of, .int .u32 p.sum, .slice a2 p.m c2] 32)).cell? ⟨R, 0, none⟩ = some (.slice a m c) := by rw [World.cell?_alloc_lt w3 _ _ (World.block_lt_of_cell? _ _ q0)]; exact q0
          have E3 := hide e3
          clear hb2 ho2 ho3 OD LD hl5 hb5 hc5 rR3 rR5 rN rN3 BW2 e3 LNr LN LR3 hwN
          go_wp2_with fail
          refine CH.out.mono ?_
          rintro e w4 ⟨rfl, rfl⟩
          go_wp2_with (at_builtin; refine wp_append_run _ rfl _ _ 30 rfl _ _ hr2 ?_)
          rw [← E3.out]
          go_region_law (refine step_append_runs _ (by rfl) (.tmp 82) (.tmp 84) 22 (by rfl) hr3 ?_)
          all_goals
            go_wp2_with fail
            go_ret
            rw [PE.out]
            refine ⟨rfl, _, _, _, _, FIN.out.1, ?_, FIN.out.2.1, FIN.out.2.2, LOC.out, NEW.out⟩
            rw [List.map_append]
            exact RL3.out
end Go.Proofs.YtanfmpeblhegpaaDoor
