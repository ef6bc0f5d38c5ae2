/- Cut of package chunk: the pieces of some bytes. Condition: the table of the half bytes holds its sixteen numbers. -/
import Derived.Test.YtanfmpeblhegpaaDoorChuPut
import Derived.Deep.Cut
namespace Go.Proofs.YtanfmpeblhegpaaDoor
open Go.ChangeShapes Go.WideShapes Go.ChangeAt Go.RowKit B8 Ck
set_option linter.unusedVariables false

theorem pieceinfo : (Tryd.prog.info? 32).map (fun i => (i.zero, i.size, i.bytes)) = some (some (.agg #[.int .i64 0, .int .i64 0, .int .u32 0, .slice none 0 0]), 4, 48) := by kernel_rfl
theorem isP {w : World} {B n k : Nat} {v : Value} {xs : List Value} (h : w.ownsRow B 32 4 v n xs) (hk : v.ownBlock = some k) : ∃ cs, w.heap[k]? = some (.cells cs 32 (0, 0)) := by
  obtain ⟨_, ⟨e, _⟩ | ⟨g, cp, cur, e, _, hg, _⟩⟩ := h
  · rw [e] at hk; cases hk
  · rw [e] at hk
    have : g = k := by simpa [Value.ownBlock] using hk
    exact ⟨_, this ▸ hg⟩
theorem isU {w : World} {B n k : Nat} {v : Value} {xs : List Value} (h : w.ownsRow B 5 1 v n xs) (hk : v.ownBlock = some k) : ∃ cs, w.heap[k]? = some (.cells cs 5 (0, 0)) := by
  obtain ⟨_, ⟨e, _⟩ | ⟨g, cp, cur, e, _, hg, _⟩⟩ := h
  · rw [e] at hk; cases hk
  · rw [e] at hk
    have : g = k := by simpa [Value.ownBlock] using hk
    exact ⟨_, this ▸ hg⟩
theorem Lw.base {w : World} {B B' : Nat} {a : Option Addr} {m c : Nat} {l : List Pv} (h : Lw w B a m c l) (hb : B' ≤ B) : Lw w B' a m c l :=
  ⟨row_baseT h.row hb, h.len, fun p hp => ⟨row_baseT (h.each p hp).1 hb, (h.each p hp).2⟩⟩
/-- one piece more -/
theorem lw_add {w : World} {B : Nat} {a : Option Addr} {m c : Nat} {l : List Pv} (h : Lw w B a m c l) (hm : m ≤ 4398046510976) (hB : B ≤ w.heap.size) {p : Pv}
    (hp : w.ownsRow B 5 1 (.slice p.a p.m p.cp) p.m (B8.vals p.b) ∧ p.b.length = p.m ∧ wfs p.b ∧ p.m ≤ 140737488351232 ∧ (Lit.int .i64 p.k).wf = true ∧ (Lit.int .i64 p.of).wf = true ∧ 0 ≤ p.sum ∧ p.sum ≤ 4294967295) (ty : TypeId) :
    ∃ g cp w', (Builtin.append_ #[22, 22] ty #[.slice a m c, .slice (some ⟨w.heap.size, 0, none⟩) 1 1]).run Tryd.prog (w.alloc (.cells #[.int .i64 p.k, .int .i64 p.of, .int .u32 p.sum, .slice p.a p.m p.cp] 32)) = .ok (.slice (some ⟨g, 0, none⟩) (m + 1) cp) w'
      ∧ Lw w' B (some ⟨g, 0, none⟩) (m + 1) cp (l ++ [p]) ∧ Below B w w' ∧ Chg (fun k => (Value.slice a m c).ownBlock = some k) w w' := by
  obtain ⟨i0, hi, hz0, hz1, hz2⟩ := info_parts pieceinfo
  obtain ⟨g, cp, w', hr, ho, hc, hb, _⟩ := row_add (ty := ty) Tryd.underlying22 hi hz0 hz1 hz2 rfl (by omega) h.row #[.int .i64 p.k, .int .i64 p.of, .int .u32 p.sum, .slice p.a p.m p.cp] rfl (fun u hu => by simp at hu; rcases hu with rfl | rfl | rfl | rfl <;> rfl) (by omega) (by omega) hB
  refine ⟨g, cp, w', hr, ⟨?_, by simp [h.len], fun q hq => ?_⟩, hb, hc⟩
  · rw [pcells_append]
    simpa [pcells, Pv.cells] using ho
  · have hq' : w.ownsRow B 5 1 (.slice q.a q.m q.cp) q.m (B8.vals q.b) ∧ q.b.length = q.m ∧ wfs q.b ∧ q.m ≤ 140737488351232 ∧ (Lit.int .i64 q.k).wf = true ∧ (Lit.int .i64 q.of).wf = true ∧ 0 ≤ q.sum ∧ q.sum ≤ 4294967295 := by
      have : q ∈ l ∨ q = p := by simpa using hq
      rcases this with hq | rfl
      · exact h.each q hq
      · exact hp
    refine ⟨row_same hq'.1 (fun k hk => hc.block k (hq'.1.lt k hk).2 (fun e2 => ?_)), hq'.2⟩
    obtain ⟨cs, e⟩ := isP h.row e2
    obtain ⟨cs', e'⟩ := isU hq'.1 hk
    rw [e] at e'
    simp at e'
/-- a part of some bytes -/
def partA (a : Option Addr) (cap lo : Nat) : Option Addr := if cap = lo then a else a.map (fun x => x.add lo)
theorem sq_part {w : World} {a : Option Addr} {len cap : Nat} {bs : List Int} (h : Sq w a len cap bs) {lo hi : Nat} (h1 : lo ≤ hi) (h2 : hi ≤ len) : Sq w (partA a cap lo) (hi - lo) (cap - lo) ((bs.drop lo).take (hi - lo)) := by
  have hl := h.length
  have hc := h.lecap
  refine ⟨by simp; omega, by omega, fun e => ?_, fun h0 => ?_, wfs_take (wfs_drop h.wf lo) _⟩
  · unfold partA at e
    split at e
    · omega
    · have : a = none := by simpa using e
      have := h.nil this
      omega
  · obtain ⟨b, off, rfl, hcl⟩ := h.cells (by omega)
    refine ⟨b, off + lo, ?_, fun j hj => ?_⟩
    · unfold partA
      rw [if_neg (by omega)]
      simp [Addr.add]
    · rw [Nat.add_assoc, hcl (lo + j) (by omega), List.getElem?_take, if_pos hj, List.getElem?_drop]
set_option maxRecDepth 100000 in
theorem cut_long {w : World} {a : Option Addr} {len cap : Nat} (h : 8192 < len) :
    Calls Tryd.prog 17 #[.slice a len cap] w fun e w' => e = .returned (.tuple #[.slice none 0 0, .int .i64 22]) ∧ w' = w := by
  have h1 : (8192 : Int) < (len : Int) := by omega
  go_enter Tryd.func17, Tryd.ntmps17
  go_wp2_with fail
  go_returns
  exact ⟨rfl, rfl⟩
set_option maxRecDepth 100000 in
set_option maxHeartbeats 1000000 in
theorem cut_any {w : World} {a : Option Addr} {len cap : Nat} {bs : List Int} (h : Sq w a len cap bs) (ht : Tab w) (hlen : len ≤ 8192) :
    Calls Tryd.prog 17 #[.slice a len cap] w fun e w' => ∃ a' c' l, e = .returned (.tuple #[.slice a' (cutN bs) c', .int .i64 0]) ∧ Below w.heap.size w w' ∧ Lw w' w.heap.size a' (cutN bs) c' l ∧ l.map Pv.pc = cutL bs := by
  have H := hide h
  have CP := hide (pieces_any len (by omega) w)
  have CS := hide (csum_sq h ht (by omega))
  obtain ⟨n, en⟩ : ∃ n : Nat, n = cutN bs := ⟨_, rfl⟩
  have hn2 : n ≤ 16 := by rw [en]; unfold cutN; rw [h.length]; omega
  have NL : Hid (∀ k : Nat, k < n → k * 512 ≤ len) := fun k hk => by rw [en] at hk; unfold cutN at hk; rw [h.length] at hk; omega
  have ecp : (max 1 ((len + 511) / 512) : Nat) = n := by rw [en]; unfold cutN; rw [h.length]
  rw [ecp] at CP
  obtain ⟨F, eF⟩ : ∃ F : Nat, F = fsum bs := ⟨_, rfl⟩
  have hF : F < 4294967296 := by rw [eF]; exact fsum_lt bs
  rw [← eF] at CS
  have PJ : Hid (∀ j : Nat, cutP bs j = ⟨j, n, F, (bs.drop (j * 512)).take 512⟩) := fun j => by rw [en, eF]; rfl
  have EL : Hid (cutL bs = (List.range n).map (cutP bs)) := by show _ = _; rw [en]; rfl
  have hlc := h.lecap
  have HLN := hide h.length
  rw [← en]
  obtain ⟨N, eN⟩ : ∃ N, N = w.heap.size := ⟨_, rfl⟩
  obtain ⟨u, eu⟩ : ∃ u, u = w.alloc (.cells #[.int .i64 n, .int .u32 F] 45) := ⟨_, rfl⟩
  have BU : Hid (Below w.heap.size w u) := by rw [eu]; exact below_alloc (Below.refl _ _) _
  have RU : Hid (u.heap[N]? = some (.cells #[.int .i64 n, .int .u32 F] 45 (0, 0))) := by rw [eu, eN]; exact heap_alloc_new w _
  have EU := hide eu
  have EN := hide eN
  clear h ht en ecp eF eN eu
  go_enter Tryd.func17, Tryd.ntmps17
  go_wp2_with fail
  refine CP.out.mono ?_
  rintro e w1 ⟨rfl, rfl⟩
  go_wp2_with fail
  refine CS.out.mono ?_
  rintro e w1 ⟨rfl, rfl⟩
  go_wp2_with fail
  rw [← EU.out, ← EN.out]
  clear CP CS
  go_loopw [5, 6, 7, 8, 20] (fun t _ _ _ x wr => ∃ (k : Nat) (a1 : Option Addr) (c1 : Nat) (l1 : List Pv), k ≤ n ∧ x = .int .i64 k ∧ t = .slice a1 k c1 ∧ Hid (Below u.heap.size u wr) ∧ Hid (Lw wr u.heap.size a1 k c1 l1) ∧ Hid (l1.map Pv.pc = (List.range k).map (cutP bs))) (fun _ _ _ _ x _ => n - (intOf x).toNat)
  case atStart => exact ⟨0, none, 0, [], Nat.zero_le _, rfl, rfl, Below.refl _ _, lw_nil _ _, rfl⟩
  case round =>
    obtain ⟨k, a1, c1, l1, hk, rfl, rfl, HB, HL, HE⟩ := hrel
    by_cases hlt : k < n
    · have i1 : (k : Int) < (n : Int) := by omega
      have KL := NL.out k hlt
      obtain ⟨lo, elo⟩ : ∃ lo : Nat, lo = k * 512 := ⟨_, rfl⟩
      obtain ⟨h0, eh0⟩ : ∃ h0 : Nat, h0 = lo + 512 := ⟨_, rfl⟩
      have f1 : IntKind.i64.wrap ((k : Int) * 512) = (lo : Int) := by rw [IntKind.wrap_i64]; omega
      have f2 : IntKind.i64.wrap ((lo : Int) + 512) = (h0 : Int) := by rw [IntKind.wrap_i64]; omega
      have RW : Hid (wr.heap[N]? = some (.cells #[.int .i64 n, .int .u32 F] 45 (0, 0))) := (HB.out.block _ (Array.getElem?_eq_some_iff.1 RU.out).1).trans RU.out
      have y0 : wr.cell? ⟨N, 0, none⟩ = some (.int .i64 n) := by rw [cell_of_row _ _ _ _ _ _ RW.out]; rfl
      have y1 : wr.cell? ⟨N, 1, none⟩ = some (.int .u32 F) := by rw [cell_of_row _ _ _ _ _ _ RW.out]; rfl
      have j1 : (0 : Int) ≤ (lo : Int) := by omega
      by_cases hh : h0 ≤ len
      · have j2 : (h0 : Int) ≤ (len : Int) := by omega
        have j3 : (lo : Int) ≤ (h0 : Int) := by omega
        have j4 : (h0 : Int) ≤ (cap : Int) := by omega
        have SP : Hid (Sq wr.drew (partA a cap lo) (h0 - lo) (cap - lo) ((bs.drop lo).take (h0 - lo))) := (sq_part ((H.out.below BU.out).below HB.out) (lo := lo) (hi := h0) (by omega) hh).drew 1
        have PB : Hid ((bs.drop lo).take (h0 - lo) = (bs.drop (k * 512)).take 512) := by
          show _ = _
          have e3 := HLN.out
          rw [elo]; congr 1; omega
        have PM : Hid (h0 - lo ≤ 512) := by show _ ≤ _; omega
        have PM2 : Hid (h0 - lo ≤ 140737488351232) := by show _ ≤ _; omega
        have FS : Hid (0 ≤ (F : Int) ∧ (F : Int) ≤ 4294967295) := ⟨by omega, by omega⟩
        have K4 : Hid (k ≤ 4398046510976) := by show _ ≤ _; omega
        have ELO := hide elo
        have EH0 := hide eh0
        have CB := hide (bclone_big SP.out (by have := PM.out; omega))
        have KW : Hid ((Lit.int .i64 (k : Int)).wf = true) := wf64 (by omega) (by omega)
        have NW : Hid ((Lit.int .i64 (n : Int)).wf = true) := wf64 (by omega) (by omega)
        have RN : Hid ((List.range (k + 1)).map (cutP bs) = (List.range k).map (cutP bs) ++ [cutP bs k]) := by show _ = _; rw [List.range_succ, List.map_append]; rfl
        have Y0 := hide y0
        have Y1 := hide y1
        have LN : Hid (N < u.heap.size) := (Array.getElem?_eq_some_iff.1 RU.out).1
        have C0 : Hid (u.cell? ⟨N, 0, none⟩ = some (.int .i64 n)) := by show _ = _; rw [cell_of_row _ _ _ _ _ _ RU.out]; rfl
        have C1 : Hid (u.cell? ⟨N, 1, none⟩ = some (.int .u32 F)) := by show _ = _; rw [cell_of_row _ _ _ _ _ _ RU.out]; rfl
        clear elo eh0
        obtain ⟨A2, eA⟩ : ∃ A2, partA a cap lo = A2 := ⟨_, rfl⟩
        rw [eA] at CB SP
        unfold partA at eA
        go_wp2_with fail
        go_region_held3 (fun v => v.cell? ⟨N, 0, none⟩ = some (.int .i64 n) ∧ v.cell? ⟨N, 1, none⟩ = some (.int .u32 F)) (first | go_keep | exact ⟨y0, y1⟩ | exact ⟨x0, x1⟩ | exact ⟨z0, z1⟩) ((first | (go_at_call 21; refine CB.out.mono ?_; rintro e w2 ⟨a2, c2, rfl, hb2, hr2⟩; have B2 : Hid (Below u.heap.size u w2) := below_step HB.out.drew hb2; have L2 : Hid (Lw w2 u.heap.size a1 k c1 l1) := HL.out.below (by exact (Below.refl _ _).drew.trans hb2); obtain ⟨g, cp, w3, hr3, hl3, hb3, hc3⟩ := lw_add L2.out K4.out B2.out.size (p := ⟨k, n, F, a2, h0 - lo, c2, (bs.drop lo).take (h0 - lo)⟩) ⟨row_baseT hr2 HB.out.size, SP.out.length, SP.out.wf, PM2.out, KW.out, NW.out, FS.out.1, FS.out.2⟩ 22; have L3 := hide hl3; have B3 := hide (B2.out.trans hb3); have E3 : Hid ((l1 ++ [(⟨k, n, F, a2, h0 - lo, c2, (bs.drop lo).take (h0 - lo)⟩ : Pv)]).map Pv.pc = (List.range (k + 1)).map (cutP bs)) := (by show _ = _; rw [RN.out, List.map_append, HE.out, PJ.out k, ← PB.out]; rfl); have x0 := (B2.out.cell (p := ⟨N, 0, none⟩) LN.out).trans C0.out; have x1 := (B2.out.cell (p := ⟨N, 1, none⟩) LN.out).trans C1.out; have z0 := (B3.out.cell (p := ⟨N, 0, none⟩) LN.out).trans C0.out; have z1 := (B3.out.cell (p := ⟨N, 1, none⟩) LN.out).trans C1.out; clear hb2 hr2 hl3 hb3 hc3) | (refine step_append_runs _ (by rfl) (.tmp 30) (.tmp 42) 22 (by rfl) hr3 ?_)))
        all_goals
          go_wp2_with fail
          go_roundw
          case rel => exact ⟨k + 1, _, _, _, by omega, by go_num, rfl, B3, L3, E3⟩
          case measure => simp [intOf]; omega
      · have j2 : (len : Int) < (h0 : Int) := by omega
        have j3 : (lo : Int) ≤ (len : Int) := by omega
        have j4 : (len : Int) ≤ (cap : Int) := by omega
        have SP : Hid (Sq wr.drew (partA a cap lo) (len - lo) (cap - lo) ((bs.drop lo).take (len - lo))) := (sq_part ((H.out.below BU.out).below HB.out) (lo := lo) (hi := len) (by omega) (Nat.le_refl _)).drew 1
        have PB : Hid ((bs.drop lo).take (len - lo) = (bs.drop (k * 512)).take 512) := by
          show _ = _
          have e3 := HLN.out
          rw [elo, List.take_of_length_le (by simp; omega), List.take_of_length_le (by simp; omega)]
        have PM : Hid (len - lo ≤ 512) := by show _ ≤ _; omega
        have PM2 : Hid (len - lo ≤ 140737488351232) := by show _ ≤ _; omega
        have FS : Hid (0 ≤ (F : Int) ∧ (F : Int) ≤ 4294967295) := ⟨by omega, by omega⟩
        have K4 : Hid (k ≤ 4398046510976) := by show _ ≤ _; omega
        have ELO := hide elo
        have EH0 := hide eh0
        have CB := hide (bclone_big SP.out (by have := PM.out; omega))
        have KW : Hid ((Lit.int .i64 (k : Int)).wf = true) := wf64 (by omega) (by omega)
        have NW : Hid ((Lit.int .i64 (n : Int)).wf = true) := wf64 (by omega) (by omega)
        have RN : Hid ((List.range (k + 1)).map (cutP bs) = (List.range k).map (cutP bs) ++ [cutP bs k]) := by show _ = _; rw [List.range_succ, List.map_append]; rfl
        have Y0 := hide y0
        have Y1 := hide y1
        have LN : Hid (N < u.heap.size) := (Array.getElem?_eq_some_iff.1 RU.out).1
        have C0 : Hid (u.cell? ⟨N, 0, none⟩ = some (.int .i64 n)) := by show _ = _; rw [cell_of_row _ _ _ _ _ _ RU.out]; rfl
        have C1 : Hid (u.cell? ⟨N, 1, none⟩ = some (.int .u32 F)) := by show _ = _; rw [cell_of_row _ _ _ _ _ _ RU.out]; rfl
        clear elo eh0
        obtain ⟨A2, eA⟩ : ∃ A2, partA a cap lo = A2 := ⟨_, rfl⟩
        rw [eA] at CB SP
        unfold partA at eA
        go_wp2_with fail
        go_region_held3 (fun v => v.cell? ⟨N, 0, none⟩ = some (.int .i64 n) ∧ v.cell? ⟨N, 1, none⟩ = some (.int .u32 F)) (first | go_keep | exact ⟨y0, y1⟩ | exact ⟨x0, x1⟩ | exact ⟨z0, z1⟩) ((first | (go_at_call 21; refine CB.out.mono ?_; rintro e w2 ⟨a2, c2, rfl, hb2, hr2⟩; have B2 : Hid (Below u.heap.size u w2) := below_step HB.out.drew hb2; have L2 : Hid (Lw w2 u.heap.size a1 k c1 l1) := HL.out.below (by exact (Below.refl _ _).drew.trans hb2); obtain ⟨g, cp, w3, hr3, hl3, hb3, hc3⟩ := lw_add L2.out K4.out B2.out.size (p := ⟨k, n, F, a2, len - lo, c2, (bs.drop lo).take (len - lo)⟩) ⟨row_baseT hr2 HB.out.size, SP.out.length, SP.out.wf, PM2.out, KW.out, NW.out, FS.out.1, FS.out.2⟩ 22; have L3 := hide hl3; have B3 := hide (B2.out.trans hb3); have E3 : Hid ((l1 ++ [(⟨k, n, F, a2, len - lo, c2, (bs.drop lo).take (len - lo)⟩ : Pv)]).map Pv.pc = (List.range (k + 1)).map (cutP bs)) := (by show _ = _; rw [RN.out, List.map_append, HE.out, PJ.out k, ← PB.out]; rfl); have x0 := (B2.out.cell (p := ⟨N, 0, none⟩) LN.out).trans C0.out; have x1 := (B2.out.cell (p := ⟨N, 1, none⟩) LN.out).trans C1.out; have z0 := (B3.out.cell (p := ⟨N, 0, none⟩) LN.out).trans C0.out; have z1 := (B3.out.cell (p := ⟨N, 1, none⟩) LN.out).trans C1.out; clear hb2 hr2 hl3 hb3 hc3) | (refine step_append_runs _ (by rfl) (.tmp 30) (.tmp 42) 22 (by rfl) hr3 ?_)))
        all_goals
          go_wp2_with fail
          go_roundw
          case rel => exact ⟨k + 1, _, _, _, by omega, by go_num, rfl, B3, L3, E3⟩
          case measure => simp [intOf]; omega
    · obtain rfl : k = n := by omega
      have FIN : Hid (l1.map Pv.pc = cutL bs) := by show _ = _; rw [HE.out, EL.out]
      go_wp2_with fail
      go_returns
      exact ⟨a1, c1, l1, rfl, below_step BU.out HB.out, HL.out.base BU.out.size, FIN.out⟩
end Go.Proofs.YtanfmpeblhegpaaDoor
