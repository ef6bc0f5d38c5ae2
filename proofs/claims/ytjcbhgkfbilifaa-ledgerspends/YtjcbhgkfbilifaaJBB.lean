/- slices.Grow of nothing, slices.Concat of two lists of holders, and without: the landed code. Condition: the lists can be read, and are short. A list of holders without one: the landed code. Condition: the list can be read, and is short. A list of holders with one set in: the landed code. Condition: the list can be read, and is in order. -/
import Derived.Test.YtjcbhgkfbilifaaFAcoOwn
import Derived.Test.YtjcbhgkfbilifaaFFlatInsH
import Derived.Deep.RegionWith
import Derived.Test.YtjcbhgkfbilifaaFAcoPlace
import Derived.Test.YtjcbhgkfbilifaaFAcoFind
namespace Go.Proofs.Ytjcbhgkfbilifaa
open Go.ChangeShapes Go.WideShapes Go.ChangeAt Go.RowKit Go.Lib Ao
set_option linter.unusedVariables false

theorem row_slice {w : World} {B T sz n : Nat} {v : Value} {xs : List Value} (h : w.ownsRow B T sz v n xs) : ∃ a c, v = .slice a n c := by
  obtain ⟨_, ⟨e, e2⟩ | ⟨g, cp, cur, e, _⟩⟩ := h
  · exact ⟨none, 0, by rw [e, e2]⟩
  · exact ⟨_, cp, e⟩
set_option maxRecDepth 100000 in
set_option maxHeartbeats 1000000 in
theorem grow_any (k : Nat) (hk : k ≤ 1000) (w : World) : Calls Try.prog 147 #[.slice none 0 0, .int .i64 k] w fun e w' => ∃ a' c', e = .returned (.slice a' 0 c') ∧ w'.ownsRow w.heap.size 33 4 (.slice a' 0 c') 0 [] ∧ Below w.heap.size w w' := by
  obtain ⟨i0, hi, hz0, hz1, hz2⟩ := info_parts FnH.info
  by_cases h0 : k = 0
  · subst h0
    clear hi hz0 hz1 hz2
    go_enter Try.func147, Try.ntmps147
    go_wp2_with fail
    go_returns
    exact ⟨none, 0, rfl, World.ownsRow_nil _ _ _ _, Below.refl _ _⟩
  · have hr := Lib.run_append_nil_zeros (P := Try.prog) w 24 3 24 33 i0 (.agg #[.int .i64 0, .int .i64 0, .int .i64 0, .int .i64 0]) .i64 .i64 Try.underlying24 Try.underlying3 hi hz0 k (by omega) (by rw [hz1]; omega) (by omega) (by rw [hz2]; omega)
    have hgc := grownCap_le_maxLen w k 0 33 (by unfold maxLen; omega)
    have hge := grownCap_ge w k 0 33
    obtain ⟨g, eg⟩ : ∃ g, g = grownCap w k 0 33 := ⟨_, rfl⟩
    rw [← eg] at hr hgc hge
    obtain ⟨ROW, hROW⟩ : ∃ ROW : Array Value, ROW = Builtin.zeroCells (.agg #[.int .i64 0, .int .i64 0, .int .i64 0, .int .i64 0] : Value).cells k ++ Builtin.zeroCells (.agg #[.int .i64 0, .int .i64 0, .int .i64 0, .int .i64 0] : Value).cells (g - k) := ⟨_, rfl⟩
    have hsz : ROW.size = g * 4 := by
      rw [hROW]
      simp [Builtin.zeroCells, Value.cells]
      omega
    rw [← hROW] at hr
    have HR := hide hsz
    have HG := hide hgc
    have HO : Hid ((w.drew.alloc (.cells ROW 33)).ownsRow w.heap.size 33 4 (.slice (some ⟨w.heap.size, 0, none⟩) 0 g) 0 []) := ⟨by simp, .inr ⟨w.heap.size, g, ROW, rfl, Nat.le_refl _, heap_alloc_new w.drew _, Nat.zero_le _, hgc, hsz, by simp⟩⟩
    have HB : Hid (Below w.heap.size w (w.drew.alloc (.cells ROW 33))) := by
      have X : Below w.heap.size w (w.alloc (.cells ROW 33)) := Below.alloc (Below.refl _ _) (Nat.le_refl _) _
      exact ⟨X.os, X.tape, X.output, X.size, X.block⟩
    have k1 : (0 : Int) < (k : Int) := by omega
    have k2 : ¬ (k : Int) < 0 := by omega
    have k3 : IntKind.i64.wrap ((k : Int) - 0) = (k : Int) := by rw [IntKind.wrap_i64]; omega
    clear hROW eg hsz hgc hge hz0 hz1 hz2 hi
    go_enter Try.func147, Try.ntmps147
    go_wp2_with (at_builtin; refine Lib.wpList_append_run _ rfl _ _ _ _ rfl _ _ rfl rfl _ _ hr ?_)
    go_returns
    exact ⟨_, _, rfl, HO.out, HB.out⟩
set_option maxRecDepth 100000 in
set_option maxHeartbeats 2000000 in
theorem concat_any {w : World} {gb : Nat} {d1 d2 : Addr} {n1 c1 n2 c2 : Nat} {l1 l2 : List Hd} (h0 : w.cell? ⟨gb, 0, none⟩ = some (.slice (some d1) n1 c1)) (h1 : w.cell? ⟨gb, 1, none⟩ = some (.slice (some d2) n2 c2)) (hg : gb < w.heap.size)
    (q1 : Hs w (some d1) n1 l1) (q2 : Hs w (some d2) n2 l2) (k1 : n1 ≤ 100) (k2 : n2 ≤ 100) :
    Calls Try.prog 136 #[.slice (some ⟨gb, 0, none⟩) 2 2] w fun e w' => ∃ a' c', e = .returned (.slice a' (n1 + n2) c') ∧ w'.ownsRow w.heap.size 33 4 (.slice a' (n1 + n2) c') (n1 + n2) (fcells henc (l1 ++ l2)) ∧ Below w.heap.size w w' := by
  obtain ⟨i0, hi, hz0, hz1, hz2⟩ := info_parts FnH.info
  have Q1 := hide q1
  have Q2 := hide q2
  have W0 := hide h0
  have W1 := hide h1
  clear q1 q2 h0 h1
  go_enter Try.func136, Try.ntmps136
  go_wp2_with fail
  go_loopw [3, 5, 11] (fun sz _ iv wr => Hid (wr = w) ∧ ((iv = .int .i64 0 ∧ sz = .int .i64 0) ∨ (iv = .int .i64 1 ∧ sz = .int .i64 n1) ∨ (iv = .int .i64 2 ∧ sz = .int .i64 ((n1 + n2 : Nat) : Int)))) (fun _ _ iv _ => 2 - (RowKit.intOf iv).toNat)
  case atStart => exact ⟨hide rfl, .inl ⟨rfl, rfl⟩⟩
  case round =>
    obtain ⟨ew, hq⟩ := hrel
    rw [ew.out]
    clear ew
    obtain ⟨rfl, rfl⟩ | ⟨rfl, rfl⟩ | ⟨rfl, rfl⟩ := hq
    · have x0 := W0.out
      have e1 : ¬ (n1 : Int) < 0 := by omega
      go_wp2_with fail
      go_roundw
      case rel => exact ⟨hide trivial, .inr (.inl ⟨by go_num, by go_num⟩)⟩
      case measure => simp [RowKit.intOf]
    · have x1 := W1.out
      have e0 : IntKind.i64.wrap ((n1 : Int) + (n2 : Int)) = ((n1 + n2 : Nat) : Int) := by rw [IntKind.wrap_i64]; omega
      have e1 : ¬ ((n1 + n2 : Nat) : Int) < 0 := by omega
      go_wp2_with fail
      go_roundw
      case rel => exact ⟨hide trivial, .inr (.inr ⟨by go_num, by go_num⟩)⟩
      case measure => simp [RowKit.intOf]
    · go_wp2_with fail
      refine (grow_any (n1 + n2) (by omega) _).mono ?_
      rintro e wG ⟨aG, cG, rfl, hoG, hbG⟩
      have HOG := hide hoG
      have HBG := hide hbG
      clear hoG hbG
      go_wp2_with fail
      go_loopw [6, 8, 27] (fun v _ iv wr => Hid (Below w.heap.size w wr) ∧ ((iv = .int .i64 0 ∧ ∃ a' c', v = .slice a' 0 c' ∧ Hid (wr.ownsRow w.heap.size 33 4 (.slice a' 0 c') 0 [])) ∨ (iv = .int .i64 1 ∧ ∃ a' c', v = .slice a' n1 c' ∧ Hid (wr.ownsRow w.heap.size 33 4 (.slice a' n1 c') n1 (fcells henc l1))) ∨ (iv = .int .i64 2 ∧ ∃ a' c', v = .slice a' (n1 + n2) c' ∧ Hid (wr.ownsRow w.heap.size 33 4 (.slice a' (n1 + n2) c') (n1 + n2) (fcells henc (l1 ++ l2)))))) (fun _ _ iv _ => 2 - (RowKit.intOf iv).toNat)
      case atStart => exact ⟨HBG.out, .inl ⟨rfl, _, _, rfl, HOG.out⟩⟩
      case round =>
        obtain ⟨HB, hq⟩ := hrel
        obtain ⟨rfl, a', c', rfl, HO⟩ | ⟨rfl, a', c', rfl, HO⟩ | ⟨rfl, a', c', rfl, HO⟩ := hq
        · have x0 := (HB.out.cell (p := ⟨gb, 0, none⟩) hg).trans W0.out
          have HN : Hid (∀ j u, (fcells henc l1)[j]? = some u → wr.cell? (d1.add j) = some u) := (Q1.out.below HB.out).news hflat d1 rfl
          have HL : Hid ((fcells henc l1).length = n1 * 4) := by show _ = _; rw [fcells_length hflat, Q1.out.len]
          have H1 := hide (fcells_one hflat l1)
          go_wp2_with (at_builtin; refine wpList_append_own _ rfl _ _ 24 rfl w.heap.size 33 i0 (.agg #[.int .i64 0, .int .i64 0, .int .i64 0, .int .i64 0]) 4 32 Try.underlying24 hi hz0 hz1 hz2 (by rfl) (by omega) (.slice a' 0 c') 0 ([]) rfl HO.out d1 n1 c1 (fcells henc l1) rfl HL.out HN.out H1.out (by unfold maxLen; omega) (by omega) HB.out.size ?_; intro v' wA ho hgr _; have HO2 := hide ho; have HG2 := hide hgr; obtain ⟨a2, c2', ev⟩ := row_slice ho; subst ev; clear ho hgr)
          go_roundw
          case rel =>
            refine ⟨HB.out.grown HG2.out HB.out.size (fun q hq => (HO.out.lt q hq).1), .inr (.inl ⟨by go_num, _, _, rfl, ?_⟩)⟩
            have h2 := HO2.out
            simp only [Nat.zero_add, List.nil_append] at h2
            exact h2
          case measure => simp [RowKit.intOf]
        · have x0 := (HB.out.cell (p := ⟨gb, 1, none⟩) hg).trans W1.out
          have HN : Hid (∀ j u, (fcells henc l2)[j]? = some u → wr.cell? (d2.add j) = some u) := (Q2.out.below HB.out).news hflat d2 rfl
          have HL : Hid ((fcells henc l2).length = n2 * 4) := by show _ = _; rw [fcells_length hflat, Q2.out.len]
          have H1 := hide (fcells_one hflat l2)
          go_wp2_with (at_builtin; refine wpList_append_own _ rfl _ _ 24 rfl w.heap.size 33 i0 (.agg #[.int .i64 0, .int .i64 0, .int .i64 0, .int .i64 0]) 4 32 Try.underlying24 hi hz0 hz1 hz2 (by rfl) (by omega) (.slice a' n1 c') n1 (fcells henc l1) rfl HO.out d2 n2 c2 (fcells henc l2) rfl HL.out HN.out H1.out (by unfold maxLen; omega) (by omega) HB.out.size ?_; intro v' wA ho hgr _; have HO2 := hide ho; have HG2 := hide hgr; obtain ⟨a2, c2', ev⟩ := row_slice ho; subst ev; clear ho hgr)
          go_roundw
          case rel =>
            refine ⟨HB.out.grown HG2.out HB.out.size (fun q hq => (HO.out.lt q hq).1), .inr (.inr ⟨by go_num, _, _, rfl, ?_⟩)⟩
            show World.ownsRow _ _ _ _ _ _ _
            rw [fcells_append]
            exact HO2.out
          case measure => simp [RowKit.intOf]
        · go_wp2_with fail
          go_returns
          exact ⟨_, _, rfl, HO.out, HB.out⟩
end Go.Proofs.Ytjcbhgkfbilifaa

namespace Go.Proofs.Ytjcbhgkfbilifaa
open Go.ChangeShapes Go.WideShapes Go.ChangeAt Go.RowKit Ao
set_option linter.unusedVariables false

set_option maxRecDepth 100000 in
set_option maxHeartbeats 2000000 in
theorem without_any {w : World} {b off n cp p : Nat} {l : List Hd} (h : Hs w (some ⟨b, off, none⟩) n l) (hp : p < n) (hc : n ≤ cp) (hn : n ≤ 100) :
    Calls Try.prog 101 #[.slice (some ⟨b, off, none⟩) n cp, .int .i64 p] w fun e w' => ∃ a' c', e = .returned (.slice a' (n - 1) c') ∧ Hs w' a' (n - 1) (l.take p ++ l.drop (p + 1)) ∧ Below w.heap.size w w' ∧ Fr w.heap.size a' ∧ Cp a' (n - 1) c' := by
  have hl := h.len
  have K : ∀ (W : World) (o2 : Nat), Below w.heap.size w W → (p + 1 < n → o2 = off + (p + 1) * 4) → w.heap.size < W.heap.size →
      W.cell? ⟨w.heap.size, 0, none⟩ = some (.slice (some ⟨b, off, none⟩) p cp) → W.cell? ⟨w.heap.size, 1, none⟩ = some (.slice (some ⟨b, o2, none⟩) (n - (p + 1)) (cp - (p + 1))) →
      Hid (Calls Try.prog 136 #[.slice (some ⟨w.heap.size, 0, none⟩) 2 2] W fun e w' => ∃ a' c', e = .returned (.slice a' (n - 1) c') ∧ Hs w' a' (n - 1) (l.take p ++ l.drop (p + 1)) ∧ Below w.heap.size w w' ∧ Fr w.heap.size a' ∧ Cp a' (n - 1) c') := by
    intro W o2 hW ho hs h0 h1
    have hh := h.below hW
    obtain ⟨b', off', e, hb, hcl⟩ := hh.cells (by omega)
    obtain ⟨rfl, rfl⟩ : b = b' ∧ off = off' := by simpa using e
    have q1 : Hs W (some ⟨b, off, none⟩) p (l.take p) := ⟨by simp; omega, fun _ => ⟨b, off, rfl, hb, fun j x hj => hcl j x (by rw [List.getElem?_take] at hj; split at hj <;> simp_all)⟩, by omega⟩
    have q2 : Hs W (some ⟨b, o2, none⟩) (n - (p + 1)) (l.drop (p + 1)) := ⟨by simp; omega, fun h3 => ⟨b, o2, rfl, hb, fun j x hj => by
      have := hcl (p + 1 + j) x (by rw [List.getElem?_drop] at hj; exact hj)
      rw [ho (by omega), show off + (p + 1) * 4 + j * 4 = off + (p + 1 + j) * 4 by omega]
      exact this⟩, by omega⟩
    refine (concat_any h0 h1 hs q1 q2 (by omega) (by omega)).mono ?_
    rintro e w' ⟨a', c', rfl, ho', hb'⟩
    rw [show p + (n - (p + 1)) = n - 1 by omega] at ho' ⊢
    exact ⟨a', c', rfl, Rl.of_row hflat ho' (by omega), hW.trans (hb'.mono hW.size), fr_row ho' (Nat.le_refl _) hW.size, row_cp ho'⟩
  clear h hl
  have i1 : (p : Int) ≤ (cp : Int) := by omega
  have i2 : (p : Int) + 1 ≤ (n : Int) := by omega
  have i3 : IntKind.i64.wrap ((p : Int) + 1) = ((p + 1 : Nat) : Int) := by rw [IntKind.wrap_i64]; omega
  have HBX : ∀ X, Below w.heap.size w (w.alloc X).drew := fun X => by
    have Y : Below w.heap.size w (w.alloc X) := Below.alloc (Below.refl _ _) (Nat.le_refl _) _
    exact ⟨Y.os, Y.tape, Y.output, Y.size, Y.block⟩
  have RX : ∀ X : Array Value, (w.alloc (.cells X 24)).drew.heap[w.heap.size]? = some (.cells X 24 (0, 0)) := fun X => heap_alloc_new w _
  by_cases hcp : cp = p + 1
  · subst hcp
    obtain rfl : n = p + 1 := by omega
    go_enter Try.func101, Try.ntmps101
    go_wp2_with fail
    go_region_with (go_at_call 136; refine (K _ off (HBX _) (fun h => by omega) (by simp) ((cell_of_row _ _ _ _ _ _ (RX _)).trans rfl) ((cell_of_row _ _ _ _ _ _ (RX _)).trans (by simp))).out.mono ?_; rintro e w' ⟨a', c', rfl, hh, hb, hf, hc⟩; have HH := hide hh; have HB := hide hb; have HF := hide hf; have HC := hide hc; clear hh hb hf hc)
    all_goals (go_wp2_with fail)
    all_goals (go_returns; exact ⟨_, _, rfl, HH.out, HB.out, HF.out, HC.out⟩)
  · go_enter Try.func101, Try.ntmps101
    go_wp2_with fail
    go_region_with (go_at_call 136; refine (K _ (off + (p + 1) * 4) (HBX _) (fun h => rfl) (by simp) ((cell_of_row _ _ _ _ _ _ (RX _)).trans rfl) ((cell_of_row _ _ _ _ _ _ (RX _)).trans rfl)).out.mono ?_; rintro e w' ⟨a', c', rfl, hh, hb, hf, hc⟩; have HH := hide hh; have HB := hide hb; have HF := hide hf; have HC := hide hc; clear hh hb hf hc)
    all_goals (go_wp2_with fail)
    all_goals (go_returns; exact ⟨_, _, rfl, HH.out, HB.out, HF.out, HC.out⟩)
end Go.Proofs.Ytjcbhgkfbilifaa

namespace Go.Proofs.Ytjcbhgkfbilifaa
open Go.ChangeShapes Go.WideShapes Go.ChangeAt Go.RowKit Ao
set_option linter.unusedVariables false

theorem set4 (w : World) (g o : Nat) (m : Hd) : w.setCells g o (henc m) = (((w.setCell ⟨g, o, none⟩ (.int .i64 m.nd)).setCell ⟨g, o + 1, none⟩ (.int .i64 m.ls)).setCell ⟨g, o + 2, none⟩ (.int .i64 m.up)).setCell ⟨g, o + 3, none⟩ (.int .i64 m.dn) := rfl
set_option maxRecDepth 100000 in
set_option maxHeartbeats 1000000 in
theorem with_any {w : World} {a : Option Addr} {n cp : Nat} {l : List Hd} {m : Hd} (h : Hs w a n l) (hr : hsB 0 l = true) :
    Calls Try.prog 98 #[.slice a n cp, hval m] w fun e w' => ∃ a' n' c', e = .returned (.slice a' n' c') ∧ Hs w' a' n' (insH m l) ∧ Below w.heap.size w w' ∧ Fr w.heap.size a' ∧ Cp a' n' c' := by
  have H := hide h
  have hn : n ≤ 5 := by rw [← h.len]; have := hs_length hr; omega
  have HL : Hid (l.length = n) := h.len
  have HR := hide hr
  clear h hr
  unfold hval
  go_enter Try.func98, Try.ntmps98
  go_wp2_with fail
  have HB0 : Hid (Below w.heap.size w (w.alloc (.cells #[.int .i64 m.nd, .int .i64 m.ls, .int .i64 m.up, .int .i64 m.dn] 33))) := (Below.refl _ _).alloc (Nat.le_refl _) _
  obtain ⟨w1, ew⟩ : ∃ w1, w1 = w.alloc (.cells #[.int .i64 m.nd, .int .i64 m.ls, .int .i64 m.up, .int .i64 m.dn] 33) := ⟨_, rfl⟩
  have HBX : Hid (w1.heap[w.heap.size]? = some (.cells #[.int .i64 m.nd, .int .i64 m.ls, .int .i64 m.up, .int .i64 m.dn] 33 (0, 0))) := by show _ = _; rw [ew]; exact heap_alloc_new w _
  rw [← ew] at HB0 ⊢
  have hs1 : w.heap.size < w1.heap.size := (Array.getElem?_eq_some_iff.1 HBX.out).1
  clear ew
  refine (FnH.clone_any (H.out.below HB0.out)).mono ?_
  rintro e w2 ⟨a1, c1, rfl, hb2, ho2⟩
  have HB2 := hide hb2
  have HO2 := hide ho2
  have HX2 : Hid (w2.heap[w.heap.size]? = _) := (hb2.block _ hs1).trans HBX.out
  obtain ⟨x0, x1, x2, x3⟩ := hd_row m HX2.out
  have HM2 : Hid (Hs w2 a1 n l) := Rl.of_row hflat ho2 (by omega)
  clear hb2 ho2
  go_wp2_with fail
  refine (place_any HM2.out HR.out).mono ?_
  rintro e w3 ⟨rfl, hb3⟩
  have HX3 : Hid (w3.heap[w.heap.size]? = _) := (hb3.block _ (Nat.lt_of_lt_of_le hs1 HB2.out.size)).trans HX2.out
  have HO3 := hide (row_keeps HO2.out hb3)
  have HB3 := hide hb3
  clear hb3 x0 x1 x2 x3
  obtain ⟨x0, x1, x2, x3⟩ := hd_row m HX3.out
  have HB13 : Hid (Below w.heap.size w w3) := HB0.out.trans ((HB2.out.trans (HB3.out.mono HB2.out.size)).mono HB0.out.size)
  have hs3 : w1.heap.size ≤ w3.heap.size := Nat.le_trans HB2.out.size HB3.out.size
  obtain ⟨p, ep⟩ : ∃ p, p = posL m.nd l := ⟨_, rfl⟩
  have hpn : p ≤ n := by rw [ep, ← HL.out]; exact posL_le _ _
  have EP := hide ep
  rw [← ep]
  clear ep
  cases hq : findH l m.nd with
  | none =>
    have HW : Hid (insH m l = l.take p ++ [m] ++ l.drop p) := by show _ = _; rw [EP.out]; exact ins_new HR.out hq
    clear hq
    go_wp2_with fail
    refine (FnH.insert_any (x := m) (HO3.out.alloc _) (Nat.le_trans hs3 (by simp)) (heap_alloc_new w3 _) (fun hk => by have := (HO3.out.lt _ hk).2; omega) hpn (by omega)).mono ?_
    rintro e w4 ⟨a4, c4, rfl, ho4, hc4⟩
    have HO4 := hide ho4
    have HC4 := hide hc4
    clear ho4 hc4
    go_wp2_with fail
    go_returns
    refine ⟨_, _, _, rfl, ?_, ?_, fr_row HO4.out (Nat.le_refl _) HB0.out.size, row_cp HO4.out⟩
    · rw [HW.out]
      exact Rl.of_row hflat HO4.out (by omega)
    · exact (HB13.out.alloc HB13.out.size _).trans (HC4.out.below (Nat.le_trans HB13.out.size (by simp)) (fun k hk => by have := (HO3.out.lt k hk).1; omega))
  | some y =>
    have HW := hide (ins_old HR.out hq)
    rw [← EP.out] at HW
    clear hq
    have hlt : p < n := by rw [← HL.out]; exact HW.out.2
    have ho' := HO3.out
    obtain ⟨_, ⟨e1, e2⟩ | ⟨g, cpp, cur, e1, hBg, hg, _⟩⟩ := id ho'
    · omega
    obtain ⟨rfl, rfl⟩ : a1 = some ⟨g, 0, none⟩ ∧ c1 = cpp := by simpa using e1
    have hfz : ∀ o, w3.frozen? ⟨g, o, none⟩ = false := fun o => frozen_of_row _ _ _ _ _ hg
    obtain ⟨b, off, z, eb, hz, _, M⟩ := hs_at (Rl.of_row (by_ := 32) hflat ho' (by omega)) hlt
    obtain ⟨rfl, rfl⟩ : g = b ∧ 0 = off := by simpa using eb
    rw [Nat.zero_add] at M
    obtain ⟨y0, y1, y2, y3⟩ := M
    have HG := hide hBg
    have HS := hide (row_set hflat ho' hlt m)
    rw [set4] at HS
    have hi1 : (p : Int) < (n : Int) := by omega
    have hgw : ¬ g = w.heap.size := by omega
    clear hz ho' hg eb e1 hBg
    go_wp2_with fail
    go_returns
    refine ⟨_, _, _, rfl, ?_, ?_, fr_row HS.out.1 (Nat.le_refl _) HB0.out.size, row_cp HS.out.1⟩
    · rw [HW.out.1]
      exact Rl.of_row hflat HS.out.1 (by omega)
    · exact HB13.out.grown HS.out.2 HB13.out.size (fun k hk => by cases hk; have := HG.out; have := HB0.out.size; omega)
end Go.Proofs.Ytjcbhgkfbilifaa
