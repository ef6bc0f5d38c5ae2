/- The document's Cut of one piece. No condition but a size. -/
import Derived.Test.YtokdlkfjimihjaaDoorChuRefCut
namespace Go.Proofs.YtokdlkfjimihjaaDoor
open Go.ChangeShapes Go.WideShapes Go.ChangeAt Go.RowKit B8 Ck
set_option linter.unusedVariables false

set_option maxRecDepth 100000 in
set_option maxHeartbeats 4000000 in
theorem rcut_one {w : World} {a : Option Addr} {len cap : Nat} {bs : List Int} (h : Sq w a len cap bs) (hr : len ≤ 140737488351232) (hl : ¬ 8192 < len) (hq : len ≤ 512) :
    Calls Tryd.prog 11 #[.slice a len cap] w fun e w' => ∃ a' c' l, e = .returned (.tuple #[.slice a' (cutAll bs).length c', .int .i64 (cutE bs)]) ∧ Below w.heap.size w w' ∧ Lw w' w.heap.size a' (cutAll bs).length c' l ∧ l.map Pv.pc = cutAll bs := by
  have H := hide h
  have HLN := hide h.length
  have hlc := h.lecap
  obtain ⟨n, en⟩ : ∃ n : Nat, n = cutN bs := ⟨_, rfl⟩
  have en2 : n = max 1 ((len + 511) / 512) := by rw [en]; unfold cutN; rw [h.length]
  have e0 : IntKind.i64.wrap ((len : Int) + 512) = (len : Int) + 512 := by rw [IntKind.wrap_i64]; omega
  have e1 : IntKind.i64.wrap ((len : Int) + 512 - 1) = (len : Int) + 511 := by rw [IntKind.wrap_i64]; omega
  have hb : ¬ 8192 < bs.length := by rw [h.length]; exact hl
  have E1 : cutE bs = 0 := if_neg hb
  have E2 : cutAll bs = cutL bs := if_neg hb
  rw [E1, E2, cutL_length, ← en]
  have hn2 : n ≤ 16 := by omega
  have NL : Hid (∀ k : Nat, k < n → k * 512 ≤ len) := fun k hk => by omega
  obtain ⟨F, eF⟩ : ∃ F : Nat, F = fsum bs := ⟨_, rfl⟩
  have hF : F < 4294967296 := by rw [eF]; exact fsum_lt bs
  have PJ : Hid (∀ j : Nat, cutP bs j = ⟨j, n, F, (bs.drop (j * 512)).take 512⟩) := fun j => by rw [en, eF]; rfl
  have EL : Hid (cutL bs = (List.range n).map (cutP bs)) := by show _ = _; rw [en]; rfl
  have EF := hide eF
  have z1 : ((len : Int) + 511) / 512 ≤ 1 := by omega
  have n1 : n = 1 := by omega
  have N1 : Hid ((n : Int) = 1) := by show _ = _; omega
  clear h en en2 E1 E2 hb eF
  go_enter Tryd.func11, Tryd.ntmps11
  go_wp2_with fail
  go_loopw [5, 6, 7] (fun t x _ wr => ∃ (k : Nat) (a1 : Option Addr) (c1 : Nat) (l1 : List Pv), k ≤ n ∧ x = .int .i64 k ∧ t = .slice a1 k c1 ∧ Hid (Below w.heap.size w wr) ∧ Hid (Lw wr w.heap.size a1 k c1 l1) ∧ Hid (l1.map Pv.pc = (List.range k).map (cutP bs))) (fun _ x _ _ => n - (intOf x).toNat)
  case atStart => exact ⟨0, none, 0, [], Nat.zero_le _, rfl, rfl, Below.refl _ _, lw_nil _ _, rfl⟩
  case round =>
    obtain ⟨k, a1, c1, l1, hk, rfl, rfl, HB, HL, HE⟩ := hrel
    by_cases hlt : k < n
    · have i1 : (k : Int) < (1 : Int) := by omega
      have KL := NL.out k hlt
      obtain ⟨lo, elo⟩ : ∃ lo : Nat, lo = k * 512 := ⟨_, rfl⟩
      obtain ⟨h0, eh0⟩ : ∃ h0 : Nat, h0 = lo + 512 := ⟨_, rfl⟩
      have f0 : IntKind.i64.wrap ((k : Int) + 1) = (k : Int) + 1 := by rw [IntKind.wrap_i64]; omega
      have f1 : IntKind.i64.wrap ((k : Int) * 512) = (lo : Int) := by rw [IntKind.wrap_i64]; omega
      have f2 : IntKind.i64.wrap (((k : Int) + 1) * 512) = (h0 : Int) := by rw [IntKind.wrap_i64]; omega
      have j1 : (0 : Int) ≤ (lo : Int) := by omega
      by_cases hh : h0 < len
      · have j2 : (h0 : Int) < (len : Int) := by omega
        have j3 : (lo : Int) ≤ (h0 : Int) := by omega
        have j4 : (h0 : Int) ≤ (cap : Int) := by omega
        have SP : Hid (Sq wr.drew (partA a cap lo) (h0 - lo) (cap - lo) ((bs.drop lo).take (h0 - lo))) := (sq_part (H.out.below HB.out) (lo := lo) (hi := h0) (by omega) (by omega)).drew 1
        have PB : Hid ((bs.drop lo).take (h0 - lo) = (bs.drop (k * 512)).take 512) := by
          show _ = _
          have e3 := HLN.out
          rw [elo]; congr 1; omega
        have PM2 : Hid (h0 - lo ≤ 140737488351232) := by show _ ≤ _; omega
        have FS : Hid (0 ≤ (F : Int) ∧ (F : Int) ≤ 4294967295) := ⟨by omega, by omega⟩
        have K4 : Hid (k ≤ 4398046510976) := by show _ ≤ _; omega
        have KW : Hid ((Lit.int .i64 (k : Int)).wf = true) := wf64 (by omega) (by omega)
        have NW : Hid ((Lit.int .i64 (1 : Int)).wf = true) := wf64 (by omega) (by omega)
        have RN : Hid ((List.range (k + 1)).map (cutP bs) = (List.range k).map (cutP bs) ++ [cutP bs k]) := by show _ = _; rw [List.range_succ, List.map_append]; rfl
        have CS : Hid (∀ y, Below w.heap.size w y → Calls Tryd.prog 26 #[.slice a len cap] y fun e w' => e = .returned (.int .u32 F) ∧ w' = y) := fun y hy => by have h1 := refsum_sq (H.out.below hy) (by omega); rw [sumB_fsum, ← EF.out] at h1; exact h1
        clear elo eh0
        obtain ⟨A2, eA⟩ : ∃ A2, partA a cap lo = A2 := ⟨_, rfl⟩
        rw [eA] at SP
        unfold partA at eA
        obtain ⟨a2, c2, w2, hr2, hb2, ho2⟩ := copy_row 22 SP.out (by have := PM2.out; omega)
        have B2 : Hid (Below w.heap.size w w2) := below_step HB.out.drew hb2
        have L2 : Hid (Lw w2 w.heap.size a1 k c1 l1) := HL.out.below ((Below.refl _ _).drew.trans hb2)
        obtain ⟨g, cp, w3, hr3, hl3, hb3, hc3⟩ := lw_add L2.out K4.out B2.out.size (p := ⟨k, 1, F, a2, h0 - lo, c2, (bs.drop lo).take (h0 - lo)⟩) ⟨row_baseT ho2 HB.out.size, SP.out.length, SP.out.wf, PM2.out, KW.out, NW.out, FS.out.1, FS.out.2⟩ 24
        have L3 := hide hl3
        have B3 := hide (B2.out.trans hb3)
        have E3 : Hid ((l1 ++ [(⟨k, 1, F, a2, h0 - lo, c2, (bs.drop lo).take (h0 - lo)⟩ : Pv)]).map Pv.pc = (List.range (k + 1)).map (cutP bs)) := by
          show _ = _
          rw [RN.out, List.map_append, HE.out, PJ.out k, ← PB.out, ← N1.out]
          rfl
        clear hb2 ho2 hl3 hb3 hc3
        have CS1 := hide (CS.out _ HB.out.drew)
        have CS2 := hide (CS.out _ B2.out)
        go_wp2_with fail
        go_region_held3 (fun v => Hid (Below w.heap.size w v)) (first | go_keep | exact HB | exact hide HB.out.drew | exact B2 | exact hide (below_alloc B2.out _) | exact B3) ((first | (go_at_call 26; refine CS1.out.mono ?_; rintro e w9 ⟨rfl, rfl⟩) | (go_at_call 26; refine CS2.out.mono ?_; rintro e w9 ⟨rfl, rfl⟩) | (refine step_append_runs _ (by rfl) (.const (.slice none 0 0)) (.tmp 36) 22 (by rfl) hr2 ?_) | (refine step_append_runs _ (by rfl) (.tmp 27) (.tmp 39) 24 (by rfl) hr3 ?_)))
        all_goals
          go_wp2_with fail
          go_roundw
          case rel => exact ⟨k + 1, _, _, _, by omega, by go_num, rfl, B3, L3, E3⟩
          case measure => simp [intOf]; omega
      · have j2 : (len : Int) ≤ (h0 : Int) := by omega
        have j3 : (lo : Int) ≤ (len : Int) := by omega
        have j4 : (len : Int) ≤ (cap : Int) := by omega
        have SP : Hid (Sq wr.drew (partA a cap lo) (len - lo) (cap - lo) ((bs.drop lo).take (len - lo))) := (sq_part (H.out.below HB.out) (lo := lo) (hi := len) (by omega) (Nat.le_refl _)).drew 1
        have PB : Hid ((bs.drop lo).take (len - lo) = (bs.drop (k * 512)).take 512) := by
          show _ = _
          have e3 := HLN.out
          rw [elo, List.take_of_length_le (by simp; omega), List.take_of_length_le (by simp; omega)]
        have PM2 : Hid (len - lo ≤ 140737488351232) := by show _ ≤ _; omega
        have FS : Hid (0 ≤ (F : Int) ∧ (F : Int) ≤ 4294967295) := ⟨by omega, by omega⟩
        have K4 : Hid (k ≤ 4398046510976) := by show _ ≤ _; omega
        have KW : Hid ((Lit.int .i64 (k : Int)).wf = true) := wf64 (by omega) (by omega)
        have NW : Hid ((Lit.int .i64 (1 : Int)).wf = true) := wf64 (by omega) (by omega)
        have RN : Hid ((List.range (k + 1)).map (cutP bs) = (List.range k).map (cutP bs) ++ [cutP bs k]) := by show _ = _; rw [List.range_succ, List.map_append]; rfl
        have CS : Hid (∀ y, Below w.heap.size w y → Calls Tryd.prog 26 #[.slice a len cap] y fun e w' => e = .returned (.int .u32 F) ∧ w' = y) := fun y hy => by have h1 := refsum_sq (H.out.below hy) (by omega); rw [sumB_fsum, ← EF.out] at h1; exact h1
        clear elo eh0
        obtain ⟨A2, eA⟩ : ∃ A2, partA a cap lo = A2 := ⟨_, rfl⟩
        rw [eA] at SP
        unfold partA at eA
        obtain ⟨a2, c2, w2, hr2, hb2, ho2⟩ := copy_row 22 SP.out (by have := PM2.out; omega)
        have B2 : Hid (Below w.heap.size w w2) := below_step HB.out.drew hb2
        have L2 : Hid (Lw w2 w.heap.size a1 k c1 l1) := HL.out.below ((Below.refl _ _).drew.trans hb2)
        obtain ⟨g, cp, w3, hr3, hl3, hb3, hc3⟩ := lw_add L2.out K4.out B2.out.size (p := ⟨k, 1, F, a2, len - lo, c2, (bs.drop lo).take (len - lo)⟩) ⟨row_baseT ho2 HB.out.size, SP.out.length, SP.out.wf, PM2.out, KW.out, NW.out, FS.out.1, FS.out.2⟩ 24
        have L3 := hide hl3
        have B3 := hide (B2.out.trans hb3)
        have E3 : Hid ((l1 ++ [(⟨k, 1, F, a2, len - lo, c2, (bs.drop lo).take (len - lo)⟩ : Pv)]).map Pv.pc = (List.range (k + 1)).map (cutP bs)) := by
          show _ = _
          rw [RN.out, List.map_append, HE.out, PJ.out k, ← PB.out, ← N1.out]
          rfl
        clear hb2 ho2 hl3 hb3 hc3
        have CS1 := hide (CS.out _ HB.out.drew)
        have CS2 := hide (CS.out _ B2.out)
        go_wp2_with fail
        go_region_held3 (fun v => Hid (Below w.heap.size w v)) (first | go_keep | exact HB | exact hide HB.out.drew | exact B2 | exact hide (below_alloc B2.out _) | exact B3) ((first | (go_at_call 26; refine CS1.out.mono ?_; rintro e w9 ⟨rfl, rfl⟩) | (go_at_call 26; refine CS2.out.mono ?_; rintro e w9 ⟨rfl, rfl⟩) | (refine step_append_runs _ (by rfl) (.const (.slice none 0 0)) (.tmp 36) 22 (by rfl) hr2 ?_) | (refine step_append_runs _ (by rfl) (.tmp 27) (.tmp 39) 24 (by rfl) hr3 ?_)))
        all_goals
          go_wp2_with fail
          go_roundw
          case rel => exact ⟨k + 1, _, _, _, by omega, by go_num, rfl, B3, L3, E3⟩
          case measure => simp [intOf]; omega
    · have hkn : k = n := by omega
      have i1 : ¬ (k : Int) < (1 : Int) := by omega
      have FIN : Hid (l1.map Pv.pc = cutL bs) := by show _ = _; rw [HE.out, EL.out, hkn]
      have HK := hide hkn
      clear hkn
      obtain rfl : k = 1 := by omega
      go_wp2_with fail
      go_returns
      have hkn := HK.out
      subst hkn
      first | exact ⟨a1, c1, l1, rfl, HB.out, HL.out, FIN.out⟩ | exact ⟨a1, c1, rfl, HB.out, l1, HL.out, FIN.out⟩ | exact ⟨a1, c1, rfl, l1, HB.out, HL.out, FIN.out⟩
end Go.Proofs.YtokdlkfjimihjaaDoor
