/- What the landed writer does with strings. No condition but the size. -/
import Derived.Test.YtfdejkfbjmkngabWireWt
namespace Go.Proofs.Ytfdejkfbjmkngab
open Go.ChangeShapes Go.WideShapes Go.ChangeAt Go.RowKit B8 Cm Wm
set_option linter.unusedVariables false

theorem atom_str {w : World} {P : Nat → Prop} {v : Value} {x : Atom} (h : AtomV w P v x) (hk : x.k = 3) : ∃ s : ByteArray, v = .string s ∧ x.bs = strB s ∧ x.bs.length ≤ 140737488351232 := by
  rcases h with h | h | h | h | h
  · exact absurd hk (by have := h.1; omega)
  · exact absurd hk (by have := h.1; omega)
  · exact absurd hk (by have := h.1; omega)
  · exact h.2
  · exact absurd hk (by have := h.1; omega)

theorem wtexts_any {w : World} {B W : Nat} {fs : List Fld} {L M o n cp : Nat} {xs : List Atom} {P : Nat → Prop} (h : WS w B W fs) (hB : B ≤ w.heap.size)
    (hf : FlatAt w P M o xs) (hk : ∀ x ∈ xs, x.k = 3) (hn : xs.length = n) (hm : n ≤ 1000000) (hM : ¬ Wown W w M) (hL : ¬ Wown W w L)
    (hp : ∀ j, j < n → w.cell? ⟨L, j, none⟩ = some (.pointer (some ⟨M, o + j, none⟩))) :
    Calls Try.prog 107 #[.pointer (some ⟨W, 0, none⟩), .slice (some ⟨L, 0, none⟩) n cp] w fun e w' => e = .returned (.tuple #[]) ∧ WS w' B W (fs ++ flds xs) ∧ Stq (Wown W) w w' := by
  have H := hide h
  have HB := hide hB
  have HF := hide hf
  have HK := hide hk
  have HN := hide hn
  have HM := hide hM
  have HL := hide hL
  have HP := hide hp
  clear h hB hf hk hn hM hL hp
  go_enter Try.func107, Try.ntmps107
  go_wp2_with fail
  go_loopw [8] (fun i wr => ∃ j : Nat, j ≤ n ∧ i = .int .i64 j ∧ Hid (WS wr B W (fs ++ flds (xs.take j))) ∧ Hid (Stq (Wown W) w wr)) (fun i _ => n - (intOf i).toNat)
  case atStart => exact ⟨0, Nat.zero_le _, rfl, by show WS _ _ _ _; rw [List.take_zero, flds_nil, List.append_nil]; exact H.out, Stq.refl _ _⟩
  case round =>
    obtain ⟨j, hj, rfl, HW, HS⟩ := hrel
    by_cases hlt : j < n
    · have hi : (j : Int) < (n : Int) := by omega
      have c1 := HS.out.cell (HP.out j hlt) HL.out
      have hlx : j < xs.length := by rw [HN.out]; exact hlt
      obtain ⟨v, h1, h2⟩ := HF.out j _ (List.getElem?_eq_getElem hlx)
      have hk0 := HK.out _ (List.getElem_mem hlx)
      obtain ⟨s, ev, eb, hsz⟩ := atom_str h2 hk0
      subst ev
      have c2 := HS.out.cell h1 HM.out
      have hnM : ¬ Wown W wr M := HS.out.keep (World.block_lt_of_cell? w _ h1) HM.out
      have HT := hide (take_flds xs j _ (List.getElem?_eq_getElem hlx) fs)
      have ha := fldA_text (.inl hk0)
      rw [eb, strB_length] at ha
      rw [eb, strB_length] at hsz
      have HA := hide ha
      have C2 := hide c2
      clear ha eb h2 hk0 h1
      obtain ⟨gs, eg⟩ : ∃ gs, gs = fs ++ flds (xs.take j) := ⟨_, rfl⟩
      rw [← eg] at HW HT
      have hwl := HW.out.lt
      have NM := hide hnM
      have BR : Hid (B ≤ wr.heap.size) := Nat.le_trans HB.out HS.out.size
      clear eg hnM
      by_cases hy : okAll gs = true ∧ s.size ≤ 65535
      · have CF := hide (wfits_yes HW.out hy.1 (s.size : Int) 65535 (by omega))
        have hn5 := hy.2
        clear hy
        go_wp2_with fail
        refine CF.out.mono ?_
        rintro e w1 ⟨rfl, hw1, hs1⟩
        have c3 := hs1.cell C2.out NM.out
        obtain ⟨c, w2, hcv, hb2, q2⟩ := string_bytes w1 s
        have CT := hide (ctextw_sq q2 (by omega))
        have W2 := hide (hw1.below hb2)
        have S2 := hide (hs1.trans (stq_below hb2 hw1.lt))
        have WF : Hid (wfs (numB (strB s).length ++ strB s)) := wfs_append (cnumB_wfs _ (by rw [strB_length]; omega)) (strB_wfs s)
        clear hw1 hs1 q2 CF hb2
        go_wp2_with fail
        refine CT.out.mono ?_
        rintro e w3 ⟨y, rfl, hown, hb⟩
        have CP := hide (wput_row W2.out (Nat.le_trans BR.out S2.out.size) hb (by rw [List.length_append, strB_length]; have := (numB_length s.size).2; omega) WF.out hown)
        clear hown hb CT hcv
        go_wp2_with fail
        refine CP.out.mono ?_
        rintro e w4 ⟨rfl, hw4, hs4⟩
        have W4 := hide hw4
        have S4 := hide hs4
        clear hw4 hs4 CP
        go_wp2_with fail
        go_roundw
        case rel =>
          refine ⟨j + 1, by omega, by go_num, ?_, HS.out.trans (S2.out.trans S4.out)⟩
          show WS _ _ _ _
          rw [HT.out, HA.out, decide_eq_true hn5]
          have := W4.out
          rw [strB_length] at this
          exact this
        case measure => simp [intOf]; omega
      · have CF := hide (wfits_no HW.out (s.size : Int) 65535 (by
          cases e : okAll gs with
          | false => exact .inl rfl
          | true => exact .inr (by have h2 : ¬ s.size ≤ 65535 := fun h => hy ⟨e, h⟩; omega)))
        have BAD : Hid (okAll (gs ++ [⟨numB s.size ++ strB s, decide (s.size ≤ 65535)⟩]) = false) := by
          show _ = _
          rw [okAll_snoc]
          cases e : okAll gs with
          | false => rfl
          | true =>
            have : ¬ s.size ≤ 65535 := fun h => hy ⟨e, h⟩
            rw [decide_eq_false this]
            rfl
        clear hy
        go_wp2_with fail
        refine CF.out.mono ?_
        rintro e w1 ⟨rfl, hw1, hs1⟩
        have W1 := hide (hw1 _ BAD.out)
        have S1 := hide hs1
        clear hw1 hs1 CF
        go_wp2_with fail
        go_roundw
        case rel =>
          refine ⟨j + 1, by omega, by go_num, ?_, HS.out.trans S1.out⟩
          show WS _ _ _ _
          rw [HT.out, HA.out]
          exact W1.out
        case measure => simp [intOf]; omega
    · go_wp2_with fail
      refine bodyPost_end (results_none rfl _ _ _) rfl ?_
      refine ⟨rfl, ?_, HS.out⟩
      have := HW.out
      rw [List.take_of_length_le (by rw [HN.out]; omega)] at this
      exact this
end Go.Proofs.Ytfdejkfbjmkngab
