/- WireOneForm: for every list of bytes: whatever wire reads of it as a command, a state, a note or a chart, written again is these bytes. No condition. -/
import Derived.Test.YtiafohpigkkgbaaFWireOneMath
import Derived.Test.YtiafohpigkkgbaaJA
import Derived.Deep.Cut
import Derived.Deep.DeepCutAuto
import Derived.Test.YtiafohpigkkgbaaFWireAwake
import Derived.Test.YtiafohpigkkgbaaFWireCallsCommand
import Derived.Test.YtiafohpigkkgbaaFWireCallsNote
import Derived.Test.YtiafohpigkkgbaaFWireCallsChart
import Derived.Test.YtiafohpigkkgbaaFWireCallsState
namespace Go.Proofs.Ytiafohpigkkgbaa
namespace WireOneForm
open Go.ChangeShapes Go.WideShapes Go.ChangeAt Go.RowKit B8 Cm Wm
set_option linter.unusedVariables false

theorem ValsB {w w1 : World} {cs : Array Value} {xs : List Atom} (h : Vals w (fun b => b < w.heap.size) cs xs) (hb : Below w.heap.size w w1) : Vals w1 (fun b => b < w1.heap.size) cs xs := h.same fun b hl => ⟨Nat.lt_of_lt_of_le hl hb.size, hb.block b hl⟩
theorem ChtB {w w1 : World} {cs : Array Value} {x : Cht} (h : ChtV w (fun b => b < w.heap.size) cs x) (hb : Below w.heap.size w w1) : ChtV w1 (fun b => b < w1.heap.size) cs x := h.same fun b hl => ⟨Nat.lt_of_lt_of_le hl hb.size, hb.block b hl⟩
set_option maxRecDepth 100000 in
set_option maxHeartbeats 8000000 in
theorem walk {w : World} {a : Option Addr} {len cap : Nat} {bs : List Int} (q : Sq w a len cap bs) (hcap : cap * 1 ≤ 140737488351232) :
    Calls Try.prog 3 #[.slice a len cap] w fun e w' => e = .returned (.bool true) ∧ Below w.heap.size w w' := by
  have hlc := q.lecap
  have hlen : len ≤ 140737488351232 := by omega
  have BY : Hid (Byt bs) := bs_bd q.wf
  have QL := hide q.length
  have Q := hide q
  clear q
  go_enter Try.func3, Try.ntmps3
  go_wp2_with fail
  refine (wawake_any w).mono ?_
  rintro e wa ⟨rfl, hba⟩
  have BC := hide hba
  clear hba
  obtain ⟨wc, ewc⟩ : ∃ wc, wc = wa := ⟨_, rfl⟩
  rw [← ewc] at BC ⊢
  clear ewc
  -- command
  have C1 := cread_command (Q.out.below BC.out) (by omega)
  obtain ⟨E, eE⟩ : ∃ E, E = tErr [0, 0, 0, 0, 0, 0, 3, 0, 0, 0, 2, 0, 3, 3, 0, 0, 0, 0, 0, 0, 3, 3, 0, 0, 4] bs := ⟨_, rfl⟩
  rw [← eE] at C1
  have C1 := hide C1
  have EE := hide eE
  clear eE
  go_wp2_with fail
  refine C1.out.mono ?_
  rintro e w2 ⟨cs2, rfl, hv2, hb2⟩
  have B2 := hide (below_step BC.out hb2)
  have V2 : Hid (Vals w2 (fun b => b < w2.heap.size) cs2 (tVal [0, 0, 0, 0, 0, 0, 3, 0, 0, 0, 2, 0, 3, 3, 0, 0, 0, 0, 0, 0, 3, 3, 0, 0, 4] bs)) := hv2.anyF
  have KX : Hid ((tVal [0, 0, 0, 0, 0, 0, 3, 0, 0, 0, 2, 0, 3, 3, 0, 0, 0, 0, 0, 0, 3, 3, 0, 0, 4] bs).map Atom.k = [0, 0, 0, 0, 0, 0, 3, 0, 0, 0, 2, 0, 3, 3, 0, 0, 0, 0, 0, 0, 3, 3, 0, 0, 4]) := tVal_kinds _ _ (by decide)
  have hsz : cs2.size = 25 := V2.out.size_of KX.out
  have fit : ∀ u u' : World, Vals u (fun b => b < u.heap.size) cs2 (tVal [0, 0, 0, 0, 0, 0, 3, 0, 0, 0, 2, 0, 3, 3, 0, 0, 0, 0, 0, 0, 3, 3, 0, 0, 4] bs) → Below u.heap.size u u' → Vals u' (fun b => b < u'.heap.size) cs2 (tVal [0, 0, 0, 0, 0, 0, 3, 0, 0, 0, 2, 0, 3, 3, 0, 0, 0, 0, 0, 0, 3, 3, 0, 0, 4] bs) := fun _ _ h hb => ValsB h hb
  have I2 : Hid ((Try.prog.info? 29).map (·.size) = some cs2.size) := by show _ = _; rw [hsz]; exact info_command
  have SZ2 : Hid ((#[.int .i64 0, .int .i64 0, .int .i64 0, .int .i64 0, .int .i64 0, .int .i64 0, .string ⟨#[]⟩, .int .i64 0, .int .i64 0, .int .i64 0, .bool false, .int .i64 0, .string ⟨#[]⟩, .string ⟨#[]⟩, .int .i64 0, .int .i64 0, .int .i64 0, .int .i64 0, .int .i64 0, .int .i64 0, .string ⟨#[]⟩, .string ⟨#[]⟩, .int .i64 0, .int .i64 0, .slice none 0 0] : Array Value).size = cs2.size) := hsz.symm
  have ONE2 := hide V2.out.one
  have FIT := hide fit
  clear hv2 hb2 C1 BC hsz fit
  go_upto_if 24 with (refine wpList_store_row rfl 29 (.tmp 3) (.tmp 21) rfl w2.heap.size cs2 rfl rfl 29 #[.int .i64 0, .int .i64 0, .int .i64 0, .int .i64 0, .int .i64 0, .int .i64 0, .string ⟨#[]⟩, .int .i64 0, .int .i64 0, .int .i64 0, .bool false, .int .i64 0, .string ⟨#[]⟩, .string ⟨#[]⟩, .int .i64 0, .int .i64 0, .int .i64 0, .int .i64 0, .int .i64 0, .int .i64 0, .string ⟨#[]⟩, .string ⟨#[]⟩, .int .i64 0, .int .i64 0, .slice none 0 0] (heap_alloc_new w2 _) I2.out SZ2.out ONE2.out ?_)
  rw [setRow_alloc]
  obtain ⟨w3, e3⟩ : ∃ w3, w3 = w2.alloc (.cells cs2 29) := ⟨_, rfl⟩
  have b23 : Below w2.heap.size w2 w3 := by rw [e3]; exact below_alloc1 w2 _
  have R3 : Hid (w3.heap[w2.heap.size]? = some (.cells cs2 29)) := by rw [e3]; exact heap_alloc_new w2 _
  have B3 := hide (below_step B2.out b23)
  have V3 := hide (FIT.out _ _ V2.out b23)
  obtain ⟨g2, eg2⟩ : ∃ g2, g2 = w2.heap.size := ⟨_, rfl⟩
  rw [← e3, ← eg2]
  rw [← eg2] at R3
  clear b23 e3 eg2 B2 V2 ONE2 SZ2
  go_cut [] (fun wc => Hid (Below w.heap.size w wc))
  case first =>
    by_cases he : E = 0
    · have ON := hide (one_flat BY.out [0, 0, 0, 0, 0, 0, 3, 0, 0, 0, 2, 0, 3, 3, 0, 0, 0, 0, 0, 0, 3, 3, 0, 0, 4] (by decide) (by rw [← EE.out]; exact he))
      have hx : (E == 0) = true := by simpa using he
      clear he
      have C4 := ccall_command V3.out KX.out
      rw [ON.out.1, ON.out.2, QL.out] at C4
      have C4 := hide C4
      go_wp2_with (refine wpList_load_row rfl 29 (.tmp 3) rfl g2 rfl 29 cs2 (0, 0) _ R3.out Try.underlying29 rfl I2.out ?_)
      refine C4.out.mono ?_
      rintro e w5 ⟨a5, c5, rfl, hm5, hb5⟩
      have B5 := hide (below_step B3.out hb5)
      have CB := hide (bytes_sq hm5.sq (Q.out.below B5.out) (by omega))
      clear hm5 hb5 C4
      go_wp2_with fail
      refine CB.out.mono ?_
      rintro e w6 ⟨rfl, m6, e6⟩
      have B6 : Hid (Below w.heap.size w w6) := by rw [e6]; exact below_drewN B5.out m6
      clear e6 CB B5
      go_wp2_with fail
      go_meet
      case rel => exact B6
    · have hx : (E == 0) = false := by simpa using he
      clear he
      go_wp2_with fail
      go_meet
      case rel => exact B3
  case rest =>
    have BC := hcut
    clear hcut B3 V3 R3 EE KX I2 FIT
    -- state
    have C1 := cread_state (Q.out.below BC.out) (by omega)
    obtain ⟨E, eE⟩ : ∃ E, E = sErr bs := ⟨_, rfl⟩
    rw [← eE] at C1
    have C1 := hide C1
    have EE := hide eE
    clear eE
    go_wp2_with fail
    refine C1.out.mono ?_
    rintro e w2 ⟨cs2, rfl, hv2, hb2⟩
    have B2 := hide (below_step BC.out hb2)
    have V2 : Hid (StaV w2 (fun b => b < w2.heap.size) cs2 (sVal bs)) := hv2.same fun b hl => ⟨hl.2, rfl⟩
    have KX : Hid (StaK (sVal bs)) := sVal_kinds bs
    have hsz : cs2.size = 29 := V2.out.size
    have fit : ∀ u u' : World, StaV u (fun b => b < u.heap.size) cs2 (sVal bs) → Below u.heap.size u u' → StaV u' (fun b => b < u'.heap.size) cs2 (sVal bs) := fun _ _ h hb => h.fit hb
    have I2 : Hid ((Try.prog.info? 42).map (·.size) = some cs2.size) := by show _ = _; rw [hsz]; exact info_state
    have SZ2 : Hid ((#[.int .i64 0, .int .i64 0, .bool false, .string ⟨#[]⟩, .string ⟨#[]⟩, .int .i64 0, .slice none 0 0, .slice none 0 0, .slice none 0 0, .slice none 0 0, .slice none 0 0, .int .i64 0, .int .i64 0, .int .i64 0, .string ⟨#[]⟩, .string ⟨#[]⟩, .int .i64 0, .int .i64 0, .int .i64 0, .int .i64 0, .int .i64 0, .string ⟨#[]⟩, .string ⟨#[]⟩, .int .i64 0, .int .i64 0, .slice none 0 0, .int .i64 0, .int .i64 0, .int .i64 0] : Array Value).size = cs2.size) := hsz.symm
    have ONE2 := hide V2.out.one
    have FIT := hide fit
    clear hv2 hb2 C1 BC hsz fit
    go_upto_if 44 with (refine wpList_store_row rfl 42 (.tmp 7) (.tmp 41) rfl w2.heap.size cs2 rfl rfl 42 #[.int .i64 0, .int .i64 0, .bool false, .string ⟨#[]⟩, .string ⟨#[]⟩, .int .i64 0, .slice none 0 0, .slice none 0 0, .slice none 0 0, .slice none 0 0, .slice none 0 0, .int .i64 0, .int .i64 0, .int .i64 0, .string ⟨#[]⟩, .string ⟨#[]⟩, .int .i64 0, .int .i64 0, .int .i64 0, .int .i64 0, .int .i64 0, .string ⟨#[]⟩, .string ⟨#[]⟩, .int .i64 0, .int .i64 0, .slice none 0 0, .int .i64 0, .int .i64 0, .int .i64 0] (heap_alloc_new w2 _) I2.out SZ2.out ONE2.out ?_)
    rw [setRow_alloc]
    obtain ⟨w3, e3⟩ : ∃ w3, w3 = w2.alloc (.cells cs2 42) := ⟨_, rfl⟩
    have b23 : Below w2.heap.size w2 w3 := by rw [e3]; exact below_alloc1 w2 _
    have R3 : Hid (w3.heap[w2.heap.size]? = some (.cells cs2 42)) := by rw [e3]; exact heap_alloc_new w2 _
    have B3 := hide (below_step B2.out b23)
    have V3 := hide (FIT.out _ _ V2.out b23)
    obtain ⟨g2, eg2⟩ : ∃ g2, g2 = w2.heap.size := ⟨_, rfl⟩
    rw [← e3, ← eg2]
    rw [← eg2] at R3
    clear b23 e3 eg2 B2 V2 ONE2 SZ2
    go_cut [] (fun wc => Hid (Below w.heap.size w wc))
    case first =>
      by_cases he : E = 0
      · have ON := hide (one_state BY.out (by rw [← EE.out]; exact he))
        have hx : (E == 0) = true := by simpa using he
        clear he
        have C4 := ccall_state V3.out KX.out
        rw [ON.out.1, ON.out.2, QL.out] at C4
        have C4 := hide C4
        go_wp2_with (refine wpList_load_row rfl 42 (.tmp 7) rfl g2 rfl 42 cs2 (0, 0) _ R3.out Try.underlying42 rfl I2.out ?_)
        refine C4.out.mono ?_
        rintro e w5 ⟨a5, c5, rfl, hm5, hb5⟩
        have B5 := hide (below_step B3.out hb5)
        have CB := hide (bytes_sq hm5.sq (Q.out.below B5.out) (by omega))
        clear hm5 hb5 C4
        go_wp2_with fail
        refine CB.out.mono ?_
        rintro e w6 ⟨rfl, m6, e6⟩
        have B6 : Hid (Below w.heap.size w w6) := by rw [e6]; exact below_drewN B5.out m6
        clear e6 CB B5
        go_wp2_with fail
        go_meet
        case rel => exact B6
      · have hx : (E == 0) = false := by simpa using he
        clear he
        go_wp2_with fail
        go_meet
        case rel => exact B3
    case rest =>
      have BC := hcut
      clear hcut B3 V3 R3 EE KX I2 FIT
      -- note
      have C1 := cread_note (Q.out.below BC.out) (by omega)
      obtain ⟨E, eE⟩ : ∃ E, E = tErr [0, 0, 0, 0, 0, 0, 0, 4, 0, 4, 0, 3, 0, 0, 0, 0] bs := ⟨_, rfl⟩
      rw [← eE] at C1
      have C1 := hide C1
      have EE := hide eE
      clear eE
      go_wp2_with fail
      refine C1.out.mono ?_
      rintro e w2 ⟨cs2, rfl, hv2, hb2⟩
      have B2 := hide (below_step BC.out hb2)
      have V2 : Hid (Vals w2 (fun b => b < w2.heap.size) cs2 (tVal [0, 0, 0, 0, 0, 0, 0, 4, 0, 4, 0, 3, 0, 0, 0, 0] bs)) := hv2.anyF
      have KX : Hid ((tVal [0, 0, 0, 0, 0, 0, 0, 4, 0, 4, 0, 3, 0, 0, 0, 0] bs).map Atom.k = [0, 0, 0, 0, 0, 0, 0, 4, 0, 4, 0, 3, 0, 0, 0, 0]) := tVal_kinds _ _ (by decide)
      have hsz : cs2.size = 16 := V2.out.size_of KX.out
      have fit : ∀ u u' : World, Vals u (fun b => b < u.heap.size) cs2 (tVal [0, 0, 0, 0, 0, 0, 0, 4, 0, 4, 0, 3, 0, 0, 0, 0] bs) → Below u.heap.size u u' → Vals u' (fun b => b < u'.heap.size) cs2 (tVal [0, 0, 0, 0, 0, 0, 0, 4, 0, 4, 0, 3, 0, 0, 0, 0] bs) := fun _ _ h hb => ValsB h hb
      have I2 : Hid ((Try.prog.info? 55).map (·.size) = some cs2.size) := by show _ = _; rw [hsz]; exact info_note
      have SZ2 : Hid ((#[.int .i64 0, .int .i64 0, .int .i64 0, .int .i64 0, .int .i64 0, .int .i64 0, .int .i64 0, .slice none 0 0, .int .i64 0, .slice none 0 0, .int .i64 0, .string ⟨#[]⟩, .int .i64 0, .int .i64 0, .int .i64 0, .int .i64 0] : Array Value).size = cs2.size) := hsz.symm
      have ONE2 := hide V2.out.one
      have FIT := hide fit
      clear hv2 hb2 C1 BC hsz fit
      go_upto_if 64 with (refine wpList_store_row rfl 55 (.tmp 10) (.tmp 61) rfl w2.heap.size cs2 rfl rfl 55 #[.int .i64 0, .int .i64 0, .int .i64 0, .int .i64 0, .int .i64 0, .int .i64 0, .int .i64 0, .slice none 0 0, .int .i64 0, .slice none 0 0, .int .i64 0, .string ⟨#[]⟩, .int .i64 0, .int .i64 0, .int .i64 0, .int .i64 0] (heap_alloc_new w2 _) I2.out SZ2.out ONE2.out ?_)
      rw [setRow_alloc]
      obtain ⟨w3, e3⟩ : ∃ w3, w3 = w2.alloc (.cells cs2 55) := ⟨_, rfl⟩
      have b23 : Below w2.heap.size w2 w3 := by rw [e3]; exact below_alloc1 w2 _
      have R3 : Hid (w3.heap[w2.heap.size]? = some (.cells cs2 55)) := by rw [e3]; exact heap_alloc_new w2 _
      have B3 := hide (below_step B2.out b23)
      have V3 := hide (FIT.out _ _ V2.out b23)
      obtain ⟨g2, eg2⟩ : ∃ g2, g2 = w2.heap.size := ⟨_, rfl⟩
      rw [← e3, ← eg2]
      rw [← eg2] at R3
      clear b23 e3 eg2 B2 V2 ONE2 SZ2
      go_cut [] (fun wc => Hid (Below w.heap.size w wc))
      case first =>
        by_cases he : E = 0
        · have ON := hide (one_flat BY.out [0, 0, 0, 0, 0, 0, 0, 4, 0, 4, 0, 3, 0, 0, 0, 0] (by decide) (by rw [← EE.out]; exact he))
          have hx : (E == 0) = true := by simpa using he
          clear he
          have C4 := ccall_note V3.out KX.out
          rw [ON.out.1, ON.out.2, QL.out] at C4
          have C4 := hide C4
          go_wp2_with (refine wpList_load_row rfl 55 (.tmp 10) rfl g2 rfl 55 cs2 (0, 0) _ R3.out Try.underlying55 rfl I2.out ?_)
          refine C4.out.mono ?_
          rintro e w5 ⟨a5, c5, rfl, hm5, hb5⟩
          have B5 := hide (below_step B3.out hb5)
          have CB := hide (bytes_sq hm5.sq (Q.out.below B5.out) (by omega))
          clear hm5 hb5 C4
          go_wp2_with fail
          refine CB.out.mono ?_
          rintro e w6 ⟨rfl, m6, e6⟩
          have B6 : Hid (Below w.heap.size w w6) := by rw [e6]; exact below_drewN B5.out m6
          clear e6 CB B5
          go_wp2_with fail
          go_meet
          case rel => exact B6
        · have hx : (E == 0) = false := by simpa using he
          clear he
          go_wp2_with fail
          go_meet
          case rel => exact B3
      case rest =>
        have BC := hcut
        clear hcut B3 V3 R3 EE KX I2 FIT
        -- chart
        have C1 := cread_chart (Q.out.below BC.out) (by omega)
        obtain ⟨E, eE⟩ : ∃ E, E = cErr bs := ⟨_, rfl⟩
        rw [← eE] at C1
        have C1 := hide C1
        have EE := hide eE
        clear eE
        go_wp2_with fail
        refine C1.out.mono ?_
        rintro e w2 ⟨cs2, rfl, hv2, hb2⟩
        have B2 := hide (below_step BC.out hb2)
        have V2 : Hid (ChtV w2 (fun b => b < w2.heap.size) cs2 (cVal bs)) := hv2.same fun b hl => ⟨hl.2, rfl⟩
        have KX : Hid (ChtK (cVal bs)) := cVal_kinds bs
        have hsz : cs2.size = 12 := V2.out.size
        have fit : ∀ u u' : World, ChtV u (fun b => b < u.heap.size) cs2 (cVal bs) → Below u.heap.size u u' → ChtV u' (fun b => b < u'.heap.size) cs2 (cVal bs) := fun _ _ h hb => ChtB h hb
        have I2 : Hid ((Try.prog.info? 61).map (·.size) = some cs2.size) := by show _ = _; rw [hsz]; exact info_chart
        have SZ2 : Hid ((#[.int .i64 0, .slice none 0 0, .int .i64 0, .int .i64 0, .int .i64 0, .int .i64 0, .int .i64 0, .string ⟨#[]⟩, .string ⟨#[]⟩, .int .i64 0, .int .i64 0, .slice none 0 0] : Array Value).size = cs2.size) := hsz.symm
        have ONE2 := hide V2.out.one
        have FIT := hide fit
        clear hv2 hb2 C1 BC hsz fit
        go_upto_if 84 with (refine wpList_store_row rfl 61 (.tmp 13) (.tmp 81) rfl w2.heap.size cs2 rfl rfl 61 #[.int .i64 0, .slice none 0 0, .int .i64 0, .int .i64 0, .int .i64 0, .int .i64 0, .int .i64 0, .string ⟨#[]⟩, .string ⟨#[]⟩, .int .i64 0, .int .i64 0, .slice none 0 0] (heap_alloc_new w2 _) I2.out SZ2.out ONE2.out ?_)
        rw [setRow_alloc]
        obtain ⟨w3, e3⟩ : ∃ w3, w3 = w2.alloc (.cells cs2 61) := ⟨_, rfl⟩
        have b23 : Below w2.heap.size w2 w3 := by rw [e3]; exact below_alloc1 w2 _
        have R3 : Hid (w3.heap[w2.heap.size]? = some (.cells cs2 61)) := by rw [e3]; exact heap_alloc_new w2 _
        have B3 := hide (below_step B2.out b23)
        have V3 := hide (FIT.out _ _ V2.out b23)
        obtain ⟨g2, eg2⟩ : ∃ g2, g2 = w2.heap.size := ⟨_, rfl⟩
        rw [← e3, ← eg2]
        rw [← eg2] at R3
        clear b23 e3 eg2 B2 V2 ONE2 SZ2
        by_cases he : E = 0
        · have ON := hide (one_chart BY.out (by rw [← EE.out]; exact he))
          have hx : (E == 0) = true := by simpa using he
          clear he
          have C4 := ccall_chart V3.out KX.out
          rw [ON.out.1, ON.out.2, QL.out] at C4
          have C4 := hide C4
          go_wp2_with (refine wpList_load_row rfl 61 (.tmp 13) rfl g2 rfl 61 cs2 (0, 0) _ R3.out Try.underlying61 rfl I2.out ?_)
          refine C4.out.mono ?_
          rintro e w5 ⟨a5, c5, rfl, hm5, hb5⟩
          have B5 := hide (below_step B3.out hb5)
          have CB := hide (bytes_sq hm5.sq (Q.out.below B5.out) (by omega))
          clear hm5 hb5 C4
          go_wp2_with fail
          refine CB.out.mono ?_
          rintro e w6 ⟨rfl, m6, e6⟩
          have B6 : Hid (Below w.heap.size w w6) := by rw [e6]; exact below_drewN B5.out m6
          clear e6 CB B5
          go_wp2_with fail
          go_ret
          exact ⟨rfl, B6.out⟩
        · have hx : (E == 0) = false := by simpa using he
          clear he
          go_wp2_with fail
          go_ret
          exact ⟨rfl, B3.out⟩

set_option maxRecDepth 100000 in
theorem lifted (os : Os) (started : os.Started) (H : Type) (enc : TypeId × Value → H) :
    ReturnsInHanded {} Try.checked os 3 .any (Rows.wireOneFormSpec.pre6 enc Try.prog Try.f3 Rows.wireOneFormRow.domain false) (Rows.wireOneFormSpec.post enc Try.prog Try.f3 false true false false) := by
  refine returnsInHanded_of_change_sized (C := Try.checked) own started (by kernel_rfl) Try.func3
    (ChangeSpec.witness6 (enc := enc) (C := Try.checked) false ⟨#[], #[.slice none 0 0], []⟩ 8 (by kernel_rfl) (by kernel_rfl) (by kernel_rfl) (by kernel_rfl)) ?_
  intro W base args ds gs before hval0 hW hcnd hsz0 _
  have hsz : (DataW.weightsEach Try.prog (Try.f3.params.toList ++ Rows.wireOneFormSpec.plain.varTypes Try.prog) (ds ++ gs)).all (· ≤ reachBytes) = true := hsz0
  have hval : ∀ (j : Nat) t v, Try.f3.params[j]? = some t → args[j]? = some v → Value.okWide Try.prog W .any base t v := hval0
  have hW' := hW
  obtain ⟨p, q, hA0, hV, rfl, hfz, hnd⟩ := hW
  have hA : DataW.TrodAll enc Try.prog W 0 (fun _ => true) true Try.f3.params.toList args.toList ds p := hA0
  rw [Try.params3] at hA hval hsz
  obtain ⟨v0, vs0, d0, ds0, p0, q0, hargs, rfl, rfl, h0, r0⟩ := trodAll_cons hA
  obtain ⟨rfl, rfl, rfl⟩ := trodAll_nil r0
  obtain rfl : args = #[v0] := by cases args; simp_all
  obtain ⟨rfl, rfl⟩ := trodVars_none hV
  have lt0 : ∀ x ∈ p0, x.block < W.heap.size := by obtain ⟨m, hm⟩ := h0; exact DataW.trod_lt m _ _ _ hm
  obtain ⟨a, len, cap, bs, rfl, q⟩ := open_sq_sized (hval 0 22 v0 rfl rfl) h0 (fun elems spare e => by have h := hsz; rw [e] at h; exact sized_slice h (j := 0) (t := 22) (e := 5) rfl rfl Try.underlying22)
  clear hA0 hval0
  refine (walk q.1 q.2).mono fun e W' ⟨he, bel⟩ => ?_
  subst he
  exact ⟨_, rfl, _, _, _, [], _, [], hW', trodAll_mk1 (shut_bool Try.underlying4 _), (trodAll_cons_mk (Below.trod laidOut (by kernel_rfl) (of_decide_eq_true (by kernel_rfl)) h0 bel lt0) trodAll_mk0), rfl, bel.frame _, fun h => by cases h⟩

theorem over : Rows.wireOneFormRow.holds Try.pinned (OpenSpec.ofChange Rows.wireOneFormSpec) :=
  OpenClaim.holds_of_wide 3 Try.f3 rfl rfl rfl rfl rfl rfl rfl ⟨rfl, rfl, rfl, rfl, rfl⟩ rfl rfl rfl rfl rfl (by kernel_rfl) Try.func3 (by kernel_rfl)
    (of_decide_eq_true (by kernel_rfl)) (by unfold Func.isWrapper; first | (rw [if_pos (by decide +kernel)]; kernel_rfl) | (rw [if_neg (by decide +kernel)]; exact ⟨rfl, rfl⟩))
    (fun os started H enc _ => lifted os started H enc)

theorem proved : Rows.WireOneFormSaid := over
#print axioms proved
end WireOneForm
theorem wireOneForm_holds : Rows.WireOneFormSaid := WireOneForm.proved
end Go.Proofs.Ytiafohpigkkgbaa
