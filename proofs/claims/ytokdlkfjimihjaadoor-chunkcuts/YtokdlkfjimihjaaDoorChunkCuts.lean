/- ChunkCuts: the pieces of some bytes; what is handed in stays, what is told is its own. Condition: the table of the half bytes is as the program's text lays it (the card). -/
import Derived.Test.YtokdlkfjimihjaaDoorChuRefCutA
import Derived.Test.YtokdlkfjimihjaaDoorChuRefCutB
import Derived.Test.YtokdlkfjimihjaaDoorChuPiece
import Derived.Test.YtokdlkfjimihjaaDoorOwn8
import Derived.Test.YtokdlkfjimihjaaDoorCards
import Derived.Test.YtokdlkfjimihjaaDoorTie
import Derived.Deep.DeepHandedRow
import Derived.Lib.LaidTab
namespace Go.Proofs.YtokdlkfjimihjaaDoor
namespace ChunkCuts
open Go.ChangeShapes Go.WideShapes Go.ChangeAt Go.RowKit B8 Ck
set_option linter.unusedVariables false

theorem rcut_all {w : World} {a : Option Addr} {len cap : Nat} {bs : List Int} (h : Sq w a len cap bs) (hr : len ≤ 140737488351232) :
    Calls Tryd.prog 11 #[.slice a len cap] w fun e w' => ∃ a' c' l, e = .returned (.tuple #[.slice a' (cutAll bs).length c', .int .i64 (cutE bs)]) ∧ Below w.heap.size w w' ∧ Lw w' w.heap.size a' (cutAll bs).length c' l ∧ l.map Pv.pc = cutAll bs := by
  by_cases hl : 8192 < len
  · exact rcut_long h hr hl
  · by_cases hq : len ≤ 512
    · exact rcut_one h hr hl hq
    · exact rcut_many h hr hl hq
set_option maxRecDepth 100000 in
set_option maxHeartbeats 4000000 in
theorem walk {W : World} {a : Option Addr} {len cap : Nat} {bs : List Int} (h : Sq W a len cap bs) (hc : cap * 1 ≤ 140737488351232) (ht : Tab W) :
    Calls Tryd.prog 3 #[.slice a len cap] W fun e w' => e = .returned (.bool true) ∧ Below W.heap.size W w' := by
  have H := hide h
  have HT := hide ht
  have hlc := h.lecap
  have HLN := hide h.length
  obtain ⟨n, en⟩ : ∃ n, n = (cutAll bs).length := ⟨_, rfl⟩
  have hn : n ≤ 16 := by rw [en]; exact cutAll_length bs
  obtain ⟨E, eE⟩ : ∃ E : Int, E = cutE bs := ⟨_, rfl⟩
  have CO := hide (own_sq 71 h (by omega))
  obtain ⟨g, eg⟩ : ∃ g, g = W.heap.size := ⟨_, rfl⟩
  have CC : Hid (∀ y a' cap', Sq y a' len cap' bs → Tab y → Calls Tryd.prog 10 #[.slice a' len cap'] y fun e w' => ∃ a1 c1 l, e = .returned (.tuple #[.slice a1 n c1, .int .i64 E]) ∧ Below y.heap.size y w' ∧ Lw w' y.heap.size a1 n c1 l ∧ l.map Pv.pc = cutAll bs) := fun y a' cap' hy hty => by rw [en, eE]; exact cut_all hy hty
  have CR : Hid (∀ y, Below W.heap.size W y → Calls Tryd.prog 11 #[.slice a len cap] y fun e w' => ∃ a1 c1 l, e = .returned (.tuple #[.slice a1 n c1, .int .i64 E]) ∧ Below y.heap.size y w' ∧ Lw w' y.heap.size a1 n c1 l ∧ l.map Pv.pc = cutAll bs) := fun y hy => by rw [en, eE]; exact rcut_all (H.out.below hy) (by omega)
  have IN : Hid (∀ y, y.ownsRow W.heap.size 5 1 (.slice (some ⟨W.heap.size, 0, none⟩) (len + 2) (len + 2)) (len + 2) (B8.vals (bs ++ [71, 71])) → Sq y (some ⟨W.heap.size, 0, none⟩) len (len + 2) bs ∧ y.cell? ⟨W.heap.size, len, none⟩ = some (.int .u8 71) ∧ y.cell? ⟨W.heap.size, len + 1, none⟩ = some (.int .u8 71)) := fun y hy => sq_own HLN.out H.out.wf hy
  rw [← eg] at CO IN
  have EG := hide eg
  clear h ht en eE eg
  go_enter Tryd.func3, Tryd.ntmps3
  go_wp2_with fail
  refine CO.out.mono ?_
  rintro e w1 ⟨rfl, hb1, hr1⟩
  have B1 : Hid (Below W.heap.size W w1) := by rw [EG.out] at hb1; exact hb1
  have R1 := hide hr1
  have LG : Hid (g < w1.heap.size) := (hr1.lt g rfl).2
  clear hb1 hr1 CO
  go_wp2_with fail
  refine (CC.out _ _ _ (IN.out _ R1.out).1 (HT.out.below B1.out)).mono ?_
  rintro e w2 ⟨aX, cX, lX, rfl, hb2, hl2, he2⟩
  have B2 : Hid (Below W.heap.size W w2) := below_step B1.out hb2
  have R2 := hide (row_below R1.out hb2)
  have X2 : Hid (Ls w2 (fun k => k ≠ g) aX n lX) := hl2.ls (by omega) (fun k hk => by have := LG.out; omega)
  have EX := hide he2
  have S2 : Hid (g < w2.heap.size) := Nat.lt_of_lt_of_le LG.out hb2.size
  clear hb2 hl2 he2 R1
  go_wp2_with fail
  refine (CR.out _ B2.out).mono ?_
  rintro e w3 ⟨aY, cY, lY, rfl, hb3, hl3, he3⟩
  have B3 : Hid (Below W.heap.size W w3) := below_step B2.out hb3
  have R3 := hide (row_below R2.out hb3)
  have X3 := hide (X2.out.below hb3)
  have Y3 : Hid (Ls w3 (fun k => k ≠ g) aY n lY) := hl3.ls (by omega) (fun k hk => by have := S2.out; omega)
  have EXY : Hid (lX.map Pv.pc = lY.map Pv.pc) := by show _ = _; rw [EX.out, he3]
  clear hb3 hl3 he3 X2 R2
  go_wp2_with fail
  refine (awake_any (HT.out.below B3.out)).mono ?_
  rintro e w4 ⟨rfl, hb4⟩
  have B4 : Hid (Below W.heap.size W w4) := below_step B3.out hb4
  have R4 := hide (row_below R3.out hb4)
  have X4 := hide (X3.out.below hb4)
  have Y4 := hide (Y3.out.below hb4)
  clear hb4 X3 Y3 R3
  obtain ⟨k1, k2, k3⟩ := IN.out _ R4.out
  have CK := hide (kept_sq 71 k1 (H.out.below B4.out) (by omega) k2 k3)
  clear k1 k2 k3
  go_wp2_with fail
  refine CK.out.mono ?_
  rintro e w5 ⟨rfl, m5, e5⟩
  have hb5 : Below w4.heap.size w4 w5 := by rw [e5]; exact below_drewN8 (Below.refl _ _) _
  have B5 : Hid (Below W.heap.size W w5) := below_step B4.out hb5
  have R5 := hide (row_below R4.out hb5)
  have X5 := hide (X4.out.below hb5)
  have Y5 := hide (Y4.out.below hb5)
  clear hb5 e5 X4 Y4 R4 CK
  go_wp2_with fail
  refine (same_pieces X5.out Y5.out (by omega) EXY.out).mono ?_
  rintro e w6 ⟨rfl, hb6⟩
  have B6 : Hid (Below W.heap.size W w6) := below_step B5.out hb6
  have R6 := hide (row_below R5.out hb6)
  have X6 := hide (X5.out.below hb6)
  have Y6 := hide (Y5.out.below hb6)
  clear hb6 X5 Y5 R5
  have RR : Hid (∃ cs, w6.heap[g]? = some (.cells cs 5 (0, 0)) ∧ len + 2 ≤ cs.size) := by
    obtain ⟨_, ⟨e1, _⟩ | ⟨g', cp, cur, e1, _, hg, h1, _, h2, _⟩⟩ := R6.out
    · cases e1
    · obtain ⟨e2, e3⟩ : g = g' ∧ len + 2 = cp := by simpa using e1
      subst e2
      exact ⟨cur, hg, by omega⟩
  clear R6
  go_wp2_with fail
  go_loopw [8] (fun x wr => ∃ k : Nat, k ≤ len ∧ x = .int .i64 k ∧ Hid (Below W.heap.size W wr) ∧ Hid (Ls wr (fun k => k ≠ g) aX n lX) ∧ Hid (Ls wr (fun k => k ≠ g) aY n lY) ∧ Hid (∃ cs, wr.heap[g]? = some (.cells cs 5 (0, 0)) ∧ len + 2 ≤ cs.size)) (fun x _ => len - (intOf x).toNat)
  case atStart => exact ⟨0, Nat.zero_le _, rfl, B6, X6, Y6, RR⟩
  case round =>
    obtain ⟨k, hk, rfl, HB, HX, HY, HR⟩ := hrel
    by_cases hlt : k < len
    · have i1 : (k : Int) < (len : Int) := by omega
      have i2 : (0 : Int) ≤ (k : Int) := by omega
      obtain ⟨cs, hg, hs⟩ := HR.out
      obtain ⟨v, hv⟩ : ∃ v, wr.cell? ⟨g, k, none⟩ = some v := by
        rw [cell_of_row _ _ _ _ _ _ hg]
        exact ⟨_, Array.getElem?_eq_getElem (by omega)⟩
      have fz : wr.frozen? ⟨g, k, none⟩ = false := by simp [World.frozen?, hg]
      have GC : Hid (Chg (fun k => k = g) wr (wr.setCell ⟨g, k, none⟩ (.int .u8 98))) := (Chg.refl (fun k => k = g) wr).setCell (p := ⟨g, k, none⟩) (.inl rfl) _
      have B7 : Hid (Below W.heap.size W (wr.setCell ⟨g, k, none⟩ (.int .u8 98))) := HB.out.trans (GC.out.below HB.out.size (fun k hk => by rw [hk, EG.out]; exact Nat.le_refl _))
      have X7 := hide (HX.out.chg GC.out (fun k hk hn => hn hk))
      have Y7 := hide (HY.out.chg GC.out (fun k hk hn => hn hk))
      have R7 : Hid (∃ cs, (wr.setCell ⟨g, k, none⟩ (.int .u8 98)).heap[g]? = some (.cells cs 5 (0, 0)) ∧ len + 2 ≤ cs.size) := ⟨_, put_row hg, by simpa using hs⟩
      clear hg hs
      go_wp2_with fail
      go_roundw
      case rel => exact ⟨k + 1, by omega, by go_num, B7, X7, Y7, R7⟩
      case measure => simp [intOf]; omega
    · go_wp2_with fail
      refine (same_pieces HX.out HY.out (by omega) EXY.out).mono ?_
      rintro e w8 ⟨rfl, hb8⟩
      have B8' : Hid (Below W.heap.size W w8) := below_step HB.out hb8
      clear hb8
      go_wp2_with fail
      go_ret
      exact ⟨rfl, B8'.out⟩
theorem gTab : Tryd.prog.globalNamed "purse/codec.halves" = some 0 := by kernel_rfl
theorem gTabType : (Tryd.prog.globals[0]?).map (·.type) = some 66 := by kernel_rfl
theorem cellsT : Tryd.prog.cellsOf 66 = 16 := by kernel_rfl
theorem cellsE : Tryd.prog.cellsOf 31 = 1 := by kernel_rfl
theorem table {W : World} (h : laidMetH Tryd.prog Rows.chunkCutsRow.laid W) : Tab W := by
  have t : Lib.TabIs Tryd.prog W "purse/codec.halves" .u32 Crc.tab := Lib.tabIs_of_head (rest := []) gTab gTabType Tryd.underlying66 Tryd.underlying31 cellsE cellsT h
  intro j hj
  rw [t.cell gTab j hj]
  simp [List.getD]
theorem contract (H : Type) (enc : TypeId × Value → H) (W : World) (base : Nat) (args : Array Value) (ds gs : List (DataW H)) (before : List MemPlace)
    (hval0 : ∀ (j : Nat) t v, Tryd.f3.params[j]? = some t → args[j]? = some v → Value.okWide Tryd.prog W .any base t v)
    (hW : DataW.Whole enc Tryd.prog Tryd.f3.params.toList Rows.chunkCutsSpec.vars false W args.toList ds gs before)
    (hsz0 : (DataW.weightsEach Tryd.prog (Tryd.f3.params.toList ++ Rows.chunkCutsSpec.plain.varTypes Tryd.prog) (ds ++ gs)).all (· ≤ reachBytes) = true) (hL : laidMetH Tryd.prog Rows.chunkCutsRow.laid W) :
    Calls Tryd.prog 3 args W fun e W' => ∃ v, e = .returned v ∧ Rows.chunkCutsSpec.post enc Tryd.prog Tryd.f3 false true false false W args v W' := by
  have hsz : (DataW.weightsEach Tryd.prog (Tryd.f3.params.toList ++ Rows.chunkCutsSpec.plain.varTypes Tryd.prog) (ds ++ gs)).all (· ≤ reachBytes) = true := hsz0
  have hval : ∀ (j : Nat) t v, Tryd.f3.params[j]? = some t → args[j]? = some v → Value.okWide Tryd.prog W .any base t v := hval0
  have hW' := hW
  obtain ⟨p, q, hA0, hV, rfl, hfz, hnd⟩ := hW
  have hA : DataW.TrodAll enc Tryd.prog W 0 (fun _ => true) true Tryd.f3.params.toList args.toList ds p := hA0
  rw [Tryd.params3] at hA hval hsz
  obtain ⟨v0, vs0, d0, ds0, p0, q0, hargs, rfl, rfl, h0, r0⟩ := trodAll_cons hA
  obtain ⟨rfl, rfl, rfl⟩ := trodAll_nil r0
  obtain rfl : args = #[v0] := by cases args; simp_all
  obtain ⟨rfl, rfl⟩ := trodVars_none hV
  have lt0 : ∀ x ∈ p0, x.block < W.heap.size := by obtain ⟨m, hm⟩ := h0; exact DataW.trod_lt m _ _ _ hm
  obtain ⟨a, len, cap, bs, rfl, h⟩ := open_sq_sized (hval 0 22 v0 rfl rfl) h0 (fun elems spare e => by have h := hsz; rw [e] at h; exact sized_slice h (j := 0) (t := 22) (e := 5) rfl rfl Tryd.underlying22)
  clear hA0 hval0
  refine (walk h.1 h.2 (table hL)).mono fun e W' ⟨he, bel⟩ => ?_
  subst he
  exact ⟨_, rfl, _, _, _, [], _, [], hW', trodAll_mk1 (shut_bool Tryd.underlying4 _), (trodAll_cons_mk (Below.trod laidOut (by kernel_rfl) (of_decide_eq_true (by kernel_rfl)) h0 bel lt0) trodAll_mk0), rfl, bel.frame _, fun h => by cases h⟩

noncomputable def laidWorld (os : Os) : World :=
  { World.holding Tryd.prog os ⟨#[], #[], []⟩ with heap := (World.holding Tryd.prog os ⟨#[], #[], []⟩).heap.modify 0 fun
      | .cells _ t frozen => .cells #[.int .u32 0, .int .u32 498536548, .int .u32 997073096, .int .u32 651767980, .int .u32 1994146192, .int .u32 1802195444, .int .u32 1303535960, .int .u32 1342533948, .int .u32 3988292384, .int .u32 4027552580, .int .u32 3604390888, .int .u32 3412177804, .int .u32 2607071920, .int .u32 2262029012, .int .u32 2685067896, .int .u32 3183342108] t frozen
      | o => o }
theorem laid_met (os : Os) : laidMet Tryd.prog Rows.chunkCutsRow.laid ((laidWorld os).forCall (fun _ _ => 0) ⟨#[], #[Value.slice none 0 0], []⟩).memory :=
  laidMet_of_run' 8 (by kernel_rfl) (by kernel_rfl)
theorem reads (os : Os) {H : Type} (enc : TypeId × Value → H) : ∃ places, DataW.whole enc Tryd.prog ((laidWorld os).forCall (fun _ _ => 0) ⟨#[], #[Value.slice none 0 0], []⟩).memory Tryd.f3.params.toList Rows.chunkCutsSpec.vars false #[Value.slice none 0 0].toList 8 = some ([.nil], [], places) :=
  ⟨[], by kernel_rfl⟩
set_option maxRecDepth 100000 in
theorem lifted (os : Os) (started : os.Started) (H : Type) (enc : TypeId × Value → H) (F : Stop.Interp) :
    ReturnsInHanded {} Tryd.checked os 3 .any ((OpenSpec.ofChange Rows.chunkCutsSpec).preRow enc Tryd.prog Tryd.f3 Rows.chunkCutsRow.domain false Rows.chunkCutsRow.laid) (((OpenSpec.ofChange Rows.chunkCutsSpec).at F).post enc Tryd.prog Tryd.f3 false true false false) := by
  obtain ⟨places, hx⟩ := reads os enc
  refine returnsInHanded_of_row (C := Tryd.checked) (s := OpenSpec.ofChange Rows.chunkCutsSpec) own started (by kernel_rfl) Tryd.func3
    (witness_row_at (enc := enc) (C := Tryd.checked) false (laidWorld os) #[Value.slice none 0 0] rfl (by kernel_rfl) (by kernel_rfl) (by kernel_rfl)
      (OpenSpec.preRow_of_cond 8 hx (by kernel_rfl) (fun k hk => by cases hk) (by kernel_rfl) (laid_met os))) ?_
  intro W base args ds gs before hval hW _ _ hsz hL _ _
  exact contract H enc W base args ds gs before hval hW hsz hL

theorem said : Rows.ChunkCutsSaid :=
  OpenClaim.holds_of_cond 3 Tryd.f3 rfl rfl rfl rfl rfl rfl rfl ⟨rfl, rfl, rfl, rfl, rfl⟩ rfl rfl rfl rfl rfl (by kernel_rfl) Tryd.func3 (by kernel_rfl)
    (of_decide_eq_true (by kernel_rfl)) (by unfold Func.isWrapper; first | (rw [if_pos (by decide +kernel)]; kernel_rfl) | (rw [if_neg (by decide +kernel)]; exact ⟨rfl, rfl⟩))
    (fun os started H enc _ F => by rw [OpenClaim.pre_eq_preRow]; exact lifted os started H enc F)
theorem plain (f : FuncId) (fn : Func) (hf : Tryd.pinned.checked.prog.funcNamed "purse/purselaw12.ChunkCuts" = some f) (hfn : Tryd.pinned.checked.prog.funcs[f]? = some fn) :
    true = Tryd.pinned.checked.prog.looks [] ∧ ∀ (j : Nat) t, fn.params[j]? = some t → Tryd.pinned.checked.prog.wantsStandIn t = false := by
  obtain rfl : f = 3 := Option.some.inj ((show Tryd.prog.funcNamed "purse/purselaw12.ChunkCuts" = some 3 by kernel_rfl).symm.trans hf) |>.symm
  obtain rfl : fn = Tryd.f3 := (Option.some.inj (Tryd.func3.symm.trans hfn)).symm
  refine ⟨by kernel_rfl, fun j t ht => ?_⟩
  rw [Tryd.params3] at ht
  have hmem := Array.mem_of_getElem? ht
  have ht2 : t = 22 := by simpa using hmem
  rcases ht2 with rfl
  exact (show Tryd.prog.wantsStandIn 22 = false by kernel_rfl)
theorem card : Rows.ChunkCutsCardSaid :=
  Claim7.holds_tied_plain_at .later [] _ _ _ _ said (fun _ h => by cases h) (by kernel_rfl) (fun _ h => by cases h) chunkCuts_row_tie rfl ⟨rfl, rfl⟩ (by kernel_rfl) rfl plain (by kernel_rfl)
#print axioms card
end ChunkCuts
theorem chunkCuts_holds : Rows.ChunkCutsCardSaid := ChunkCuts.card
end Go.Proofs.YtokdlkfjimihjaaDoor
