/- ClockPlays: whatever is set, stopped and ticked, each answer, what is set, and when it is due, is the document's: for every list of calls. No condition. -/
import Derived.Test.YtoganfdpaagomaaClockStep
namespace Go.Proofs.Ytoganfdpaagomaa
open Go.ChangeShapes Go.WideShapes Go.ChangeAt Go.RowKit Cm
set_option linter.unusedVariables false

namespace ClockPlays
theorem both_new {w1 : World} {N0 D : Nat} {L0 : Ql} (hd : Cl w1 D L0 newS 0) (hl : ∀ k, Cb D L0 k → N0 ≤ k) (hN : N0 ≤ w1.heap.size) :
    Both (w1.alloc (.cells #[.int .i64 0, .slice none 0 0] 28)) N0 D w1.heap.size newS (0 : Nat) := by
  have N := heap_alloc_new w1 (.cells #[.int .i64 0, .slice none 0 0] 28)
  have nb : ∀ k, Rb w1.heap.size none k → k = w1.heap.size := fun k hk => by
    rcases hk with h | h
    · exact h
    · simp [Value.ownBlock] at h
  refine ⟨L0, none, 0, (hd.below (below_alloc (Below.refl _ _) _)).mono (by simp), ⟨by rw [cell_of_row _ _ 0 _ _ _ N]; rfl, by rw [cell_of_row _ _ 1 _ _ _ N]; rfl, fun o => by unfold World.frozen?; rw [N]; simp, ⟨rfl, .inl ⟨rfl, rfl⟩⟩, by simp [Value.ownBlock]⟩, hl, fun k hk => by rw [nb k hk]; exact hN, fun k hk hr => ?_⟩
  have h1 := hd.lt k hk
  have h2 := nb k hr
  omega
set_option maxRecDepth 100000 in
set_option maxHeartbeats 4000000 in
theorem walk {w : World} {a : Option Addr} {len cap : Nat} {os : Nat → Opd} (h : Ops w a len os) :
    Calls Try.prog 3 #[.slice a len cap] w fun e w' => e = .returned (.bool true) ∧ Below w.heap.size w w' := by
  have H := hide h
  have RM := h.room
  have NY := hide (new_any w)
  clear h
  go_enter Try.func3, Try.ntmps3
  go_wp2_with fail
  refine NY.out.mono ?_
  rintro e w1 ⟨rfl, hb, L0, hd, hl⟩
  have B1 := hide (below_alloc hb (.cells #[.int .i64 0, .slice none 0 0] 28))
  have D1 := hide (both_new hd hl hb.size)
  generalize w.heap.size + 2 = D at D1 ⊢
  clear hb hd hl NY
  go_wp2_with fail
  refine (awake_any _).mono ?_
  rintro e w2 ⟨rfl, hb2⟩
  have B2 := hide (below_step B1.out hb2)
  have D2 := hide (D1.out.below hb2)
  generalize w1.heap.size = R at D1 D2 ⊢
  clear hb2 B1 D1
  go_wp2_with fail
  go_loopw [5, 6, 7, 8, 9] (fun i _ _ _ _ wr => ∃ (k : Nat) (s : Cs), k ≤ len ∧ i = .int .i64 k ∧ Hid (Below w.heap.size w wr) ∧ Hid (Both wr w.heap.size D R s k)) (fun i _ _ _ _ _ => len - (intOf i).toNat)
  case atStart => exact ⟨0, _, Nat.zero_le _, rfl, B2, D2⟩
  case round =>
    clear B2 D2
    obtain ⟨k, s, hk, rfl, HB, HD⟩ := hrel
    by_cases hlt : k < len
    · obtain ⟨ob, off, rfl, oblt, hoc⟩ := H.out.cells (by omega)
      have SZ := hide (H.out.each k hlt)
      have hr := rangeAt_same (hoc k hlt) (HB.out.block ob oblt)
      generalize os k = o at *
      obtain ⟨kind, name, d⟩ := o
      obtain ⟨o0, o1, o2⟩ := opc_cells hr
      have OB : Hid (ob < w.heap.size) := oblt
      clear hr hoc oblt
      have i1 : (k : Int) < (len : Int) := by omega
      have i2 : (0 : Int) ≤ (k : Int) := by omega
      have NW : Hid (w.heap.size ≤ wr.heap.size) := HB.out.size
      have KB : Hid ((k : Int) < 1000000000000000000) := by show _ < _; omega
      have DD : Hid (Both wr.drew w.heap.size D R s k) := HD.out.below (Below.refl _ _).drew
      have CS := hide (step_any DD.out NW.out KB.out kind name d SZ.out)
      generalize stepS s ⟨kind, name, d⟩ = s' at CS
      go_wp2_with fail
      go_region_with (
        (first
          | (go_at_call 10; refine CS.out.mono ?_; rintro e w4 ⟨rfl, hb4, hb5⟩; obtain ⟨L4, a4, c4, hbl⟩ := hb5; have B4 := hide hb4; have D4 := hide hbl; have x0 := (hb4.cell (p := ⟨ob, off + k * 3, none⟩) OB.out).trans o0; have x1 := (hb4.cell (p := ⟨ob, off + k * 3 + 1, none⟩) OB.out).trans o1; have x2 := (hb4.cell (p := ⟨ob, off + k * 3 + 2, none⟩) OB.out).trans o2; have n0 := hbl.rc.c0; have CN := hide (now_any hbl.cl); have CM := hide (names_any hbl.cl); have L4 : Hid (w.heap.size ≤ w4.heap.size) := Nat.le_trans NW.out hb4.size; clear hb4 hbl)
          | (go_at_call 11; refine CN.out.mono ?_; rintro e w5 ⟨rfl, rfl⟩)
          | (go_at_call 13; refine CM.out.mono ?_; intro e w5 hnp; obtain ⟨a5, c5, rfl, TD5, hb5⟩ := hnp; have T5 := hide TD5; have B5 := hide (B4.out.trans (hb5.mono L4.out)); have D5 := hide (D4.out.below hb5); have y0 := (hb5.cell (p := ⟨ob, off + k * 3, none⟩) (Nat.lt_of_lt_of_le OB.out L4.out)).trans x0; have y1 := (hb5.cell (p := ⟨ob, off + k * 3 + 1, none⟩) (Nat.lt_of_lt_of_le OB.out L4.out)).trans x1; have y2 := (hb5.cell (p := ⟨ob, off + k * 3 + 2, none⟩) (Nat.lt_of_lt_of_le OB.out L4.out)).trans x2; have L5 : Hid (w.heap.size ≤ w5.heap.size) := Nat.le_trans L4.out hb5.size; have CR := hide (rnames_any D5.out.rc D5.out.cl.ok); clear hb5 TD5 n0)
          | (go_at_call 14; refine CR.out.mono ?_; intro e w6 hnp; obtain ⟨a6, c6, rfl, TD6, hb6⟩ := hnp; have PL := hide (plain_same (c1 := c5) (c2 := c6) ((T5.out.strl rfl).below hb6) (TD6.strl rfl) (by unfold namesS; rw [names_length, (srt_perm _).length_eq]; have := D5.out.cl.ok.len; omega)); have B6 := hide (B5.out.trans (hb6.mono L5.out)); have D6 := hide (D5.out.below hb6); have z0 := (hb6.cell (p := ⟨ob, off + k * 3, none⟩) (Nat.lt_of_lt_of_le OB.out L5.out)).trans y0; have z1 := (hb6.cell (p := ⟨ob, off + k * 3 + 1, none⟩) (Nat.lt_of_lt_of_le OB.out L5.out)).trans y1; have z2 := (hb6.cell (p := ⟨ob, off + k * 3 + 2, none⟩) (Nat.lt_of_lt_of_le OB.out L5.out)).trans y2; have L6 : Hid (w.heap.size ≤ w6.heap.size) := Nat.le_trans L5.out hb6.size; clear hb6 TD6)
          | (go_at_call 12; refine PL.out.mono ?_; rintro e w7 ⟨rfl, hb7⟩; have B7 := hide (B6.out.trans (hb7.mono L6.out)); have D7 := hide (D6.out.below hb7); have v0 := (hb7.cell (p := ⟨ob, off + k * 3, none⟩) (Nat.lt_of_lt_of_le OB.out L6.out)).trans z0; have v1 := (hb7.cell (p := ⟨ob, off + k * 3 + 1, none⟩) (Nat.lt_of_lt_of_le OB.out L6.out)).trans z1; have v2 := (hb7.cell (p := ⟨ob, off + k * 3 + 2, none⟩) (Nat.lt_of_lt_of_le OB.out L6.out)).trans z2; clear hb7)))
      all_goals
        have CD := hide (due_any D7.out.cl name SZ.out)
        have CE := hide (rdue_any D7.out.rc D7.out.cl.ok name)
        generalize dueV s' name = dv at CD CE
        generalize has s' name = hv at CD CE
        clear o0 o1 o2 x0 x1 x2 y0 y1 y2 z0 z1 z2 PL CR CM CN
        simp only [List.getElem_toArray, List.getElem_cons_succ, List.getElem_cons_zero, Act.put, List.setIfInBounds_toArray, List.set_cons_zero, List.set_cons_succ]
        go_wp2_with fail
        refine CD.out.mono ?_
        rintro e w8 ⟨rfl, rfl⟩
        go_wp2_with fail
        refine CE.out.mono ?_
        rintro e w9 ⟨rfl, rfl⟩
        cases hv with
        | true =>
          go_wp2_with fail
          go_roundw
          case rel => exact ⟨k + 1, s', by omega, by go_num, HB.out.trans ((Below.refl _ _).drew.trans B7.out), ⟨_, _, _, D7.out.mono (by omega)⟩⟩
          case measure => simp [intOf]; omega
        | false =>
          go_wp2_with fail
          go_roundw
          case rel => exact ⟨k + 1, s', by omega, by go_num, HB.out.trans ((Below.refl _ _).drew.trans B7.out), ⟨_, _, _, D7.out.mono (by omega)⟩⟩
          case measure => simp [intOf]; omega
    · obtain rfl : k = len := by omega
      clear hlt hk
      go_wp2_with fail
      go_ret
      exact ⟨rfl, HB.out⟩

set_option maxRecDepth 100000 in
theorem lifted (os : Os) (started : os.Started) (H : Type) (enc : TypeId × Value → H) :
    ReturnsInHanded {} Try.checked os 3 .any (Rows.clockPlaysSpec.pre6 enc Try.prog Try.f3 Rows.clockPlaysRow.domain false) (Rows.clockPlaysSpec.post enc Try.prog Try.f3 false true false false) := by
  refine returnsInHanded_of_change_sized (C := Try.checked) own started (by kernel_rfl) Try.func3
    (ChangeSpec.witness6 (enc := enc) (C := Try.checked) false ⟨#[], #[.slice none 0 0], []⟩ 8 (by kernel_rfl) (by kernel_rfl) (by kernel_rfl) (by kernel_rfl)) ?_
  intro W base args ds gs before hval0 hW hcnd hsz0 _
  have hsz : (DataW.weightsEach Try.prog (Try.f3.params.toList ++ Rows.clockPlaysSpec.plain.varTypes Try.prog) (ds ++ gs)).all (· ≤ reachBytes) = true := hsz0
  have hval : ∀ (j : Nat) t v, Try.f3.params[j]? = some t → args[j]? = some v → Value.okWide Try.prog W .any base t v := hval0
  have hW' := hW
  obtain ⟨p, q, hA0, hV, rfl, hfz, hnd⟩ := hW
  have hA : DataW.TrodAll enc Try.prog W 0 (fun _ => true) true Try.f3.params.toList args.toList ds p := hA0
  rw [Try.params3] at hA hval hsz
  obtain ⟨v0, vs0, d0, ds0, p0, q0, hargs, rfl, rfl, h0, r0⟩ := trodAll_cons hA
  obtain ⟨rfl, rfl, rfl⟩ := trodAll_nil r0
  obtain rfl : args = #[v0] := by cases args; simp_all
  obtain ⟨rfl, rfl⟩ := trodVars_none hV
  have lt0 : ∀ x ∈ p0, x.block < W.heap.size := by obtain ⟨m, hm⟩ := h0; exact DataW.trod_lt m _ _ _ hm
  obtain ⟨a, len, cap, os, rfl, ho⟩ := open_ops_held (hval 0 22 v0 rfl rfl) h0 (fun n hn => by have h := List.all_eq_true.1 hsz n (DataW.weights_mem_each (j := 0) rfl rfl n hn); simpa using h)
  clear hA0 hval0
  refine (walk ho).mono fun e W' ⟨he, bel⟩ => ?_
  subst he
  exact ⟨_, rfl, _, _, _, [], _, [], hW', trodAll_mk1 (shut_bool Try.underlying4 _), (trodAll_cons_mk (Below.trod laidOut (by kernel_rfl) (of_decide_eq_true (by kernel_rfl)) h0 bel lt0) trodAll_mk0), rfl, bel.frame _, fun h => by cases h⟩

theorem over : Rows.clockPlaysRow.holds Try.pinned (OpenSpec.ofChange Rows.clockPlaysSpec) :=
  OpenClaim.holds_of_wide 3 Try.f3 rfl rfl rfl rfl rfl rfl rfl ⟨rfl, rfl, rfl, rfl, rfl⟩ rfl rfl rfl rfl rfl (by kernel_rfl) Try.func3 (by kernel_rfl)
    (of_decide_eq_true (by kernel_rfl)) (by unfold Func.isWrapper; first | (rw [if_pos (by decide +kernel)]; kernel_rfl) | (rw [if_neg (by decide +kernel)]; exact ⟨rfl, rfl⟩))
    (fun os started H enc _ => lifted os started H enc)

theorem proved : Rows.ClockPlaysSaid := over
#print axioms proved
end ClockPlays
theorem clockPlays_holds : Rows.ClockPlaysSaid := ClockPlays.proved
end Go.Proofs.Ytoganfdpaagomaa
