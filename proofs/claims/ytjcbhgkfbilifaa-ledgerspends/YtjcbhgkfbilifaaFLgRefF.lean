/- What a node reports, as the document says it; an account copied; two commands alike. Condition: the ledger and the account can be read. -/
import Derived.Test.YtjcbhgkfbilifaaFLgRefE
import Derived.Test.YtjcbhgkfbilifaaFRowAdd
namespace Go.Proofs.Ytjcbhgkfbilifaa
open Go.ChangeShapes Go.WideShapes Go.ChangeAt Go.RowKit Ao Lg
set_option linter.unusedVariables false

/-- a list of holders appended to nil, as a run -/
theorem copy_h {w : World} {a : Option Addr} {n c : Nat} {l : List Hd} (ty : TypeId) (h : Hs w a n l) (hc : Cp a n c) :
    ∃ a' c' w', (Builtin.append_ #[24, 24] ty #[.slice none 0 0, .slice a n c]).run Try.prog w = .ok (.slice a' n c') w' ∧ Below w.heap.size w w' ∧ Hs w' a' n l ∧ Fr w.heap.size a' ∧ Cp a' n c' := by
  obtain ⟨i0, hi, hz0, hz1, hz2⟩ := info_parts FnH.info
  cases a with
  | none =>
    obtain ⟨rfl, rfl⟩ := h.noAddr
    obtain rfl := hc.no rfl
    exact ⟨none, 0, w, run_append_owned_none (P := Try.prog) w w.heap.size 24 ty 33 i0 4 Try.underlying24 hi (.slice none 0 0) 0 [] (World.ownsRow_nil _ _ _ _), Below.refl _ _, Rl.nil _, fr_none _, cp_none⟩
  | some ad =>
    have hr := h.room
    obtain ⟨v', w1, hrun, hown, hg, _⟩ := run_append_own (P := Try.prog) w w.heap.size 24 ty 33 i0 _ 4 32 Try.underlying24 hi hz0 hz1 hz2 rfl (by omega) (.slice none 0 0) 0 [] (World.ownsRow_nil _ _ _ _) ad n c (fcells henc l) (by rw [fcells_length hflat, h.len]) (h.news hflat ad rfl) (fcells_one hflat l) (by unfold maxLen; omega) (by omega) (Nat.le_refl _)
    rw [Nat.zero_add, List.nil_append] at hown
    have hb1 : Below w.heap.size w w1 := ⟨hg.os, hg.tape, hg.output, hg.size, fun k hk => hg.block k hk (by simp [Value.ownBlock])⟩
    obtain ⟨_, ⟨h5, h6⟩ | ⟨g, cp, cur, h5, hB, h6⟩⟩ := id hown
    · subst h5
      subst h6
      exact ⟨none, 0, w1, hrun, hb1, Rl.of_row hflat hown hr, fr_none _, cp_none⟩
    · subst h5
      refine ⟨_, _, w1, hrun, hb1, Rl.of_row hflat hown hr, fun ad e => ?_, ⟨(fun e => by cases e), h6.2.1⟩⟩
      obtain rfl := Option.some.inj e
      exact hB
theorem results_cell2' : True := trivial
set_option maxRecDepth 100000 in
set_option maxHeartbeats 8000000 in
theorem copyacc_x {w : World} {a : Option Addr} {n c : Nat} {A : Ac} (h : Hs w a n A.hs) (hc : Cp a n c) :
    Calls Try.prog 25 #[.agg #[.string A.key, .int .i64 A.lo, .int .i64 A.hi, .int .i64 A.base, .int .i64 A.rd, .slice a n c, .int .i64 A.lk.c, .int .i64 A.lk.s, .int .i64 A.lk.h, .int .i64 A.lk.n]] w fun e w' => ∃ a' c', e = .returned (.agg #[.string A.key, .int .i64 A.lo, .int .i64 A.hi, .int .i64 A.base, .int .i64 A.rd, .slice a' n c', .int .i64 A.lk.c, .int .i64 A.lk.s, .int .i64 A.lk.h, .int .i64 A.lk.n]) ∧ Hs w' a' n A.hs ∧ Below w.heap.size w w' ∧ Cp a' n c' := by
  obtain ⟨w1, ew, hb1, ha1, hz1⟩ := two_new w A a n c
  have HB1 := hide hb1
  have HA1 := hide ha1
  have HZ1 : Hid (w1.heap[w.heap.size + 1]? = _) := zrow hz1
  have hs1 : w.heap.size + 1 < w1.heap.size := (Array.getElem?_eq_some_iff.1 HZ1.out).1
  obtain ⟨a', c', w2, hrun, hb2, hh2, hf2, hc2⟩ := copy_h 24 (h.below hb1) hc
  obtain ⟨z0, z1, z2, z3, z4, z5, z6, z7, z8, z9⟩ := HA1.out.at_
  have HB2 : Hid (Below w.heap.size w w2) := hb1.trans (hb2.mono hb1.size)
  have HA2 := hide (HA1.out.below hb2)
  have HZ2 : Hid (w2.heap[w.heap.size + 1]? = _) := (hb2.block _ hs1).trans HZ1.out
  have HH2 := hide hh2
  have HF2 := hide hf2
  have HC2 := hide hc2
  clear h hc hb1 ha1 hz1 hb2 hh2 hf2 hc2
  go_enter Try.func25, Try.ntmps25
  go_upto_region 1 with fail
  rw [← ew]
  clear ew
  have HA3 : Hid (Ab (w2.setCell ⟨w.heap.size, 5, none⟩ (.slice a' n c')) w.heap.size A a' n c') := ⟨put_row' HA2.out.row⟩
  have HZ3 : Hid ((w2.setCell ⟨w.heap.size, 5, none⟩ (.slice a' n c')).heap[w.heap.size + 1]? = _) := (put_far (by omega)).trans HZ2.out
  have HH3 := hide (hs_put (o := 5) (u := .slice a' n c') HH2.out (aw_new HF2.out (show w.heap.size < w1.heap.size by omega)))
  have HB3 : Hid (Below w.heap.size w (w2.setCell ⟨w.heap.size, 5, none⟩ (.slice a' n c'))) := HB2.out.setCell (p := ⟨w.heap.size, 5, none⟩) (Nat.le_refl _) _
  have fz := HA2.out.fz
  have q5 := HA2.out.at_.c5
  go_upto_region 2 with (at_builtin; refine wp_append_run _ rfl (.const (.slice none 0 0)) (.tmp 4) 24 rfl _ _ hrun ?_)
  obtain ⟨w3, e3⟩ : ∃ w3, w3 = w2.setCell ⟨w.heap.size, 5, none⟩ (.slice a' n c') := ⟨_, rfl⟩
  rw [← e3] at HA3 HZ3 HH3 HB3 ⊢
  clear e3 fz q5 z0 z1 z2 z3 z4 z5 z6 z7 z8 z9 hrun
  obtain ⟨z0, z1, z2, z3, z4, z5, z6, z7, z8, z9⟩ := HA3.out.at_
  go_wp2_with (refine wpList_store_row rfl 28 (.tmp 2) (.tmp 7) rfl (w.heap.size + 1) #[.string A.key, .int .i64 A.lo, .int .i64 A.hi, .int .i64 A.base, .int .i64 A.rd, .slice a' n c', .int .i64 A.lk.c, .int .i64 A.lk.s, .int .i64 A.lk.h, .int .i64 A.lk.n] rfl rfl 28 #[.string ⟨#[]⟩, .int .i64 0, .int .i64 0, .int .i64 0, .int .i64 0, .slice none 0 0, .int .i64 0, .int .i64 0, .int .i64 0, .int .i64 0] HZ3.out ac_info rfl (by simp [Value.oneCell']) ?_)
  refine bodyPost_ret (v := .agg #[.string A.key, .int .i64 A.lo, .int .i64 A.hi, .int .i64 A.base, .int .i64 A.rd, .slice a' n c', .int .i64 A.lk.c, .int .i64 A.lk.s, .int .i64 A.lk.h, .int .i64 A.lk.n]) ?r ?d ?_
  case r => exact results_cell' rfl _ _ (w.heap.size + 1) 28 #[.string A.key, .int .i64 A.lo, .int .i64 A.hi, .int .i64 A.base, .int .i64 A.rd, .slice a' n c', .int .i64 A.lk.c, .int .i64 A.lk.s, .int .i64 A.lk.h, .int .i64 A.lk.n] (0, 0) _ rfl (setRow_heap _ _ _ _ _ _ HZ3.out) Try.underlying28 rfl ac_info
  case d => rfl
  exact ⟨a', c', rfl, rl_row HH3.out (aw_new HF2.out (show w.heap.size + 1 < w1.heap.size by omega)), below_setRow HB3.out (by omega) _, HC2.out⟩
set_option maxRecDepth 100000 in
theorem pl_none (w : World) : Calls Try.prog 125 #[.slice none 0 0, .slice none 0 0] w fun e w' => e = .returned (.bool true) ∧ Below w.heap.size w w' := by
  go_enter Try.func125, Try.ntmps125
  go_wp2_with fail
  refine wp_loop_rounds 1 ?_
  rw [rounds_succ]
  go_wp2_with fail
  go_returns
  exact ⟨rfl, by go_grown⟩
set_option maxRecDepth 100000 in
theorem bytes_none (w : World) : Calls Try.prog 77 #[.slice none 0 0, .slice none 0 0] w fun e w' => e = .returned (.bool true) ∧ Below w.heap.size w w' := by
  go_enter Try.func77, Try.ntmps77
  go_wp2_with fail
  refine (pl_none _).mono ?_
  rintro e w1 ⟨rfl, hb⟩
  have HB := hide hb
  clear hb
  go_wp2_with fail
  go_returns
  exact ⟨rfl, HB.out⟩
set_option maxRecDepth 100000 in
set_option maxHeartbeats 40000000 in
theorem same_cmd (C : Cmd) (w : World) : Calls Try.prog 32 #[.agg #[.int .i64 C.kind, .int .i64 0, .int .i64 0, .int .i64 0, .int .i64 C.node, .int .i64 0, .string C.key, .int .i64 C.ls, .int .i64 C.rd, .int .i64 C.nt, .bool false, .int .i64 0, .string ⟨#[]⟩, .string ⟨#[]⟩, .int .i64 0, .int .i64 0, .int .i64 0, .int .i64 0, .int .i64 0, .int .i64 0, .string ⟨#[]⟩, .string ⟨#[]⟩, .int .i64 0, .int .i64 0, .slice none 0 0], .agg #[.int .i64 C.kind, .int .i64 0, .int .i64 0, .int .i64 0, .int .i64 C.node, .int .i64 0, .string C.key, .int .i64 C.ls, .int .i64 C.rd, .int .i64 C.nt, .bool false, .int .i64 0, .string ⟨#[]⟩, .string ⟨#[]⟩, .int .i64 0, .int .i64 0, .int .i64 0, .int .i64 0, .int .i64 0, .int .i64 0, .string ⟨#[]⟩, .string ⟨#[]⟩, .int .i64 0, .int .i64 0, .slice none 0 0]] w fun e w' => e = .returned (.bool true) ∧ Below w.heap.size w w' := by
  have HB : Hid (Below w.heap.size w ((w.alloc (.cells #[.int .i64 C.kind, .int .i64 0, .int .i64 0, .int .i64 0, .int .i64 C.node, .int .i64 0, .string C.key, .int .i64 C.ls, .int .i64 C.rd, .int .i64 C.nt, .bool false, .int .i64 0, .string ⟨#[]⟩, .string ⟨#[]⟩, .int .i64 0, .int .i64 0, .int .i64 0, .int .i64 0, .int .i64 0, .int .i64 0, .string ⟨#[]⟩, .string ⟨#[]⟩, .int .i64 0, .int .i64 0, .slice none 0 0] 63)).alloc (.cells #[.int .i64 C.kind, .int .i64 0, .int .i64 0, .int .i64 0, .int .i64 C.node, .int .i64 0, .string C.key, .int .i64 C.ls, .int .i64 C.rd, .int .i64 C.nt, .bool false, .int .i64 0, .string ⟨#[]⟩, .string ⟨#[]⟩, .int .i64 0, .int .i64 0, .int .i64 0, .int .i64 0, .int .i64 0, .int .i64 0, .string ⟨#[]⟩, .string ⟨#[]⟩, .int .i64 0, .int .i64 0, .slice none 0 0] 63))) := (Below.alloc (Below.refl _ _) (Nat.le_refl _) _).alloc (by simp) _
  go_enter Try.func32, Try.ntmps32
  go_wp2_with fail
  refine (bytes_none _).mono ?_
  rintro e w1 ⟨rfl, hb⟩
  have HB1 : Hid (Below w.heap.size w w1) := HB.out.trans (hb.mono HB.out.size)
  clear hb HB
  go_wp2_with fail
  go_returns
  exact ⟨rfl, HB1.out⟩
set_option maxRecDepth 100000 in
set_option maxHeartbeats 8000000 in
theorem rreport_a {w : World} {b a : Option Addr} {m d n c : Nat} {l : List Rt} {g node v : Int} {A : Ac} {X : Hd} {z zl : Bool} (hl : Rs w b m l) (h : Hs w a n A.hs) (hw : AcW A) (eX : (findF A node).getD hd0 = X) (eZ : (findF A node).isSome = z) (eL : ledB l = zl) (k1 : zl = false) :
    Calls Try.prog 31 #[.slice b m d, .int .i64 g, .agg #[.string A.key, .int .i64 A.lo, .int .i64 A.hi, .int .i64 A.base, .int .i64 A.rd, .slice a n c, .int .i64 A.lk.c, .int .i64 A.lk.s, .int .i64 A.lk.h, .int .i64 A.lk.n], .int .i64 node] w fun e w' => e = .returned (.tuple #[.agg #[.int .i64 0, .int .i64 0, .int .i64 0, .int .i64 0, .int .i64 0, .int .i64 0, .string ⟨#[]⟩, .int .i64 0, .int .i64 0, .int .i64 0, .bool false, .int .i64 0, .string ⟨#[]⟩, .string ⟨#[]⟩, .int .i64 0, .int .i64 0, .int .i64 0, .int .i64 0, .int .i64 0, .int .i64 0, .string ⟨#[]⟩, .string ⟨#[]⟩, .int .i64 0, .int .i64 0, .slice none 0 0], .bool false]) ∧ Below w.heap.size w w' := by
  have RL := fun W => hide (fun hW : Below w.heap.size w W => rledger_any (c := d) (hl.below hW))
  rw [eL] at RL
  have GR := fun W => hide (rgroup_any g W)
  have FI := fun W => hide (fun hW : Below w.heap.size w W => rfind_any (c := c) (node := node) (h.below hW) hw)
  rw [eX, eZ] at FI
  unfold hval at FI
  subst k1
  clear hl h hw eX eZ eL GR
  obtain ⟨w1, ew, hb1, ha1, hz1⟩ := acc_rc w A a n c
  have HB1 := hide hb1
  have HA1 := hide ha1
  have HZ1 : Hid (w1.heap[w.heap.size + 1]? = _) := hz1
  have hz1l : w.heap.size + 1 < w1.heap.size := (Array.getElem?_eq_some_iff.1 hz1).1
  obtain ⟨z0, z1, z2, z3, z4, z5, z6, z7, z8, z9⟩ := HA1.out.at_
  clear hb1 ha1 hz1
  go_enter Try.func31, Try.ntmps31
  go_wp2_with fail
  rw [← ew]
  clear ew
  refine ((FI _).out HB1.out).mono ?_
  rintro e w2 ⟨rfl, hb⟩
  obtain ⟨w3, e3, hb3, hk3⟩ := hk_new w2 X
  have hbx : Below w1.heap.size w1 w3 := hb.trans (hb3.mono hb.size)
  have HS : Hid (Sy w w3 A a n c w2.heap.size X) := ⟨HB1.out.trans (hbx.mono HB1.out.size), HA1.out.below hbx, hk3⟩
  have HZ : Hid (w3.heap[w.heap.size + 1]? = _) := (hbx.block _ hz1l).trans HZ1.out
  have hzl : w.heap.size + 1 < w3.heap.size := Nat.lt_of_lt_of_le hz1l hbx.size
  clear hb hb3 hk3 hbx hz1l HB1 HA1 HZ1 FI z0 z1 z2 z3 z4 z5 z6 z7 z8 z9
  go_upto_region 2 with fail
  rw [← e3]
  clear e3
  obtain ⟨p, ep⟩ : ∃ p, p = w2.heap.size := ⟨_, rfl⟩
  rw [← ep] at HS ⊢
  clear ep
  obtain ⟨z0, z1, z2, z3, z4, z5, z6, z7, z8, z9⟩ := HS.out.ab.at_
  go_wp2_with fail
  clear z0 z1 z2 z3 z4 z5 z6 z7 z8 z9
  refine ((RL _).out HS.out.bl).mono ?_
  rintro e w4 ⟨rfl, hb⟩
  have HS4 := hide (HS.out.below hb)
  have HZ4 : Hid (w4.heap[w.heap.size + 1]? = _) := (hb.block _ hzl).trans HZ.out
  have hzl4 : w.heap.size + 1 < w4.heap.size := Nat.lt_of_lt_of_le hzl hb.size
  clear hb HS HZ hzl RL
  obtain ⟨z0, z1, z2, z3, z4, z5, z6, z7, z8, z9⟩ := HS4.out.ab.at_
  obtain ⟨x0, x1, x2, x3⟩ := HS4.out.hk.at_
  go_upto_region 3 with (fail)
  go_wp2_with (refine wpList_store_row rfl 63 (.tmp 8) (.tmp 35) rfl (w.heap.size + 1) #[.int .i64 0, .int .i64 0, .int .i64 0, .int .i64 0, .int .i64 0, .int .i64 0, .string ⟨#[]⟩, .int .i64 0, .int .i64 0, .int .i64 0, .bool false, .int .i64 0, .string ⟨#[]⟩, .string ⟨#[]⟩, .int .i64 0, .int .i64 0, .int .i64 0, .int .i64 0, .int .i64 0, .int .i64 0, .string ⟨#[]⟩, .string ⟨#[]⟩, .int .i64 0, .int .i64 0, .slice none 0 0] rfl rfl 63 #[.int .i64 0, .int .i64 0, .int .i64 0, .int .i64 0, .int .i64 0, .int .i64 0, .string ⟨#[]⟩, .int .i64 0, .int .i64 0, .int .i64 0, .bool false, .int .i64 0, .string ⟨#[]⟩, .string ⟨#[]⟩, .int .i64 0, .int .i64 0, .int .i64 0, .int .i64 0, .int .i64 0, .int .i64 0, .string ⟨#[]⟩, .string ⟨#[]⟩, .int .i64 0, .int .i64 0, .slice none 0 0] HZ4.out cm_info rfl (by simp [Value.oneCell']) ?_)
  refine bodyPost_ret (v := .tuple #[.agg #[.int .i64 0, .int .i64 0, .int .i64 0, .int .i64 0, .int .i64 0, .int .i64 0, .string ⟨#[]⟩, .int .i64 0, .int .i64 0, .int .i64 0, .bool false, .int .i64 0, .string ⟨#[]⟩, .string ⟨#[]⟩, .int .i64 0, .int .i64 0, .int .i64 0, .int .i64 0, .int .i64 0, .int .i64 0, .string ⟨#[]⟩, .string ⟨#[]⟩, .int .i64 0, .int .i64 0, .slice none 0 0], .bool false]) ?r ?d ?_
  case r => exact results_cell_tmp' rfl _ _ (w.heap.size + 1) 63 #[.int .i64 0, .int .i64 0, .int .i64 0, .int .i64 0, .int .i64 0, .int .i64 0, .string ⟨#[]⟩, .int .i64 0, .int .i64 0, .int .i64 0, .bool false, .int .i64 0, .string ⟨#[]⟩, .string ⟨#[]⟩, .int .i64 0, .int .i64 0, .int .i64 0, .int .i64 0, .int .i64 0, .int .i64 0, .string ⟨#[]⟩, .string ⟨#[]⟩, .int .i64 0, .int .i64 0, .slice none 0 0] (0, 0) _ (.bool false) rfl rfl (setRow_heap _ _ _ _ _ _ HZ4.out) Try.underlying63 rfl cm_info
  case d => rfl
  exact ⟨rfl, below_setRow HS4.out.bl (by omega) _⟩
set_option maxRecDepth 100000 in
set_option maxHeartbeats 8000000 in
theorem rreport_b {w : World} {b a : Option Addr} {m d n c : Nat} {l : List Rt} {g node v : Int} {A : Ac} {X : Hd} {z zl : Bool} (hl : Rs w b m l) (h : Hs w a n A.hs) (hw : AcW A) (eX : (findF A node).getD hd0 = X) (eZ : (findF A node).isSome = z) (eL : ledB l = zl) (k1 : zl = true) (k2 : z = false) :
    Calls Try.prog 31 #[.slice b m d, .int .i64 g, .agg #[.string A.key, .int .i64 A.lo, .int .i64 A.hi, .int .i64 A.base, .int .i64 A.rd, .slice a n c, .int .i64 A.lk.c, .int .i64 A.lk.s, .int .i64 A.lk.h, .int .i64 A.lk.n], .int .i64 node] w fun e w' => e = .returned (.tuple #[.agg #[.int .i64 0, .int .i64 0, .int .i64 0, .int .i64 0, .int .i64 0, .int .i64 0, .string ⟨#[]⟩, .int .i64 0, .int .i64 0, .int .i64 0, .bool false, .int .i64 0, .string ⟨#[]⟩, .string ⟨#[]⟩, .int .i64 0, .int .i64 0, .int .i64 0, .int .i64 0, .int .i64 0, .int .i64 0, .string ⟨#[]⟩, .string ⟨#[]⟩, .int .i64 0, .int .i64 0, .slice none 0 0], .bool false]) ∧ Below w.heap.size w w' := by
  have RL := fun W => hide (fun hW : Below w.heap.size w W => rledger_any (c := d) (hl.below hW))
  rw [eL] at RL
  have GR := fun W => hide (rgroup_any g W)
  have FI := fun W => hide (fun hW : Below w.heap.size w W => rfind_any (c := c) (node := node) (h.below hW) hw)
  rw [eX, eZ] at FI
  unfold hval at FI
  subst k1
  subst k2
  clear hl h hw eX eZ eL GR
  obtain ⟨w1, ew, hb1, ha1, hz1⟩ := acc_rc w A a n c
  have HB1 := hide hb1
  have HA1 := hide ha1
  have HZ1 : Hid (w1.heap[w.heap.size + 1]? = _) := hz1
  have hz1l : w.heap.size + 1 < w1.heap.size := (Array.getElem?_eq_some_iff.1 hz1).1
  obtain ⟨z0, z1, z2, z3, z4, z5, z6, z7, z8, z9⟩ := HA1.out.at_
  clear hb1 ha1 hz1
  go_enter Try.func31, Try.ntmps31
  go_wp2_with fail
  rw [← ew]
  clear ew
  refine ((FI _).out HB1.out).mono ?_
  rintro e w2 ⟨rfl, hb⟩
  obtain ⟨w3, e3, hb3, hk3⟩ := hk_new w2 X
  have hbx : Below w1.heap.size w1 w3 := hb.trans (hb3.mono hb.size)
  have HS : Hid (Sy w w3 A a n c w2.heap.size X) := ⟨HB1.out.trans (hbx.mono HB1.out.size), HA1.out.below hbx, hk3⟩
  have HZ : Hid (w3.heap[w.heap.size + 1]? = _) := (hbx.block _ hz1l).trans HZ1.out
  have hzl : w.heap.size + 1 < w3.heap.size := Nat.lt_of_lt_of_le hz1l hbx.size
  clear hb hb3 hk3 hbx hz1l HB1 HA1 HZ1 FI z0 z1 z2 z3 z4 z5 z6 z7 z8 z9
  go_upto_region 2 with fail
  rw [← e3]
  clear e3
  obtain ⟨p, ep⟩ : ∃ p, p = w2.heap.size := ⟨_, rfl⟩
  rw [← ep] at HS ⊢
  clear ep
  obtain ⟨z0, z1, z2, z3, z4, z5, z6, z7, z8, z9⟩ := HS.out.ab.at_
  go_wp2_with fail
  clear z0 z1 z2 z3 z4 z5 z6 z7 z8 z9
  refine ((RL _).out HS.out.bl).mono ?_
  rintro e w4 ⟨rfl, hb⟩
  have HS4 := hide (HS.out.below hb)
  have HZ4 : Hid (w4.heap[w.heap.size + 1]? = _) := (hb.block _ hzl).trans HZ.out
  have hzl4 : w.heap.size + 1 < w4.heap.size := Nat.lt_of_lt_of_le hzl hb.size
  clear hb HS HZ hzl RL
  obtain ⟨z0, z1, z2, z3, z4, z5, z6, z7, z8, z9⟩ := HS4.out.ab.at_
  obtain ⟨x0, x1, x2, x3⟩ := HS4.out.hk.at_
  go_upto_region 3 with (fail)
  go_wp2_with (refine wpList_store_row rfl 63 (.tmp 8) (.tmp 35) rfl (w.heap.size + 1) #[.int .i64 0, .int .i64 0, .int .i64 0, .int .i64 0, .int .i64 0, .int .i64 0, .string ⟨#[]⟩, .int .i64 0, .int .i64 0, .int .i64 0, .bool false, .int .i64 0, .string ⟨#[]⟩, .string ⟨#[]⟩, .int .i64 0, .int .i64 0, .int .i64 0, .int .i64 0, .int .i64 0, .int .i64 0, .string ⟨#[]⟩, .string ⟨#[]⟩, .int .i64 0, .int .i64 0, .slice none 0 0] rfl rfl 63 #[.int .i64 0, .int .i64 0, .int .i64 0, .int .i64 0, .int .i64 0, .int .i64 0, .string ⟨#[]⟩, .int .i64 0, .int .i64 0, .int .i64 0, .bool false, .int .i64 0, .string ⟨#[]⟩, .string ⟨#[]⟩, .int .i64 0, .int .i64 0, .int .i64 0, .int .i64 0, .int .i64 0, .int .i64 0, .string ⟨#[]⟩, .string ⟨#[]⟩, .int .i64 0, .int .i64 0, .slice none 0 0] HZ4.out cm_info rfl (by simp [Value.oneCell']) ?_)
  refine bodyPost_ret (v := .tuple #[.agg #[.int .i64 0, .int .i64 0, .int .i64 0, .int .i64 0, .int .i64 0, .int .i64 0, .string ⟨#[]⟩, .int .i64 0, .int .i64 0, .int .i64 0, .bool false, .int .i64 0, .string ⟨#[]⟩, .string ⟨#[]⟩, .int .i64 0, .int .i64 0, .int .i64 0, .int .i64 0, .int .i64 0, .int .i64 0, .string ⟨#[]⟩, .string ⟨#[]⟩, .int .i64 0, .int .i64 0, .slice none 0 0], .bool false]) ?r ?d ?_
  case r => exact results_cell_tmp' rfl _ _ (w.heap.size + 1) 63 #[.int .i64 0, .int .i64 0, .int .i64 0, .int .i64 0, .int .i64 0, .int .i64 0, .string ⟨#[]⟩, .int .i64 0, .int .i64 0, .int .i64 0, .bool false, .int .i64 0, .string ⟨#[]⟩, .string ⟨#[]⟩, .int .i64 0, .int .i64 0, .int .i64 0, .int .i64 0, .int .i64 0, .int .i64 0, .string ⟨#[]⟩, .string ⟨#[]⟩, .int .i64 0, .int .i64 0, .slice none 0 0] (0, 0) _ (.bool false) rfl rfl (setRow_heap _ _ _ _ _ _ HZ4.out) Try.underlying63 rfl cm_info
  case d => rfl
  exact ⟨rfl, below_setRow HS4.out.bl (by omega) _⟩
set_option maxRecDepth 100000 in
set_option maxHeartbeats 8000000 in
theorem rreport_c {w : World} {b a : Option Addr} {m d n c : Nat} {l : List Rt} {g node v : Int} {A : Ac} {X : Hd} {z zl : Bool} (hl : Rs w b m l) (h : Hs w a n A.hs) (hw : AcW A) (eX : (findF A node).getD hd0 = X) (eZ : (findF A node).isSome = z) (eL : ledB l = zl) (k1 : zl = true) (k2 : z = true) (k3 : A.rd = 0) :
    Calls Try.prog 31 #[.slice b m d, .int .i64 g, .agg #[.string A.key, .int .i64 A.lo, .int .i64 A.hi, .int .i64 A.base, .int .i64 A.rd, .slice a n c, .int .i64 A.lk.c, .int .i64 A.lk.s, .int .i64 A.lk.h, .int .i64 A.lk.n], .int .i64 node] w fun e w' => e = .returned (.tuple #[.agg #[.int .i64 0, .int .i64 0, .int .i64 0, .int .i64 0, .int .i64 0, .int .i64 0, .string ⟨#[]⟩, .int .i64 0, .int .i64 0, .int .i64 0, .bool false, .int .i64 0, .string ⟨#[]⟩, .string ⟨#[]⟩, .int .i64 0, .int .i64 0, .int .i64 0, .int .i64 0, .int .i64 0, .int .i64 0, .string ⟨#[]⟩, .string ⟨#[]⟩, .int .i64 0, .int .i64 0, .slice none 0 0], .bool false]) ∧ Below w.heap.size w w' := by
  have RL := fun W => hide (fun hW : Below w.heap.size w W => rledger_any (c := d) (hl.below hW))
  rw [eL] at RL
  have GR := fun W => hide (rgroup_any g W)
  have FI := fun W => hide (fun hW : Below w.heap.size w W => rfind_any (c := c) (node := node) (h.below hW) hw)
  rw [eX, eZ] at FI
  unfold hval at FI
  subst k1
  subst k2
  have kr : (A.rd == (0 : Int)) = true := by simpa using k3
  clear hl h hw eX eZ eL GR k3
  obtain ⟨w1, ew, hb1, ha1, hz1⟩ := acc_rc w A a n c
  have HB1 := hide hb1
  have HA1 := hide ha1
  have HZ1 : Hid (w1.heap[w.heap.size + 1]? = _) := hz1
  have hz1l : w.heap.size + 1 < w1.heap.size := (Array.getElem?_eq_some_iff.1 hz1).1
  obtain ⟨z0, z1, z2, z3, z4, z5, z6, z7, z8, z9⟩ := HA1.out.at_
  clear hb1 ha1 hz1
  go_enter Try.func31, Try.ntmps31
  go_wp2_with fail
  rw [← ew]
  clear ew
  refine ((FI _).out HB1.out).mono ?_
  rintro e w2 ⟨rfl, hb⟩
  obtain ⟨w3, e3, hb3, hk3⟩ := hk_new w2 X
  have hbx : Below w1.heap.size w1 w3 := hb.trans (hb3.mono hb.size)
  have HS : Hid (Sy w w3 A a n c w2.heap.size X) := ⟨HB1.out.trans (hbx.mono HB1.out.size), HA1.out.below hbx, hk3⟩
  have HZ : Hid (w3.heap[w.heap.size + 1]? = _) := (hbx.block _ hz1l).trans HZ1.out
  have hzl : w.heap.size + 1 < w3.heap.size := Nat.lt_of_lt_of_le hz1l hbx.size
  clear hb hb3 hk3 hbx hz1l HB1 HA1 HZ1 FI z0 z1 z2 z3 z4 z5 z6 z7 z8 z9
  go_upto_region 2 with fail
  rw [← e3]
  clear e3
  obtain ⟨p, ep⟩ : ∃ p, p = w2.heap.size := ⟨_, rfl⟩
  rw [← ep] at HS ⊢
  clear ep
  obtain ⟨z0, z1, z2, z3, z4, z5, z6, z7, z8, z9⟩ := HS.out.ab.at_
  go_wp2_with fail
  clear z0 z1 z2 z3 z4 z5 z6 z7 z8 z9
  refine ((RL _).out HS.out.bl).mono ?_
  rintro e w4 ⟨rfl, hb⟩
  have HS4 := hide (HS.out.below hb)
  have HZ4 : Hid (w4.heap[w.heap.size + 1]? = _) := (hb.block _ hzl).trans HZ.out
  have hzl4 : w.heap.size + 1 < w4.heap.size := Nat.lt_of_lt_of_le hzl hb.size
  clear hb HS HZ hzl RL
  obtain ⟨z0, z1, z2, z3, z4, z5, z6, z7, z8, z9⟩ := HS4.out.ab.at_
  obtain ⟨x0, x1, x2, x3⟩ := HS4.out.hk.at_
  go_upto_region 3 with (fail)
  go_wp2_with (refine wpList_store_row rfl 63 (.tmp 8) (.tmp 35) rfl (w.heap.size + 1) #[.int .i64 0, .int .i64 0, .int .i64 0, .int .i64 0, .int .i64 0, .int .i64 0, .string ⟨#[]⟩, .int .i64 0, .int .i64 0, .int .i64 0, .bool false, .int .i64 0, .string ⟨#[]⟩, .string ⟨#[]⟩, .int .i64 0, .int .i64 0, .int .i64 0, .int .i64 0, .int .i64 0, .int .i64 0, .string ⟨#[]⟩, .string ⟨#[]⟩, .int .i64 0, .int .i64 0, .slice none 0 0] rfl rfl 63 #[.int .i64 0, .int .i64 0, .int .i64 0, .int .i64 0, .int .i64 0, .int .i64 0, .string ⟨#[]⟩, .int .i64 0, .int .i64 0, .int .i64 0, .bool false, .int .i64 0, .string ⟨#[]⟩, .string ⟨#[]⟩, .int .i64 0, .int .i64 0, .int .i64 0, .int .i64 0, .int .i64 0, .int .i64 0, .string ⟨#[]⟩, .string ⟨#[]⟩, .int .i64 0, .int .i64 0, .slice none 0 0] HZ4.out cm_info rfl (by simp [Value.oneCell']) ?_)
  refine bodyPost_ret (v := .tuple #[.agg #[.int .i64 0, .int .i64 0, .int .i64 0, .int .i64 0, .int .i64 0, .int .i64 0, .string ⟨#[]⟩, .int .i64 0, .int .i64 0, .int .i64 0, .bool false, .int .i64 0, .string ⟨#[]⟩, .string ⟨#[]⟩, .int .i64 0, .int .i64 0, .int .i64 0, .int .i64 0, .int .i64 0, .int .i64 0, .string ⟨#[]⟩, .string ⟨#[]⟩, .int .i64 0, .int .i64 0, .slice none 0 0], .bool false]) ?r ?d ?_
  case r => exact results_cell_tmp' rfl _ _ (w.heap.size + 1) 63 #[.int .i64 0, .int .i64 0, .int .i64 0, .int .i64 0, .int .i64 0, .int .i64 0, .string ⟨#[]⟩, .int .i64 0, .int .i64 0, .int .i64 0, .bool false, .int .i64 0, .string ⟨#[]⟩, .string ⟨#[]⟩, .int .i64 0, .int .i64 0, .int .i64 0, .int .i64 0, .int .i64 0, .int .i64 0, .string ⟨#[]⟩, .string ⟨#[]⟩, .int .i64 0, .int .i64 0, .slice none 0 0] (0, 0) _ (.bool false) rfl rfl (setRow_heap _ _ _ _ _ _ HZ4.out) Try.underlying63 rfl cm_info
  case d => rfl
  exact ⟨rfl, below_setRow HS4.out.bl (by omega) _⟩
set_option maxRecDepth 100000 in
set_option maxHeartbeats 8000000 in
theorem rreport_d {w : World} {b a : Option Addr} {m d n c : Nat} {l : List Rt} {g node v : Int} {A : Ac} {X : Hd} {z zl : Bool} (hl : Rs w b m l) (h : Hs w a n A.hs) (hw : AcW A) (eX : (findF A node).getD hd0 = X) (eZ : (findF A node).isSome = z) (eL : ledB l = zl) (k1 : zl = true) (k2 : z = true) (k3 : ¬ A.rd = 0) (k4 : grpB g = false) :
    Calls Try.prog 31 #[.slice b m d, .int .i64 g, .agg #[.string A.key, .int .i64 A.lo, .int .i64 A.hi, .int .i64 A.base, .int .i64 A.rd, .slice a n c, .int .i64 A.lk.c, .int .i64 A.lk.s, .int .i64 A.lk.h, .int .i64 A.lk.n], .int .i64 node] w fun e w' => e = .returned (.tuple #[.agg #[.int .i64 0, .int .i64 0, .int .i64 0, .int .i64 0, .int .i64 0, .int .i64 0, .string ⟨#[]⟩, .int .i64 0, .int .i64 0, .int .i64 0, .bool false, .int .i64 0, .string ⟨#[]⟩, .string ⟨#[]⟩, .int .i64 0, .int .i64 0, .int .i64 0, .int .i64 0, .int .i64 0, .int .i64 0, .string ⟨#[]⟩, .string ⟨#[]⟩, .int .i64 0, .int .i64 0, .slice none 0 0], .bool false]) ∧ Below w.heap.size w w' := by
  have RL := fun W => hide (fun hW : Below w.heap.size w W => rledger_any (c := d) (hl.below hW))
  rw [eL] at RL
  have GR := fun W => hide (rgroup_any g W)
  have FI := fun W => hide (fun hW : Below w.heap.size w W => rfind_any (c := c) (node := node) (h.below hW) hw)
  rw [eX, eZ] at FI
  unfold hval at FI
  subst k1
  subst k2
  rw [k4] at GR
  have kr : (A.rd == (0 : Int)) = false := by simpa using k3
  clear hl h hw eX eZ eL k3 k4
  obtain ⟨w1, ew, hb1, ha1, hz1⟩ := acc_rc w A a n c
  have HB1 := hide hb1
  have HA1 := hide ha1
  have HZ1 : Hid (w1.heap[w.heap.size + 1]? = _) := hz1
  have hz1l : w.heap.size + 1 < w1.heap.size := (Array.getElem?_eq_some_iff.1 hz1).1
  obtain ⟨z0, z1, z2, z3, z4, z5, z6, z7, z8, z9⟩ := HA1.out.at_
  clear hb1 ha1 hz1
  go_enter Try.func31, Try.ntmps31
  go_wp2_with fail
  rw [← ew]
  clear ew
  refine ((FI _).out HB1.out).mono ?_
  rintro e w2 ⟨rfl, hb⟩
  obtain ⟨w3, e3, hb3, hk3⟩ := hk_new w2 X
  have hbx : Below w1.heap.size w1 w3 := hb.trans (hb3.mono hb.size)
  have HS : Hid (Sy w w3 A a n c w2.heap.size X) := ⟨HB1.out.trans (hbx.mono HB1.out.size), HA1.out.below hbx, hk3⟩
  have HZ : Hid (w3.heap[w.heap.size + 1]? = _) := (hbx.block _ hz1l).trans HZ1.out
  have hzl : w.heap.size + 1 < w3.heap.size := Nat.lt_of_lt_of_le hz1l hbx.size
  clear hb hb3 hk3 hbx hz1l HB1 HA1 HZ1 FI z0 z1 z2 z3 z4 z5 z6 z7 z8 z9
  go_upto_region 2 with fail
  rw [← e3]
  clear e3
  obtain ⟨p, ep⟩ : ∃ p, p = w2.heap.size := ⟨_, rfl⟩
  rw [← ep] at HS ⊢
  clear ep
  obtain ⟨z0, z1, z2, z3, z4, z5, z6, z7, z8, z9⟩ := HS.out.ab.at_
  go_wp2_with fail
  clear z0 z1 z2 z3 z4 z5 z6 z7 z8 z9
  refine ((RL _).out HS.out.bl).mono ?_
  rintro e w4 ⟨rfl, hb⟩
  have HS4 := hide (HS.out.below hb)
  have HZ4 : Hid (w4.heap[w.heap.size + 1]? = _) := (hb.block _ hzl).trans HZ.out
  have hzl4 : w.heap.size + 1 < w4.heap.size := Nat.lt_of_lt_of_le hzl hb.size
  clear hb HS HZ hzl RL
  obtain ⟨z0, z1, z2, z3, z4, z5, z6, z7, z8, z9⟩ := HS4.out.ab.at_
  obtain ⟨x0, x1, x2, x3⟩ := HS4.out.hk.at_
  go_upto_region 3 with ((go_at_call 76; refine (GR _).out.mono ?_; rintro e w' ⟨rfl, hw⟩; rw [hw]; clear hw))
  go_wp2_with (refine wpList_store_row rfl 63 (.tmp 8) (.tmp 35) rfl (w.heap.size + 1) #[.int .i64 0, .int .i64 0, .int .i64 0, .int .i64 0, .int .i64 0, .int .i64 0, .string ⟨#[]⟩, .int .i64 0, .int .i64 0, .int .i64 0, .bool false, .int .i64 0, .string ⟨#[]⟩, .string ⟨#[]⟩, .int .i64 0, .int .i64 0, .int .i64 0, .int .i64 0, .int .i64 0, .int .i64 0, .string ⟨#[]⟩, .string ⟨#[]⟩, .int .i64 0, .int .i64 0, .slice none 0 0] rfl rfl 63 #[.int .i64 0, .int .i64 0, .int .i64 0, .int .i64 0, .int .i64 0, .int .i64 0, .string ⟨#[]⟩, .int .i64 0, .int .i64 0, .int .i64 0, .bool false, .int .i64 0, .string ⟨#[]⟩, .string ⟨#[]⟩, .int .i64 0, .int .i64 0, .int .i64 0, .int .i64 0, .int .i64 0, .int .i64 0, .string ⟨#[]⟩, .string ⟨#[]⟩, .int .i64 0, .int .i64 0, .slice none 0 0] HZ4.out cm_info rfl (by simp [Value.oneCell']) ?_)
  refine bodyPost_ret (v := .tuple #[.agg #[.int .i64 0, .int .i64 0, .int .i64 0, .int .i64 0, .int .i64 0, .int .i64 0, .string ⟨#[]⟩, .int .i64 0, .int .i64 0, .int .i64 0, .bool false, .int .i64 0, .string ⟨#[]⟩, .string ⟨#[]⟩, .int .i64 0, .int .i64 0, .int .i64 0, .int .i64 0, .int .i64 0, .int .i64 0, .string ⟨#[]⟩, .string ⟨#[]⟩, .int .i64 0, .int .i64 0, .slice none 0 0], .bool false]) ?r ?d ?_
  case r => exact results_cell_tmp' rfl _ _ (w.heap.size + 1) 63 #[.int .i64 0, .int .i64 0, .int .i64 0, .int .i64 0, .int .i64 0, .int .i64 0, .string ⟨#[]⟩, .int .i64 0, .int .i64 0, .int .i64 0, .bool false, .int .i64 0, .string ⟨#[]⟩, .string ⟨#[]⟩, .int .i64 0, .int .i64 0, .int .i64 0, .int .i64 0, .int .i64 0, .int .i64 0, .string ⟨#[]⟩, .string ⟨#[]⟩, .int .i64 0, .int .i64 0, .slice none 0 0] (0, 0) _ (.bool false) rfl rfl (setRow_heap _ _ _ _ _ _ HZ4.out) Try.underlying63 rfl cm_info
  case d => rfl
  exact ⟨rfl, below_setRow HS4.out.bl (by omega) _⟩
set_option maxRecDepth 100000 in
set_option maxHeartbeats 8000000 in
theorem rreport_e {w : World} {b a : Option Addr} {m d n c : Nat} {l : List Rt} {g node v : Int} {A : Ac} {X : Hd} {z zl : Bool} (hl : Rs w b m l) (h : Hs w a n A.hs) (hw : AcW A) (eX : (findF A node).getD hd0 = X) (eZ : (findF A node).isSome = z) (eL : ledB l = zl) (k1 : zl = true) (k2 : z = true) (k3 : ¬ A.rd = 0) (k4 : grpB g = true) (k5 : netV l g A.key X.ls = v) :
    Calls Try.prog 31 #[.slice b m d, .int .i64 g, .agg #[.string A.key, .int .i64 A.lo, .int .i64 A.hi, .int .i64 A.base, .int .i64 A.rd, .slice a n c, .int .i64 A.lk.c, .int .i64 A.lk.s, .int .i64 A.lk.h, .int .i64 A.lk.n], .int .i64 node] w fun e w' => e = .returned (.tuple #[.agg #[.int .i64 2, .int .i64 0, .int .i64 0, .int .i64 0, .int .i64 node, .int .i64 0, .string A.key, .int .i64 X.ls, .int .i64 A.rd, .int .i64 v, .bool false, .int .i64 0, .string ⟨#[]⟩, .string ⟨#[]⟩, .int .i64 0, .int .i64 0, .int .i64 0, .int .i64 0, .int .i64 0, .int .i64 0, .string ⟨#[]⟩, .string ⟨#[]⟩, .int .i64 0, .int .i64 0, .slice none 0 0], .bool true]) ∧ Below w.heap.size w w' := by
  have RL := fun W => hide (fun hW : Below w.heap.size w W => rledger_any (c := d) (hl.below hW))
  rw [eL] at RL
  have GR := fun W => hide (rgroup_any g W)
  have FI := fun W => hide (fun hW : Below w.heap.size w W => rfind_any (c := c) (node := node) (h.below hW) hw)
  rw [eX, eZ] at FI
  unfold hval at FI
  subst k1
  subst k2
  rw [k4] at GR
  have kr : (A.rd == (0 : Int)) = false := by simpa using k3
  have NT := fun W => hide (fun hW : Below w.heap.size w W => rnet_v (c := d) (hl.below hW) k5)
  clear hl h hw eX eZ eL k3 k4 k5
  obtain ⟨w1, ew, hb1, ha1, hz1⟩ := acc_rc w A a n c
  have HB1 := hide hb1
  have HA1 := hide ha1
  have HZ1 : Hid (w1.heap[w.heap.size + 1]? = _) := hz1
  have hz1l : w.heap.size + 1 < w1.heap.size := (Array.getElem?_eq_some_iff.1 hz1).1
  obtain ⟨z0, z1, z2, z3, z4, z5, z6, z7, z8, z9⟩ := HA1.out.at_
  clear hb1 ha1 hz1
  go_enter Try.func31, Try.ntmps31
  go_wp2_with fail
  rw [← ew]
  clear ew
  refine ((FI _).out HB1.out).mono ?_
  rintro e w2 ⟨rfl, hb⟩
  have hp2 : w.heap.size + 1 < w2.heap.size := Nat.lt_of_lt_of_le hz1l hb.size
  obtain ⟨w3, e3, hb3, hk3⟩ := hk_new w2 X
  have hbx : Below w1.heap.size w1 w3 := hb.trans (hb3.mono hb.size)
  have HS : Hid (Sy w w3 A a n c w2.heap.size X) := ⟨HB1.out.trans (hbx.mono HB1.out.size), HA1.out.below hbx, hk3⟩
  have HZ : Hid (w3.heap[w.heap.size + 1]? = _) := (hbx.block _ hz1l).trans HZ1.out
  have hzl : w.heap.size + 1 < w3.heap.size := Nat.lt_of_lt_of_le hz1l hbx.size
  clear hb hb3 hk3 hbx hz1l HB1 HA1 HZ1 FI z0 z1 z2 z3 z4 z5 z6 z7 z8 z9
  go_upto_region 2 with fail
  rw [← e3]
  clear e3
  obtain ⟨p, ep⟩ : ∃ p, p = w2.heap.size := ⟨_, rfl⟩
  have HPN : Hid (¬ p = w.heap.size + 1) := by show ¬ p = w.heap.size + 1; rw [ep]; omega
  rw [← ep] at HS ⊢
  clear ep hp2
  obtain ⟨z0, z1, z2, z3, z4, z5, z6, z7, z8, z9⟩ := HS.out.ab.at_
  go_wp2_with fail
  clear z0 z1 z2 z3 z4 z5 z6 z7 z8 z9
  refine ((RL _).out HS.out.bl).mono ?_
  rintro e w4 ⟨rfl, hb⟩
  have HS4 := hide (HS.out.below hb)
  have HZ4 : Hid (w4.heap[w.heap.size + 1]? = _) := (hb.block _ hzl).trans HZ.out
  have hzl4 : w.heap.size + 1 < w4.heap.size := Nat.lt_of_lt_of_le hzl hb.size
  clear hb HS HZ hzl RL
  obtain ⟨z0, z1, z2, z3, z4, z5, z6, z7, z8, z9⟩ := HS4.out.ab.at_
  obtain ⟨x0, x1, x2, x3⟩ := HS4.out.hk.at_
  go_upto_region 4 with (go_at_call 76; refine (GR _).out.mono ?_; rintro e w' ⟨rfl, hw⟩; rw [hw]; clear hw)
  clear x0 x1 x2 x3 z0 z1 z2 z3 z4 z5 z6 z7 z8 z9
  refine region_tree (n := 17) (fun v => v.cell? ⟨w.heap.size, 0, none⟩ = some (.string A.key) ∧ v.cell? ⟨w.heap.size, 4, none⟩ = some (.int .i64 A.rd) ∧ v.cell? ⟨p, 1, none⟩ = some (.int .i64 X.ls)) (by kernel_rfl) (by kernel_rfl) ?_
  have HS11 := hide (HS4.out.below (below_drew1 _))
  have HZ11 : Hid (w4.drew.heap[w.heap.size + 1]? = _) := HZ4.out
  have hz11 : w.heap.size + 1 < w4.drew.heap.size := hzl4
  generalize w4.drew = u11 at HS11 HZ11 hz11 ⊢
  clear HS4 HZ4 hzl4
  have ka11 := HS11.out.ab.at_.c0
  have kb11 := HS11.out.ab.at_.c4
  have kc11 := HS11.out.hk.at_.2.1
  refine any_take 0 (v := ?_) (by kernel_rfl) (by kernel_rfl) (by kernel_rfl) rfl (fun _ _ _ h => h) (by rfl) (And.intro ka11 (And.intro kb11 kc11)) ?_ ?_
  rotate_left
  · (intro y hy; simp only [List.getElem_toArray, List.getElem_cons_zero]; go_simp; try with_reducible rfl)
  simp only [List.getElem_toArray, List.getElem_cons_zero, Act.put, List.setIfInBounds_toArray, List.set_cons_zero, List.set_cons_succ]
  refine any_take 1 (v := ?_) (by kernel_rfl) (by kernel_rfl) (by kernel_rfl) rfl (fun _ _ _ h => h) (by rfl) (And.intro ka11 (And.intro kb11 kc11)) ?_ ?_
  rotate_left
  · (intro y hy; simp only [List.getElem_toArray, List.getElem_cons_zero, List.getElem_cons_succ]; go_simp; try with_reducible rfl)
  simp only [List.getElem_toArray, List.getElem_cons_zero, List.getElem_cons_succ, Act.put, List.setIfInBounds_toArray, List.set_cons_zero, List.set_cons_succ]
  refine any_take 2 (v := ?_) (by kernel_rfl) (by kernel_rfl) (by kernel_rfl) rfl (fun _ _ _ h => h) (by rfl) (And.intro ka11 (And.intro kb11 kc11)) ?_ ?_
  rotate_left
  · (intro y hy; obtain ⟨q0, q1, q2⟩ := hy; simp only [List.getElem_toArray, List.getElem_cons_zero, List.getElem_cons_succ]; go_simp; try with_reducible rfl)
  simp only [List.getElem_toArray, List.getElem_cons_zero, List.getElem_cons_succ, Act.put, List.setIfInBounds_toArray, List.set_cons_zero, List.set_cons_succ]
  refine any_take 3 (v := ?_) (by kernel_rfl) (by kernel_rfl) (by kernel_rfl) rfl (fun _ _ _ h => h) (by rfl) (And.intro ka11 (And.intro kb11 kc11)) ?_ ?_
  rotate_left
  · (intro y hy; simp only [List.getElem_toArray, List.getElem_cons_zero, List.getElem_cons_succ]; go_simp; try with_reducible rfl)
  simp only [List.getElem_toArray, List.getElem_cons_zero, List.getElem_cons_succ, Act.put, List.setIfInBounds_toArray, List.set_cons_zero, List.set_cons_succ]
  refine any_take 4 (v := ?_) (by kernel_rfl) (by kernel_rfl) (by kernel_rfl) rfl (fun _ _ _ h => h) (by rfl) (And.intro ka11 (And.intro kb11 kc11)) ?_ ?_
  rotate_left
  · (intro y hy; obtain ⟨q0, q1, q2⟩ := hy; simp only [List.getElem_toArray, List.getElem_cons_zero, List.getElem_cons_succ]; go_simp; try with_reducible rfl)
  simp only [List.getElem_toArray, List.getElem_cons_zero, List.getElem_cons_succ, Act.put, List.setIfInBounds_toArray, List.set_cons_zero, List.set_cons_succ]
  refine any_take 5 (v := ?_) (by kernel_rfl) (by kernel_rfl) (by kernel_rfl) rfl (fun _ _ _ h => h) (by rfl) (And.intro ka11 (And.intro kb11 kc11)) ?_ ?_
  rotate_left
  · (intro y hy; simp only [List.getElem_toArray, List.getElem_cons_zero, List.getElem_cons_succ]; go_simp; try with_reducible rfl)
  simp only [List.getElem_toArray, List.getElem_cons_zero, List.getElem_cons_succ, Act.put, List.setIfInBounds_toArray, List.set_cons_zero, List.set_cons_succ]
  refine any_take 6 (v := ?_) (by kernel_rfl) (by kernel_rfl) (by kernel_rfl) rfl (fun _ _ _ h => h) (by rfl) (And.intro ka11 (And.intro kb11 kc11)) ?_ ?_
  rotate_left
  · (intro y hy; obtain ⟨q0, q1, q2⟩ := hy; simp only [List.getElem_toArray, List.getElem_cons_zero, List.getElem_cons_succ]; go_simp; try with_reducible rfl)
  simp only [List.getElem_toArray, List.getElem_cons_zero, List.getElem_cons_succ, Act.put, List.setIfInBounds_toArray, List.set_cons_zero, List.set_cons_succ]
  refine any_take 7 (v := ?_) (by kernel_rfl) (by kernel_rfl) (by kernel_rfl) rfl (fun _ _ _ h => h) (by rfl) (And.intro ka11 (And.intro kb11 kc11)) ?_ ?_
  rotate_left
  · (intro y hy; simp only [List.getElem_toArray, List.getElem_cons_zero, List.getElem_cons_succ]; go_simp; try with_reducible rfl)
  simp only [List.getElem_toArray, List.getElem_cons_zero, List.getElem_cons_succ, Act.put, List.setIfInBounds_toArray, List.set_cons_zero, List.set_cons_succ]
  refine any_take 8 (v := ?_) (by kernel_rfl) (by kernel_rfl) (by kernel_rfl) rfl (fun _ _ _ h => h) (by rfl) (And.intro ka11 (And.intro kb11 kc11)) ?_ ?_
  rotate_left
  · (intro y hy; simp only [List.getElem_toArray, List.getElem_cons_zero, List.getElem_cons_succ]; go_simp; try with_reducible rfl)
  simp only [List.getElem_toArray, List.getElem_cons_zero, List.getElem_cons_succ, Act.put, List.setIfInBounds_toArray, List.set_cons_zero, List.set_cons_succ]
  refine any_take 9 (v := ?_) (by kernel_rfl) (by kernel_rfl) (by kernel_rfl) rfl (fun _ _ _ h => h) (by rfl) (And.intro ka11 (And.intro kb11 kc11)) ?_ ?_
  rotate_left
  · (intro y hy; simp only [List.getElem_toArray, List.getElem_cons_zero, List.getElem_cons_succ]; go_simp; try with_reducible rfl)
  simp only [List.getElem_toArray, List.getElem_cons_zero, List.getElem_cons_succ, Act.put, List.setIfInBounds_toArray, List.set_cons_zero, List.set_cons_succ]
  refine any_take 10 (v := ?_) (by kernel_rfl) (by kernel_rfl) (by kernel_rfl) rfl (fun _ _ _ h => h) (by rfl) (And.intro ka11 (And.intro kb11 kc11)) ?_ ?_
  rotate_left
  · (intro y hy; obtain ⟨q0, q1, q2⟩ := hy; simp only [List.getElem_toArray, List.getElem_cons_zero, List.getElem_cons_succ]; go_simp; try with_reducible rfl)
  simp only [List.getElem_toArray, List.getElem_cons_zero, List.getElem_cons_succ, Act.put, List.setIfInBounds_toArray, List.set_cons_zero, List.set_cons_succ]
  refine any_take 11 (v := ?_) (by kernel_rfl) (by kernel_rfl) (by kernel_rfl) rfl (fun _ _ _ h => h) (by rfl) (And.intro ka11 (And.intro kb11 kc11)) ?_ ?_
  rotate_left
  · (intro y hy; simp only [List.getElem_toArray, List.getElem_cons_zero, List.getElem_cons_succ]; go_simp; try with_reducible rfl)
  simp only [List.getElem_toArray, List.getElem_cons_zero, List.getElem_cons_succ, Act.put, List.setIfInBounds_toArray, List.set_cons_zero, List.set_cons_succ]
  refine any_take 12 (v := ?_) (by kernel_rfl) (by kernel_rfl) (by kernel_rfl) rfl (fun _ _ _ h => h) (by rfl) (And.intro ka11 (And.intro kb11 kc11)) ?_ ?_
  rotate_left
  · (intro y hy; obtain ⟨q0, q1, q2⟩ := hy; simp only [List.getElem_toArray, List.getElem_cons_zero, List.getElem_cons_succ]; go_simp; try with_reducible rfl)
  simp only [List.getElem_toArray, List.getElem_cons_zero, List.getElem_cons_succ, Act.put, List.setIfInBounds_toArray, List.set_cons_zero, List.set_cons_succ]
  refine any_fork [13] (by kernel_rfl) (by simp) ?_
  refine fork_one ?_
  refine any_op rfl (fun K' hK => ?_)
  simp only [List.getElem_toArray, List.getElem_cons_zero, List.getElem_cons_succ]
  go_simp
  refine ((NT _).out HS11.out.bl).mono ?_; rintro e u12 ⟨rfl, hb⟩; have HS12 := hide (HS11.out.below hb); have HZ12 : Hid (u12.heap[w.heap.size + 1]? = _) := (hb.block _ hz11).trans HZ11.out; clear hb HS11 HZ11 hz11 ka11 kb11 kc11
  have ka12 := HS12.out.ab.at_.c0
  have kb12 := HS12.out.ab.at_.c4
  have kc12 := HS12.out.hk.at_.2.1
  refine hK _ _ ⟨(And.intro ka12 (And.intro kb12 kc12)), ?_⟩
  clear hK K'
  refine any_fork [14] (by kernel_rfl) (by simp) ?_
  refine fork_one ?_
  refine any_op rfl (fun K' hK => ?_)
  simp only [List.getElem_toArray, List.getElem_cons_zero, List.getElem_cons_succ]
  go_simp
  refine hK _ _ ⟨(And.intro ka12 (And.intro kb12 kc12)), ?_⟩
  clear hK K'
  refine any_fork [15] (by kernel_rfl) (by simp) ?_
  refine fork_one ?_
  refine any_op rfl (fun K' hK => ?_)
  rw [if_pos (by rfl)]
  refine wp_store_row 63 (.tmp 8) (.tmp 50) rfl (w.heap.size + 1) #[.int .i64 2, .int .i64 0, .int .i64 0, .int .i64 0, .int .i64 node, .int .i64 0, .string A.key, .int .i64 X.ls, .int .i64 A.rd, .int .i64 v, .bool false, .int .i64 0, .string ⟨#[]⟩, .string ⟨#[]⟩, .int .i64 0, .int .i64 0, .int .i64 0, .int .i64 0, .int .i64 0, .int .i64 0, .string ⟨#[]⟩, .string ⟨#[]⟩, .int .i64 0, .int .i64 0, .slice none 0 0] rfl rfl 63 #[.int .i64 0, .int .i64 0, .int .i64 0, .int .i64 0, .int .i64 0, .int .i64 0, .string ⟨#[]⟩, .int .i64 0, .int .i64 0, .int .i64 0, .bool false, .int .i64 0, .string ⟨#[]⟩, .string ⟨#[]⟩, .int .i64 0, .int .i64 0, .int .i64 0, .int .i64 0, .int .i64 0, .int .i64 0, .string ⟨#[]⟩, .string ⟨#[]⟩, .int .i64 0, .int .i64 0, .slice none 0 0] HZ12.out cm_info rfl (by simp [Value.oneCell']) ?_
  have HB13 : Hid (Below w.heap.size w (u12.setRow (w.heap.size + 1) #[.int .i64 2, .int .i64 0, .int .i64 0, .int .i64 0, .int .i64 node, .int .i64 0, .string A.key, .int .i64 X.ls, .int .i64 A.rd, .int .i64 v, .bool false, .int .i64 0, .string ⟨#[]⟩, .string ⟨#[]⟩, .int .i64 0, .int .i64 0, .int .i64 0, .int .i64 0, .int .i64 0, .int .i64 0, .string ⟨#[]⟩, .string ⟨#[]⟩, .int .i64 0, .int .i64 0, .slice none 0 0])) := below_setRow HS12.out.bl (by omega) _
  have HR13 := hide (setRow_heap u12 (w.heap.size + 1) _ #[.int .i64 2, .int .i64 0, .int .i64 0, .int .i64 0, .int .i64 node, .int .i64 0, .string A.key, .int .i64 X.ls, .int .i64 A.rd, .int .i64 v, .bool false, .int .i64 0, .string ⟨#[]⟩, .string ⟨#[]⟩, .int .i64 0, .int .i64 0, .int .i64 0, .int .i64 0, .int .i64 0, .int .i64 0, .string ⟨#[]⟩, .string ⟨#[]⟩, .int .i64 0, .int .i64 0, .slice none 0 0] _ _ HZ12.out)
  have hpk : ¬ p = w.heap.size + 1 := HPN.out
  have ka13 : (u12.setRow (w.heap.size + 1) #[.int .i64 2, .int .i64 0, .int .i64 0, .int .i64 0, .int .i64 node, .int .i64 0, .string A.key, .int .i64 X.ls, .int .i64 A.rd, .int .i64 v, .bool false, .int .i64 0, .string ⟨#[]⟩, .string ⟨#[]⟩, .int .i64 0, .int .i64 0, .int .i64 0, .int .i64 0, .int .i64 0, .int .i64 0, .string ⟨#[]⟩, .string ⟨#[]⟩, .int .i64 0, .int .i64 0, .slice none 0 0]).cell? ⟨w.heap.size, 0, none⟩ = _ := (cell_setRow_other _ _ _ _ (by simp)).trans ka12
  have kb13 : (u12.setRow (w.heap.size + 1) #[.int .i64 2, .int .i64 0, .int .i64 0, .int .i64 0, .int .i64 node, .int .i64 0, .string A.key, .int .i64 X.ls, .int .i64 A.rd, .int .i64 v, .bool false, .int .i64 0, .string ⟨#[]⟩, .string ⟨#[]⟩, .int .i64 0, .int .i64 0, .int .i64 0, .int .i64 0, .int .i64 0, .int .i64 0, .string ⟨#[]⟩, .string ⟨#[]⟩, .int .i64 0, .int .i64 0, .slice none 0 0]).cell? ⟨w.heap.size, 4, none⟩ = _ := (cell_setRow_other _ _ _ _ (by simp)).trans kb12
  have kc13 : (u12.setRow (w.heap.size + 1) #[.int .i64 2, .int .i64 0, .int .i64 0, .int .i64 0, .int .i64 node, .int .i64 0, .string A.key, .int .i64 X.ls, .int .i64 A.rd, .int .i64 v, .bool false, .int .i64 0, .string ⟨#[]⟩, .string ⟨#[]⟩, .int .i64 0, .int .i64 0, .int .i64 0, .int .i64 0, .int .i64 0, .int .i64 0, .string ⟨#[]⟩, .string ⟨#[]⟩, .int .i64 0, .int .i64 0, .slice none 0 0]).cell? ⟨p, 1, none⟩ = _ := (cell_setRow_other _ _ _ _ hpk).trans kc12
  clear hpk
  generalize u12.setRow (w.heap.size + 1) #[.int .i64 2, .int .i64 0, .int .i64 0, .int .i64 0, .int .i64 node, .int .i64 0, .string A.key, .int .i64 X.ls, .int .i64 A.rd, .int .i64 v, .bool false, .int .i64 0, .string ⟨#[]⟩, .string ⟨#[]⟩, .int .i64 0, .int .i64 0, .int .i64 0, .int .i64 0, .int .i64 0, .int .i64 0, .string ⟨#[]⟩, .string ⟨#[]⟩, .int .i64 0, .int .i64 0, .slice none 0 0] = u13 at HB13 HR13 ka13 kb13 kc13 ⊢
  clear ka12 kb12 kc12 HS12 HZ12
  refine hK _ _ ⟨(And.intro ka13 (And.intro kb13 kc13)), ?_⟩
  clear hK K'
  refine any_take 16 (v := ?_) (by kernel_rfl) (by kernel_rfl) (by kernel_rfl) rfl (fun _ _ _ h => h) (by rfl) (And.intro ka13 (And.intro kb13 kc13)) ?_ ?_
  rotate_left
  · (intro y hy; simp only [List.getElem_toArray, List.getElem_cons_zero, List.getElem_cons_succ]; go_simp; try with_reducible rfl)
  simp only [List.getElem_toArray, List.getElem_cons_zero, List.getElem_cons_succ, Act.put, List.setIfInBounds_toArray, List.set_cons_zero, List.set_cons_succ]
  refine any_done (by kernel_rfl) ?_
  go_wp2_with fail
  refine bodyPost_ret (v := .tuple #[.agg #[.int .i64 2, .int .i64 0, .int .i64 0, .int .i64 0, .int .i64 node, .int .i64 0, .string A.key, .int .i64 X.ls, .int .i64 A.rd, .int .i64 v, .bool false, .int .i64 0, .string ⟨#[]⟩, .string ⟨#[]⟩, .int .i64 0, .int .i64 0, .int .i64 0, .int .i64 0, .int .i64 0, .int .i64 0, .string ⟨#[]⟩, .string ⟨#[]⟩, .int .i64 0, .int .i64 0, .slice none 0 0], .bool true]) ?r ?d ?_
  case r => exact results_cell_tmp' rfl _ _ (w.heap.size + 1) 63 #[.int .i64 2, .int .i64 0, .int .i64 0, .int .i64 0, .int .i64 node, .int .i64 0, .string A.key, .int .i64 X.ls, .int .i64 A.rd, .int .i64 v, .bool false, .int .i64 0, .string ⟨#[]⟩, .string ⟨#[]⟩, .int .i64 0, .int .i64 0, .int .i64 0, .int .i64 0, .int .i64 0, .int .i64 0, .string ⟨#[]⟩, .string ⟨#[]⟩, .int .i64 0, .int .i64 0, .slice none 0 0] (0, 0) _ (.bool true) rfl rfl HR13.out Try.underlying63 rfl cm_info
  case d => rfl
  exact ⟨rfl, HB13.out⟩
theorem rreport_x {w : World} {b a : Option Addr} {m d n c : Nat} {l : List Rt} {g node : Int} {A : Ac} {C : Cmd} {z : Bool} (hl : Rs w b m l) (hlw : ∀ x ∈ l, RtW x) (h : Hs w a n A.hs) (hw : AcW A) (eB : repB l g A node = z) (eC : repC l g A node = C) :
    Calls Try.prog 31 #[.slice b m d, .int .i64 g, .agg #[.string A.key, .int .i64 A.lo, .int .i64 A.hi, .int .i64 A.base, .int .i64 A.rd, .slice a n c, .int .i64 A.lk.c, .int .i64 A.lk.s, .int .i64 A.lk.h, .int .i64 A.lk.n], .int .i64 node] w fun e w' => e = .returned (.tuple #[.agg #[.int .i64 C.kind, .int .i64 0, .int .i64 0, .int .i64 0, .int .i64 C.node, .int .i64 0, .string C.key, .int .i64 C.ls, .int .i64 C.rd, .int .i64 C.nt, .bool false, .int .i64 0, .string ⟨#[]⟩, .string ⟨#[]⟩, .int .i64 0, .int .i64 0, .int .i64 0, .int .i64 0, .int .i64 0, .int .i64 0, .string ⟨#[]⟩, .string ⟨#[]⟩, .int .i64 0, .int .i64 0, .slice none 0 0], .bool z]) ∧ Below w.heap.size w w' := by
  subst eB
  subst eC
  by_cases h0 : heldE l g A node = 0
  · obtain ⟨q1, q2, q3, q4, q5, q6⟩ := held_facts hw hlw h0
    have hr := (right_iff A).2 q1
    have fX : (findF A node).getD hd0 = heldH l g A node := by unfold findF; rw [if_pos hr, q4]; rfl
    have fZ : (findF A node).isSome = true := by unfold findF; rw [if_pos hr, q4]; rfl
    by_cases h3 : A.rd = 0
    · have e1 : repB l g A node = false := by unfold repB; rw [decide_eq_true h3]; simp
      have e2 : repC l g A node = cmd0 := by unfold repC; rw [e1]; rfl
      rw [e1, e2]
      exact rreport_c (v := 0) hl h hw fX fZ (led_iff.2 q2) rfl rfl h3
    · have e1 : repB l g A node = true := by unfold repB; rw [decide_eq_true h0, decide_eq_false h3]; rfl
      have e2 : repC l g A node = ⟨2, node, A.key, (heldH l g A node).ls, A.rd, (heldR l g A node).nt⟩ := by unfold repC; rw [if_pos e1]
      rw [e1, e2]
      exact rreport_e hl h hw fX fZ (led_iff.2 q2) rfl rfl h3 q3 (netv_of hw hlw h0)
  · have e1 : repB l g A node = false := by unfold repB; rw [decide_eq_false h0]; rfl
    have e2 : repC l g A node = cmd0 := by unfold repC; rw [e1]; rfl
    rw [e1, e2]
    cases e3 : ledB l
    · exact rreport_a (v := 0) hl h hw rfl rfl e3 rfl
    · cases e4 : (findF A node).isSome
      · exact rreport_b (v := 0) hl h hw rfl e4 e3 rfl rfl
      · by_cases h3 : A.rd = 0
        · exact rreport_c (v := 0) hl h hw rfl e4 e3 rfl rfl h3
        · refine rreport_d (v := 0) hl h hw rfl e4 e3 rfl rfl h3 ?_
          cases e5 : grpB g
          · rfl
          · exfalso
            apply h0
            unfold findF at e4
            by_cases hr : rightB A = true
            · rw [if_pos hr] at e4
              unfold heldE
              rw [if_pos ⟨e3, hr⟩, if_pos e5, if_pos e4]
            · rw [if_neg hr] at e4; simp at e4
end Go.Proofs.Ytjcbhgkfbilifaa
