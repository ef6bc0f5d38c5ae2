/- What the landed code finds in a ledger: find, Net, Put. Condition: the list can be read. -/
import Derived.Test.YtjcbhgkfbilifaaFLgWith
import Derived.Test.YtjcbhgkfbilifaaFAcoMade
namespace Go.Proofs.Ytjcbhgkfbilifaa
open Go.ChangeShapes Go.WideShapes Go.ChangeAt Go.RowKit Ao Lg
set_option linter.unusedVariables false

theorem rt_info : (Try.prog.info? 43).map (·.size) = some 4 := by kernel_rfl
theorem results_cell' {P : Program} {fn : Func} {p : Tmp} {ty : TypeId} (h : fn.results = #[.cell p ty]) (tmps : Array Value) (w : World) (g : Nat) (t : TypeId) (cs : Array Value) (fr : Nat × Nat) (d : TypeDesc)
    (hp : tmps.getD p undef = .pointer (some ⟨g, 0, none⟩)) (hg : w.heap[g]? = some (.cells cs t fr))
    (hu : P.underlying ty = some d) (hd : (match d with | .struct _ | .array _ _ => true | _ => false) = true) (hi : (P.info? ty).map (·.size) = some cs.size) :
    (results fn tmps).run P w = .ok (.agg cs) w := by
  have hp' : tmps[p]?.getD undef = .pointer (some ⟨g, 0, none⟩) := by simpa using hp
  simp [results, h, hp', asAddr, run_loadVar_row w g t ty cs fr d hg hu hd hi]
theorem right_two (w : World) (r : Rt) : ∃ w1, w1 = (w.alloc (.cells #[.int .i64 r.g, .string r.k, .int .i64 r.ls, .int .i64 r.nt] 43)).alloc (.cells #[.int .i64 0, .string ⟨#[]⟩, .int .i64 0, .int .i64 0] 43) ∧ Below w.heap.size w w1 ∧ Rb w1 w.heap.size r ∧ Rb w1 (w.heap.size + 1) rt0 := by
  refine ⟨_, rfl, (Below.alloc (Below.refl _ _) (Nat.le_refl _) _).alloc (by simp) _, (rb_new w r).below (Below.alloc (Below.refl _ _) (Nat.le_refl _) _), ?_⟩
  have := rb_new (w.alloc (.cells #[.int .i64 r.g, .string r.k, .int .i64 r.ls, .int .i64 r.nt] 43)) rt0
  simpa [rt0] using this
theorem lk_place {l : List Rt} {r x : Rt} (h : lkR l r = some x) : l[posR r l]? = some x := by
  unfold lkR at h
  cases hz : l[posR r l]? with
  | none => rw [hz] at h; cases h
  | some z =>
    rw [hz] at h
    simp only at h
    by_cases e : ordR z r = 0
    · rw [if_pos e] at h
      exact h
    · rw [if_neg e] at h
      cases h
set_option maxRecDepth 100000 in
set_option maxHeartbeats 4000000 in
theorem lfind_any {w : World} {a : Option Addr} {n c : Nat} {l : List Rt} {f : Rt} (h : Rs w a n l) (hr : Led l) :
    Calls Try.prog 65 #[.slice a n c, rval f] w fun e w' => e = .returned (rval (findR l f)) ∧ Below w.heap.size w w' := by
  have PL := fun W => hide (fun hW : Below w.heap.size w W => lplace_any (cp := c) (r := f) (h.below hW) hr)
  have H := hide h
  have hrm := h.room
  have HP : Hid (∀ x, lkR l f = some x → l[posR f l]? = some x) := fun x hx => lk_place hx
  have HN : Hid (l.length = n) := h.len
  have HF : Hid (findR l f = match lkR l f with | some x => if unR x = f then x else f | none => f) := rfl
  obtain ⟨w1, ew, hb1, hp1, hz1⟩ := right_two w f
  have HB1 := hide hb1
  have HP1 := hide hp1
  have HZ1 := hide hz1
  clear h hr hb1 hp1 hz1
  generalize findR l f = res at HF ⊢
  generalize lkR l f = k at *
  generalize posR f l = p at *
  unfold rval at PL ⊢
  cases k with
  | none =>
    obtain rfl : res = f := HF.out
    clear HP HF
    go_enter Try.func65, Try.ntmps65
    go_wp2_with fail
    rw [← ew]
    clear ew
    obtain ⟨d0, d1, d2, d3⟩ := HP1.out.at_
    refine ((PL _).out HB1.out).mono ?_
    rintro e w2 ⟨rfl, hb⟩
    have HB12 : Hid (Below w1.heap.size w1 w2) := hb
    clear hb d0 d1 d2 d3
    obtain ⟨d0, d1, d2, d3⟩ := (HP1.out.below HB12.out).at_
    go_wp2_with fail
    refine wp_region_cells w1 [(⟨w.heap.size, 0, none⟩, .int .i64 res.g), (⟨w.heap.size, 1, none⟩, .string res.k), (⟨w.heap.size, 2, none⟩, .int .i64 res.ls), (⟨w.heap.size, 3, none⟩, .int .i64 res.nt)] (by kernel_rfl) (by kernel_rfl) HB12.out (by simp [AllCells, d0, d1, d2, d3]) ?_
    intro hne qq
    simp only [AllCells, and_true] at qq
    clear d0 d1 d2 d3
    repeat (go_big_quiet_step (fail))
    refine wpQuiet_nil ?_
    rintro _ ⟨y9, rfl⟩
    have HB9 : Hid (Below w1.heap.size w1 y9.x) := y9.below
    clear qq hne
    have HB2 : Hid (Below w.heap.size w y9.x) := HB1.out.trans (HB9.out.mono HB1.out.size)
    have HZ2 := (HZ1.out.below HB9.out).row
    have HZ2 : Hid _ := hide HZ2
    obtain ⟨d0, d1, d2, d3⟩ := (HP1.out.below HB9.out).at_
    go_wp2_with (refine wpList_store_row rfl 43 (.tmp 4) (.tmp 27) rfl (w.heap.size + 1) #[.int .i64 res.g, .string res.k, .int .i64 res.ls, .int .i64 res.nt] rfl rfl 43 #[.int .i64 0, .string ⟨#[]⟩, .int .i64 0, .int .i64 0] HZ2.out rt_info rfl (by simp [Value.oneCell']) ?_)
    refine bodyPost_ret (v := .agg #[.int .i64 res.g, .string res.k, .int .i64 res.ls, .int .i64 res.nt]) ?r ?d ?_
    case r => exact results_cell' rfl _ _ (w.heap.size + 1) 43 #[.int .i64 res.g, .string res.k, .int .i64 res.ls, .int .i64 res.nt] (0, 0) _ rfl (setRow_heap _ _ _ _ _ _ HZ2.out) Try.underlying43 rfl rt_info
    case d => rfl
    exact ⟨rfl, below_setRow HB2.out (by omega) _⟩
  | some x =>
    have HX : Hid (l[p]? = some x) := HP.out x rfl
    have hpn : p < n := by rw [← HN.out]; exact (List.getElem?_eq_some_iff.1 HX.out).1
    clear HP
    have UN := fun W => hide (unspent_any x W)
    unfold rval unR at UN
    simp only at UN
    by_cases hx : unR x = f
    · have e9 : res = x := by have := HF.out; simp only [if_pos hx] at this; exact this
      subst e9
      have qE : ∀ w, (binOp .eql 43 (rval (unR res)) (rval f)).run Try.prog w = .ok (.bool true) w := fun w => by rw [FnR.eql_run, decide_eq_true hx]
      unfold rval unR at qE
      simp only at qE
      clear hx HF
      go_enter Try.func65, Try.ntmps65
      go_wp2_with fail
      rw [← ew]
      clear ew
      obtain ⟨d0, d1, d2, d3⟩ := HP1.out.at_
      refine ((PL _).out HB1.out).mono ?_
      rintro e w2 ⟨rfl, hb⟩
      have HB12 : Hid (Below w1.heap.size w1 w2) := hb
      clear hb d0 d1 d2 d3
      obtain ⟨d0, d1, d2, d3⟩ := (HP1.out.below HB12.out).at_
      obtain ⟨b, off, y, rfl, hy, hb, M⟩ := rs_at (H.out.below (HB1.out.trans (HB12.out.mono HB1.out.size))) hpn
      rw [HX.out] at hy
      obtain rfl := Option.some.inj hy
      obtain ⟨c0, c1, c2, c3⟩ := M
      have hi1 : (p : Int) < (n : Int) := by omega
      clear hb
      go_wp2_with fail
      refine wp_region_cells w1 [(⟨w.heap.size, 0, none⟩, .int .i64 f.g), (⟨w.heap.size, 1, none⟩, .string f.k), (⟨w.heap.size, 2, none⟩, .int .i64 f.ls), (⟨w.heap.size, 3, none⟩, .int .i64 f.nt), (⟨b, off + p * 4, none⟩, .int .i64 res.g), (⟨b, off + p * 4 + 1, none⟩, .string res.k), (⟨b, off + p * 4 + 2, none⟩, .int .i64 res.ls), (⟨b, off + p * 4 + 3, none⟩, .int .i64 res.nt)] (by kernel_rfl) (by kernel_rfl) HB12.out (by simp [AllCells, d0, d1, d2, d3, c0, c1, c2, c3]) ?_
      intro hne qq
      simp only [AllCells, and_true] at qq
      clear d0 d1 d2 d3 c0 c1 c2 c3
      repeat (go_big_quiet_step (first | (go_at_call 82; exact Held.call _ (UN _).out)))
      refine wpQuiet_nil ?_
      rintro _ ⟨y9, rfl⟩
      have HB9 : Hid (Below w1.heap.size w1 y9.x) := y9.below
      clear qq hne
      have HB2 : Hid (Below w.heap.size w y9.x) := HB1.out.trans (HB9.out.mono HB1.out.size)
      have HZ2 := hide (HZ1.out.below HB9.out).row
      obtain ⟨b', off', y, e9, hy, hb, M⟩ := rs_at (H.out.below HB2.out) hpn
      cases e9
      rw [HX.out] at hy
      obtain rfl := Option.some.inj hy
      obtain ⟨c0, c1, c2, c3⟩ := M
      clear hb
      go_wp2_with (refine wpList_store_row rfl 43 (.tmp 4) (.tmp 26) rfl (w.heap.size + 1) #[.int .i64 res.g, .string res.k, .int .i64 res.ls, .int .i64 res.nt] rfl rfl 43 #[.int .i64 0, .string ⟨#[]⟩, .int .i64 0, .int .i64 0] HZ2.out rt_info rfl (by simp [Value.oneCell']) ?_)
      refine bodyPost_ret (v := .agg #[.int .i64 res.g, .string res.k, .int .i64 res.ls, .int .i64 res.nt]) ?r ?d ?_
      case r => exact results_cell' rfl _ _ (w.heap.size + 1) 43 #[.int .i64 res.g, .string res.k, .int .i64 res.ls, .int .i64 res.nt] (0, 0) _ rfl (setRow_heap _ _ _ _ _ _ HZ2.out) Try.underlying43 rfl rt_info
      case d => rfl
      exact ⟨rfl, below_setRow HB2.out (by omega) _⟩
    · have e9 : res = f := by have := HF.out; simp only [if_neg hx] at this; exact this
      subst e9
      have qE : ∀ w, (binOp .eql 43 (rval (unR x)) (rval res)).run Try.prog w = .ok (.bool false) w := fun w => by rw [FnR.eql_run, decide_eq_false hx]
      unfold rval unR at qE
      simp only at qE
      clear hx HF
      go_enter Try.func65, Try.ntmps65
      go_wp2_with fail
      rw [← ew]
      clear ew
      obtain ⟨d0, d1, d2, d3⟩ := HP1.out.at_
      refine ((PL _).out HB1.out).mono ?_
      rintro e w2 ⟨rfl, hb⟩
      have HB12 : Hid (Below w1.heap.size w1 w2) := hb
      clear hb d0 d1 d2 d3
      obtain ⟨d0, d1, d2, d3⟩ := (HP1.out.below HB12.out).at_
      obtain ⟨b, off, y, rfl, hy, hb, M⟩ := rs_at (H.out.below (HB1.out.trans (HB12.out.mono HB1.out.size))) hpn
      rw [HX.out] at hy
      obtain rfl := Option.some.inj hy
      obtain ⟨c0, c1, c2, c3⟩ := M
      have hi1 : (p : Int) < (n : Int) := by omega
      clear hb
      go_wp2_with fail
      refine wp_region_cells w1 [(⟨w.heap.size, 0, none⟩, .int .i64 res.g), (⟨w.heap.size, 1, none⟩, .string res.k), (⟨w.heap.size, 2, none⟩, .int .i64 res.ls), (⟨w.heap.size, 3, none⟩, .int .i64 res.nt), (⟨b, off + p * 4, none⟩, .int .i64 x.g), (⟨b, off + p * 4 + 1, none⟩, .string x.k), (⟨b, off + p * 4 + 2, none⟩, .int .i64 x.ls), (⟨b, off + p * 4 + 3, none⟩, .int .i64 x.nt)] (by kernel_rfl) (by kernel_rfl) HB12.out (by simp [AllCells, d0, d1, d2, d3, c0, c1, c2, c3]) ?_
      intro hne qq
      simp only [AllCells, and_true] at qq
      clear d0 d1 d2 d3 c0 c1 c2 c3
      repeat (go_big_quiet_step (first | (go_at_call 82; exact Held.call _ (UN _).out)))
      refine wpQuiet_nil ?_
      rintro _ ⟨y9, rfl⟩
      have HB9 : Hid (Below w1.heap.size w1 y9.x) := y9.below
      clear qq hne
      have HB2 : Hid (Below w.heap.size w y9.x) := HB1.out.trans (HB9.out.mono HB1.out.size)
      have HZ2 := hide (HZ1.out.below HB9.out).row
      obtain ⟨d0, d1, d2, d3⟩ := (HP1.out.below HB9.out).at_
      go_wp2_with (refine wpList_store_row rfl 43 (.tmp 4) (.tmp 27) rfl (w.heap.size + 1) #[.int .i64 res.g, .string res.k, .int .i64 res.ls, .int .i64 res.nt] rfl rfl 43 #[.int .i64 0, .string ⟨#[]⟩, .int .i64 0, .int .i64 0] HZ2.out rt_info rfl (by simp [Value.oneCell']) ?_)
      refine bodyPost_ret (v := .agg #[.int .i64 res.g, .string res.k, .int .i64 res.ls, .int .i64 res.nt]) ?r ?d ?_
      case r => exact results_cell' rfl _ _ (w.heap.size + 1) 43 #[.int .i64 res.g, .string res.k, .int .i64 res.ls, .int .i64 res.nt] (0, 0) _ rfl (setRow_heap _ _ _ _ _ _ HZ2.out) Try.underlying43 rfl rt_info
      case d => rfl
      exact ⟨rfl, below_setRow HB2.out (by omega) _⟩
theorem find_frv {l : List Rt} (hr : Led l) (g ls : Int) (k : ByteArray) : rval (findR l (frR g k ls)) = .agg #[.int .i64 g, .string k, .int .i64 ls, .int .i64 (netL l g k ls)] := by rw [find_eq hr]; rfl
theorem fl_rt (a c d : Int) (b : ByteArray) (w : World) : (Instr.field 43 (.agg #[.int .i64 a, .string b, .int .i64 c, .int .i64 d]) 3).run Try.prog w = .ok (.int .i64 d) w := by kernel_rfl
set_option maxRecDepth 100000 in
set_option maxHeartbeats 2000000 in
theorem lnet_any {w : World} {a : Option Addr} {n c : Nat} {l : List Rt} {g ls : Int} {k : ByteArray} (h : Rs w a n l) :
    Calls Try.prog 22 #[.slice a n c, .int .i64 g, .string k, .int .i64 ls] w fun e w' => e = .returned (.int .i64 (netV l g k ls)) ∧ Below w.heap.size w w' := by
  have CK := hide (lcheck_any (c := c) h)
  unfold lcheckE at CK
  unfold netV
  by_cases hl : ledB l = true
  · rw [if_pos hl]
    simp only [if_pos hl] at CK
    have FI := fun W => hide (fun hW : Below w.heap.size w W => lfind_any (c := c) (f := frR g k ls) (h.below hW) (led_iff.1 hl))
    rw [find_frv (led_iff.1 hl)] at FI
    generalize netL l g k ls = v at FI ⊢
    have qF := fun W => fl_rt g ls v k W
    unfold rval frR at FI
    clear h hl
    go_enter Try.func22, Try.ntmps22
    go_wp2_with fail
    refine CK.out.mono ?_
    rintro e w1 ⟨rfl, hb⟩
    have HB1 := hide hb
    clear hb
    go_wp2_with fail
    refine ((FI _).out HB1.out).mono ?_
    rintro e w2 ⟨rfl, hb⟩
    have HB2 : Hid (Below w.heap.size w w2) := HB1.out.trans (hb.mono HB1.out.size)
    clear hb
    go_wp2_with fail
    go_returns
    exact ⟨rfl, HB2.out⟩
  · rw [if_neg hl]
    simp only [if_neg hl] at CK
    clear h hl
    go_enter Try.func22, Try.ntmps22
    go_wp2_with fail
    refine CK.out.mono ?_
    rintro e w1 ⟨rfl, hb⟩
    have HB1 := hide hb
    clear hb
    go_wp2_with fail
    go_returns
    exact ⟨rfl, HB1.out⟩
def putE (l : List Rt) (r : Rt) : Int := if ledB l = true then (if mayB r = true then 0 else 1) else 21
def putL (l : List Rt) (r : Rt) : List Rt := if putE l r = 0 then insR l r else []
set_option maxRecDepth 100000 in
set_option maxHeartbeats 2000000 in
theorem lput_any {w : World} {a : Option Addr} {n c : Nat} {l : List Rt} {r : Rt} (h : Rs w a n l) (hq1 : (n + 1) * 40 ≤ 140737488355328) :
    Calls Try.prog 17 #[.slice a n c, rval r] w fun e w' => ∃ a' n' c', e = .returned (.tuple #[.slice a' n' c', .int .i64 (putE l r)]) ∧ Rs w' a' n' (putL l r) ∧ Below w.heap.size w w' ∧ Fr w.heap.size a' ∧ Cp a' n' c' := by
  have CK := fun W => hide (fun hW : Below w.heap.size w W => lcheck_any (c := c) (h.below hW))
  have MY := fun W => hide (may_any r W)
  obtain ⟨w1, ew⟩ : ∃ w1, w1 = w.alloc (.cells #[.int .i64 r.g, .string r.k, .int .i64 r.ls, .int .i64 r.nt] 43) := ⟨_, rfl⟩
  have HB1 : Hid (Below w.heap.size w w1) := by rw [ew]; exact Below.alloc (Below.refl _ _) (Nat.le_refl _) _
  have HR1 : Hid (Rb w1 w.heap.size r) := by rw [ew]; exact rb_new w r
  unfold lcheckE at CK
  unfold putL putE
  by_cases hl : ledB l = true
  · simp only [if_pos hl] at CK ⊢
    cases hm : mayB r
    · rw [hm] at MY
      simp only [Bool.false_eq_true, if_false, Int.one_ne_zero]
      clear h hl hm
      unfold rval at MY ⊢
      go_enter Try.func17, Try.ntmps17
      go_wp2_with fail
      rw [← ew]
      clear ew
      refine ((CK _).out HB1.out).mono ?_
      rintro e w2 ⟨rfl, hb⟩
      have HB2 : Hid (Below w.heap.size w w2) := HB1.out.trans (hb.mono HB1.out.size)
      obtain ⟨d0, d1, d2, d3⟩ := (HR1.out.below hb).at_
      clear hb
      go_wp2_with fail
      refine (MY _).out.mono ?_
      rintro e w3 ⟨rfl, hb⟩
      have HB3 : Hid (Below w.heap.size w w3) := HB2.out.trans (hb.mono HB2.out.size)
      clear hb d0 d1 d2 d3
      go_wp2_with fail
      go_returns
      exact ⟨none, 0, 0, rfl, Rl.nil _, HB3.out, fr_none _, cp_none⟩
    · rw [hm] at MY
      simp only [if_true]
      have LW := fun W => hide (fun hW : Below w.heap.size w W => lwith_any (cp := c) (m := r) (h.below hW) (led_iff.1 hl) hq1)
      clear h hl hm
      unfold rval at MY LW ⊢
      generalize insR l r = L at LW ⊢
      go_enter Try.func17, Try.ntmps17
      go_wp2_with fail
      rw [← ew]
      clear ew
      refine ((CK _).out HB1.out).mono ?_
      rintro e w2 ⟨rfl, hb⟩
      have HB2 : Hid (Below w.heap.size w w2) := HB1.out.trans (hb.mono HB1.out.size)
      have HR2 := hide (HR1.out.below hb)
      obtain ⟨d0, d1, d2, d3⟩ := HR2.out.at_
      clear hb
      go_wp2_with fail
      refine (MY _).out.mono ?_
      rintro e w3 ⟨rfl, hb⟩
      have HB3 : Hid (Below w.heap.size w w3) := HB2.out.trans (hb.mono HB2.out.size)
      clear d0 d1 d2 d3
      obtain ⟨d0, d1, d2, d3⟩ := (HR2.out.below hb).at_
      clear hb
      go_wp2_with fail
      refine ((LW _).out HB3.out).mono ?_
      rintro e w4 ⟨a', n', c', rfl, hL, hb, hF, hC⟩
      have HB4 : Hid (Below w.heap.size w w4) := HB3.out.trans (hb.mono HB3.out.size)
      have HL4 := hide hL
      have HF4 := hide (hF.mono HB3.out.size)
      have HC4 := hide hC
      clear hL hb hF hC
      go_wp2_with fail
      go_returns
      exact ⟨a', n', c', rfl, HL4.out, HB4.out, HF4.out, HC4.out⟩
  · simp only [if_neg hl] at CK ⊢
    clear h hl
    unfold rval at MY ⊢
    go_enter Try.func17, Try.ntmps17
    go_wp2_with fail
    rw [← ew]
    clear ew
    refine ((CK _).out HB1.out).mono ?_
    rintro e w2 ⟨rfl, hb⟩
    have HB2 : Hid (Below w.heap.size w w2) := HB1.out.trans (hb.mono HB1.out.size)
    clear hb
    go_wp2_with fail
    go_returns
    exact ⟨none, 0, 0, rfl, Rl.nil _, HB2.out, fr_none _, cp_none⟩
end Go.Proofs.Ytjcbhgkfbilifaa
