/- The document's Put. Condition: the list can be read. -/
import Derived.Test.YtjcbhgkfbilifaaLgFind
import Derived.Test.YtjcbhgkfbilifaaLgRefB
import Derived.Test.YtjcbhgkfbilifaaFlatAddR
namespace Go.Proofs.Ytjcbhgkfbilifaa
open Go.ChangeShapes Go.WideShapes Go.ChangeAt Go.RowKit Ao Lg
set_option linter.unusedVariables false

/-- a right in its block, and two lists of the call's own -/
structure PS (w wr : World) (r : Rt) (a1 : Option Addr) (n1 c1 : Nat) (a2 : Option Addr) (n2 c2 : Nat) (L1 L2 : List Rt) : Prop where
  bl : Below w.heap.size w wr
  bx : Rb wr w.heap.size r
  o1 : wr.ownsRow (w.heap.size + 1) 43 4 (.slice a1 n1 c1) n1 (fcells renc L1)
  o2 : wr.ownsRow (w.heap.size + 1) 43 4 (.slice a2 n2 c2) n2 (fcells renc L2)
  ne : ∀ g, (Value.slice a1 n1 c1).ownBlock = some g → ¬ (Value.slice a2 n2 c2).ownBlock = some g
  nn : n2 = 0 → a2 = none ∧ c2 = 0
theorem PS.len1 {w wr : World} {r : Rt} {a1 a2 : Option Addr} {n1 c1 n2 c2 : Nat} {L1 L2 : List Rt} (h : PS w wr r a1 n1 c1 a2 n2 c2 L1 L2) : L1.length = n1 := by
  have := h.o1.1
  rw [fcells_length rflat] at this
  omega
theorem PS.len2 {w wr : World} {r : Rt} {a1 a2 : Option Addr} {n1 c1 n2 c2 : Nat} {L1 L2 : List Rt} (h : PS w wr r a1 n1 c1 a2 n2 c2 L1 L2) : L2.length = n2 := by
  have := h.o2.1
  rw [fcells_length rflat] at this
  omega
theorem PS.below {w wr wr' : World} {r : Rt} {a1 a2 : Option Addr} {n1 c1 n2 c2 : Nat} {L1 L2 : List Rt} (h : PS w wr r a1 n1 c1 a2 n2 c2 L1 L2) (hb : Below wr.heap.size wr wr') : PS w wr' r a1 n1 c1 a2 n2 c2 L1 L2 :=
  ⟨h.bl.trans (hb.mono h.bl.size), h.bx.below hb, row_keeps h.o1 hb, row_keeps h.o2 hb, h.ne, h.nn⟩
theorem own_some {g n c k : Nat} (h : (Value.slice (some ⟨g, 0, none⟩) n c).ownBlock = some k) : g = k := Option.some.inj h
theorem PS.add1 {w wr : World} {r : Rt} {a1 a2 : Option Addr} {n1 c1 n2 c2 : Nat} {L1 L2 : List Rt} (h : PS w wr r a1 n1 c1 a2 n2 c2 L1 L2) (x : Rt) (ty : TypeId) (hm : n1 * 40 ≤ 140737488355328) :
    ∃ g cp w', (Builtin.append_ #[41, 41] ty #[.slice a1 n1 c1, .slice (some ⟨wr.heap.size, 0, none⟩) 1 1]).run Try.prog (wr.alloc (.cells #[.int .i64 x.g, .string x.k, .int .i64 x.ls, .int .i64 x.nt] 43)) = .ok (.slice (some ⟨g, 0, none⟩) (n1 + 1) cp) w'
      ∧ PS w w' r (some ⟨g, 0, none⟩) (n1 + 1) cp a2 n2 c2 (L1 ++ [x]) L2 := by
  have hs : w.heap.size < wr.heap.size := h.bx.lt
  obtain ⟨g, cp, w', hr, ho, hc, hb, hl⟩ := FnR.add_where h.o1 hm (by omega) x ty
  refine ⟨g, cp, w', hr, ?_, ⟨(hb.block _ (by omega)).trans h.bx.row⟩, ho, row_same h.o2 fun k hk => hc.block k (h.o2.lt k hk).2 (fun e => h.ne k e hk), fun k hk hk2 => ?_, h.nn⟩
  · exact ⟨hb.os.trans h.bl.os, hb.tape.trans h.bl.tape, hb.output.trans h.bl.output, Nat.le_trans h.bl.size hb.size, fun k hk => (hb.block k (by omega)).trans (h.bl.block k hk)⟩
  · obtain rfl := own_some hk
    rcases hl with e | e
    · exact h.ne _ e hk2
    · have := (h.o2.lt _ hk2).2; omega
theorem PS.add2 {w wr : World} {r : Rt} {a1 a2 : Option Addr} {n1 c1 n2 c2 : Nat} {L1 L2 : List Rt} (h : PS w wr r a1 n1 c1 a2 n2 c2 L1 L2) (x : Rt) (ty : TypeId) (hm : n2 * 40 ≤ 140737488355328) :
    ∃ g cp w', (Builtin.append_ #[41, 41] ty #[.slice a2 n2 c2, .slice (some ⟨wr.heap.size, 0, none⟩) 1 1]).run Try.prog (wr.alloc (.cells #[.int .i64 x.g, .string x.k, .int .i64 x.ls, .int .i64 x.nt] 43)) = .ok (.slice (some ⟨g, 0, none⟩) (n2 + 1) cp) w'
      ∧ PS w w' r a1 n1 c1 (some ⟨g, 0, none⟩) (n2 + 1) cp L1 (L2 ++ [x]) := by
  have hs : w.heap.size < wr.heap.size := h.bx.lt
  obtain ⟨g, cp, w', hr, ho, hc, hb, hl⟩ := FnR.add_where h.o2 hm (by omega) x ty
  refine ⟨g, cp, w', hr, ?_, ⟨(hb.block _ (by omega)).trans h.bx.row⟩, row_same h.o1 fun k hk => hc.block k (h.o1.lt k hk).2 (fun e => h.ne k hk e), ho, fun k hk hk2 => ?_, fun e => by omega⟩
  · exact ⟨hb.os.trans h.bl.os, hb.tape.trans h.bl.tape, hb.output.trans h.bl.output, Nat.le_trans h.bl.size hb.size, fun k hk => (hb.block k (by omega)).trans (h.bl.block k hk)⟩
  · obtain rfl := own_some hk2
    rcases hl with e | e
    · exact h.ne _ hk e
    · have := (h.o1.lt _ hk).2; omega
/-- the second list behind the first -/
theorem PS.join {w wr : World} {r : Rt} {a1 a2 : Option Addr} {n1 c1 n2 c2 : Nat} {L1 L2 : List Rt} (h : PS w wr r a1 n1 c1 a2 n2 c2 L1 L2) (ty : TypeId) (hm : (n1 + n2) * 40 ≤ 140737488355328) :
    ∃ a' c' w', (Builtin.append_ #[41, 41] ty #[.slice a1 n1 c1, .slice a2 n2 c2]).run Try.prog wr = .ok (.slice a' (n1 + n2) c') w'
      ∧ Rs w' a' (n1 + n2) (L1 ++ L2) ∧ Below w.heap.size w w' := by
  obtain ⟨i0, hi, hz0, hz1, hz2⟩ := info_parts FnR.info
  have hs : w.heap.size < wr.heap.size := h.bx.lt
  rcases Nat.eq_zero_or_pos n2 with e | e
  · obtain ⟨rfl, rfl⟩ := h.nn e
    subst e
    have e2 : L2 = [] := List.eq_nil_of_length_eq_zero h.len2
    subst e2
    refine ⟨a1, c1, wr, ?_, ?_, h.bl⟩
    · exact run_append_owned_none (P := Try.prog) (w := wr) (w.heap.size + 1) 41 ty 43 i0 4 Try.underlying41 hi _ _ _ h.o1
    · rw [List.append_nil, Nat.add_zero]
      exact Rl.of_row rflat h.o1 (by omega)
  · obtain ⟨_, ⟨e1, e2⟩ | ⟨g, cp, cur, e1, hBg, hg, _⟩⟩ := id h.o2
    · omega
    obtain ⟨rfl, rfl⟩ : a2 = some ⟨g, 0, none⟩ ∧ c2 = cp := by simpa using e1
    have hrs : Rs wr (some ⟨g, 0, none⟩) n2 L2 := Rl.of_row rflat h.o2 (by omega)
    obtain ⟨g', cp', wn, hr, ho, hgr, hloc⟩ := run_append_where (P := Try.prog) wr (w.heap.size + 1) 41 ty 43 i0 _ 4 40 Try.underlying41 hi hz0 hz1 hz2 rfl (by omega) a1 n1 c1 (fcells renc L1) h.o1
      ⟨g, 0, none⟩ n2 c2 (fcells renc L2) (by rw [fcells_length rflat, hrs.len]) (hrs.news rflat _ rfl) (fcells_one rflat L2) e (by unfold maxLen; omega) (by omega) (by omega)
    refine ⟨_, _, wn, hr, ?_, ?_⟩
    · rw [← fcells_append] at ho
      exact Rl.of_row rflat ho hm
    · exact h.bl.grown hgr h.bl.size (fun k hk => by have := (h.o1.lt k hk).1; omega)
theorem take_next {l : List Rt} {k : Nat} {x : Rt} (p : Rt → Bool) (hx : l[k]? = some x) : (l.take (k + 1)).filter p = (l.take k).filter p ++ (if p x = true then [x] else []) := by
  rw [List.take_add_one, hx, List.filter_append]
  congr 1
  simp [List.filter_cons]
set_option maxRecDepth 100000 in
set_option maxHeartbeats 4000000 in
theorem rput_any {w : World} {a : Option Addr} {n c : Nat} {l : List Rt} {r : Rt} (h : Rs w a n l) (hq1 : (n + 1) * 40 ≤ 140737488355328) :
    Calls Try.prog 18 #[.slice a n c, rval r] w fun e w' => ∃ a' n' c', e = .returned (.tuple #[.slice a' n' c', .int .i64 (putE l r)]) ∧ Rs w' a' n' (putL l r) ∧ Below w.heap.size w w' := by
  have CK := fun W => hide (fun hW : Below w.heap.size w W => rledger_any (c := c) (h.below hW))
  have MY := fun W => hide (rmay_any r W)
  obtain ⟨w1, ew⟩ : ∃ w1, w1 = w.alloc (.cells #[.int .i64 r.g, .string r.k, .int .i64 r.ls, .int .i64 r.nt] 43) := ⟨_, rfl⟩
  have HB1 : Hid (Below w.heap.size w w1) := by rw [ew]; exact Below.alloc (Below.refl _ _) (Nat.le_refl _) _
  have HR1 : Hid (Rb w1 w.heap.size r) := by rw [ew]; exact rb_new w r
  have H := hide h
  have HLn := hide h.len
  by_cases hl : ledB l = true
  · cases hm : mayB r
    · have eE : putE l r = 1 := by unfold putE; rw [if_pos hl, hm]; rfl
      have eL : putL l r = [] := by unfold putL; rw [eE]; rfl
      rw [eE, eL]
      rw [hl] at CK
      rw [hm] at MY
      clear h hl hm eE eL
      unfold rval at MY ⊢
      go_enter Try.func18, Try.ntmps18
      go_wp2_with fail
      rw [← ew]
      clear ew
      refine ((CK _).out HB1.out).mono ?_
      rintro e w2 ⟨rfl, hb⟩
      have HB2 : Hid (Below w.heap.size w w2) := HB1.out.trans (hb.mono HB1.out.size)
      obtain ⟨d0, d1, d2, d3⟩ := (HR1.out.below hb).at_
      clear hb
      go_wp2_with fail
      refine (MY _).out.mono ?_
      rintro e w3 ⟨rfl, hb⟩
      have HB3 : Hid (Below w.heap.size w w3) := HB2.out.trans (hb.mono HB2.out.size)
      clear hb d0 d1 d2 d3
      go_wp2_with fail
      go_returns
      exact ⟨none, 0, 0, rfl, Rl.nil _, HB3.out⟩
    · have eE : putE l r = 0 := by unfold putE; rw [if_pos hl, hm]; rfl
      have eL : putL l r = l.filter (fun x => decide (ordR x r < 0)) ++ r :: l.filter (fun x => decide (ordR r x < 0)) := by unfold putL; rw [if_pos eE]; exact put_eq (led_iff.1 hl)
      rw [eE, eL]
      rw [hl] at CK
      rw [hm] at MY
      have LO := fun (x : Rt) W => hide (rbelow_any x r W)
      have HI := fun (x : Rt) W => hide (rbelow_any r x W)
      clear h hl hm eE eL
      unfold rval at MY LO HI ⊢
      go_enter Try.func18, Try.ntmps18
      go_wp2_with fail
      rw [← ew]
      clear ew
      refine ((CK _).out HB1.out).mono ?_
      rintro e w2 ⟨rfl, hb⟩
      have HB2 : Hid (Below w.heap.size w w2) := HB1.out.trans (hb.mono HB1.out.size)
      have HR2 := hide (HR1.out.below hb)
      obtain ⟨d0, d1, d2, d3⟩ := HR2.out.at_
      clear hb
      go_wp2_with fail
      refine (MY _).out.mono ?_
      rintro e w3 ⟨rfl, hb⟩
      have HB3 : Hid (Below w.heap.size w w3) := HB2.out.trans (hb.mono HB2.out.size)
      have HR3 := hide (HR2.out.below hb)
      clear hb d0 d1 d2 d3 CK MY HR1 HB1 HR2 HB2
      go_wp2_with fail
      go_loopw [6, 7, 8] (fun s6 s7 s8 wr => ∃ (k : Nat) (a1 : Option Addr) (n1 c1 : Nat) (a2 : Option Addr) (n2 c2 : Nat), k ≤ n ∧ s6 = .slice a1 n1 c1 ∧ s7 = .slice a2 n2 c2 ∧ s8 = .int .i64 k ∧ Hid (n1 + n2 ≤ k) ∧ Hid (PS w wr r a1 n1 c1 a2 n2 c2 ((l.take k).filter fun x => decide (ordR x r < 0)) ((l.take k).filter fun x => decide (ordR r x < 0)))) (fun _ _ s8 _ => n - (intOf s8).toNat)
      case atStart => exact ⟨0, none, 0, 0, none, 0, 0, Nat.zero_le _, rfl, rfl, rfl, Nat.le_refl _, ⟨HB3.out, HR3.out, World.ownsRow_nil _ _ _ _, World.ownsRow_nil _ _ _ _, (fun g h => by cases h), fun _ => ⟨rfl, rfl⟩⟩⟩
      case round =>
        obtain ⟨k, a1, n1, c1', a2, n2, c2', hk, rfl, rfl, rfl, HK, HP⟩ := hrel
        by_cases hlt : k < n
        · obtain ⟨b, off, x, rfl, hx, hb, M⟩ := rs_at (H.out.below HP.out.bl) hlt
          obtain ⟨c0, c1, c2, c3⟩ := M
          have HX := hide hx
          have i1 : (k : Int) < (n : Int) := by omega
          have hn12 : n1 + n2 ≤ k := HK.out
          obtain ⟨d0, d1, d2, d3⟩ := HP.out.bx.at_
          have LX := LO x
          have HX2 := HI x
          have T1 := hide (take_next (fun x => decide (ordR x r < 0)) hx)
          have T2 := hide (take_next (fun x => decide (ordR r x < 0)) hx)
          clear hx hb LO HI
          by_cases hlo : ordR x r < 0
          · have hhi : ¬ ordR r x < 0 := by rw [ord_swap x r]; omega
            rw [decide_eq_true hlo] at LX
            rw [decide_eq_false hhi] at HX2
            simp only [hlo, hhi, decide_true, decide_false, if_true, Bool.false_eq_true, if_false, List.append_nil] at T1 T2
            clear hlo hhi
            go_wp2_with fail
            refine wp_region_cells wr [(⟨b, off + k * 4, none⟩, .int .i64 x.g), (⟨b, off + k * 4 + 1, none⟩, .string x.k), (⟨b, off + k * 4 + 2, none⟩, .int .i64 x.ls), (⟨b, off + k * 4 + 3, none⟩, .int .i64 x.nt), (⟨w.heap.size, 0, none⟩, .int .i64 r.g), (⟨w.heap.size, 1, none⟩, .string r.k), (⟨w.heap.size, 2, none⟩, .int .i64 r.ls), (⟨w.heap.size, 3, none⟩, .int .i64 r.nt)] (by kernel_rfl) (by kernel_rfl) (Below.refl _ _) (by simp [AllCells, c0, c1, c2, c3, d0, d1, d2, d3]) ?_
            intro hne qq
            simp only [AllCells, and_true] at qq
            clear c0 c1 c2 c3 d0 d1 d2 d3
            repeat (go_big_quiet_step (first | (go_at_call 61; exact Held.call _ (LX _).out)))
            refine wpQuiet_nil ?_
            rintro _ ⟨y3, rfl⟩
            have HY3 : Hid (Below wr.heap.size wr y3.x) := y3.below
            clear qq hne
            have HP3 := hide (HP.out.below HY3.out)
            obtain ⟨b', off', x', e9, hx', _, M⟩ := rs_at (H.out.below HP3.out.bl) hlt
            cases e9
            obtain rfl : x = x' := by rw [HX.out] at hx'; exact Option.some.inj hx'
            obtain ⟨c0, c1, c2, c3⟩ := M
            obtain ⟨d0, d1, d2, d3⟩ := HP3.out.bx.at_
            clear hx'
            obtain ⟨gq, cq, w5, hr, hP⟩ := HP3.out.add1 x 41 (by omega)
            have HP5 := hide hP
            clear hP
            go_wp2_with (at_builtin; refine wp_append_run _ rfl _ _ 41 rfl _ _ hr ?_)
            clear hr c0 c1 c2 c3 d0 d1 d2 d3
            obtain ⟨b', off', x', e9, hx', _, M⟩ := rs_at (H.out.below HP5.out.bl) hlt
            cases e9
            obtain rfl : x = x' := by rw [HX.out] at hx'; exact Option.some.inj hx'
            obtain ⟨c0, c1, c2, c3⟩ := M
            obtain ⟨d0, d1, d2, d3⟩ := HP5.out.bx.at_
            clear hx'
            go_wp2_with fail
            refine wp_region_cells w5 [(⟨b, off + k * 4, none⟩, .int .i64 x.g), (⟨b, off + k * 4 + 1, none⟩, .string x.k), (⟨b, off + k * 4 + 2, none⟩, .int .i64 x.ls), (⟨b, off + k * 4 + 3, none⟩, .int .i64 x.nt), (⟨w.heap.size, 0, none⟩, .int .i64 r.g), (⟨w.heap.size, 1, none⟩, .string r.k), (⟨w.heap.size, 2, none⟩, .int .i64 r.ls), (⟨w.heap.size, 3, none⟩, .int .i64 r.nt)] (by kernel_rfl) (by kernel_rfl) (Below.refl _ _) (by simp [AllCells, c0, c1, c2, c3, d0, d1, d2, d3]) ?_
            intro hne qq
            simp only [AllCells, and_true] at qq
            clear c0 c1 c2 c3 d0 d1 d2 d3
            repeat (go_big_quiet_step (first | (go_at_call 61; exact Held.call _ (HX2 _).out)))
            refine wpQuiet_nil ?_
            rintro _ ⟨y5, rfl⟩
            have HY5 : Hid (Below w5.heap.size w5 y5.x) := y5.below
            clear qq hne
            have HP6 := hide (HP5.out.below HY5.out)
            have HK6 : Hid (n1 + 1 + n2 ≤ k + 1) := by show _ ≤ _; omega
            rw [← T1.out, ← T2.out] at HP6
            go_wp2_with fail
            go_roundw
            case rel => exact ⟨k + 1, _, _, _, _, _, _, by omega, rfl, rfl, by go_num, HK6, HP6⟩
            case measure => simp [intOf]; omega
          · rw [decide_eq_false hlo] at LX
            by_cases hhi : ordR r x < 0
            · rw [decide_eq_true hhi] at HX2
              simp only [hlo, hhi, decide_true, decide_false, if_true, Bool.false_eq_true, if_false, List.append_nil] at T1 T2
              clear hlo hhi
              go_wp2_with fail
              refine wp_region_cells wr [(⟨b, off + k * 4, none⟩, .int .i64 x.g), (⟨b, off + k * 4 + 1, none⟩, .string x.k), (⟨b, off + k * 4 + 2, none⟩, .int .i64 x.ls), (⟨b, off + k * 4 + 3, none⟩, .int .i64 x.nt), (⟨w.heap.size, 0, none⟩, .int .i64 r.g), (⟨w.heap.size, 1, none⟩, .string r.k), (⟨w.heap.size, 2, none⟩, .int .i64 r.ls), (⟨w.heap.size, 3, none⟩, .int .i64 r.nt)] (by kernel_rfl) (by kernel_rfl) (Below.refl _ _) (by simp [AllCells, c0, c1, c2, c3, d0, d1, d2, d3]) ?_
              intro hne qq
              simp only [AllCells, and_true] at qq
              clear c0 c1 c2 c3 d0 d1 d2 d3
              repeat (go_big_quiet_step (first | (go_at_call 61; exact Held.call _ (LX _).out)))
              refine wpQuiet_nil ?_
              rintro _ ⟨y3, rfl⟩
              have HY3 : Hid (Below wr.heap.size wr y3.x) := y3.below
              clear qq hne
              have HP3 := hide (HP.out.below HY3.out)
              obtain ⟨b', off', x', e9, hx', _, M⟩ := rs_at (H.out.below HP3.out.bl) hlt
              cases e9
              obtain rfl : x = x' := by rw [HX.out] at hx'; exact Option.some.inj hx'
              obtain ⟨c0, c1, c2, c3⟩ := M
              obtain ⟨d0, d1, d2, d3⟩ := HP3.out.bx.at_
              clear hx'
              go_wp2_with fail
              refine wp_region_cells y3.x [(⟨b, off + k * 4, none⟩, .int .i64 x.g), (⟨b, off + k * 4 + 1, none⟩, .string x.k), (⟨b, off + k * 4 + 2, none⟩, .int .i64 x.ls), (⟨b, off + k * 4 + 3, none⟩, .int .i64 x.nt), (⟨w.heap.size, 0, none⟩, .int .i64 r.g), (⟨w.heap.size, 1, none⟩, .string r.k), (⟨w.heap.size, 2, none⟩, .int .i64 r.ls), (⟨w.heap.size, 3, none⟩, .int .i64 r.nt)] (by kernel_rfl) (by kernel_rfl) (Below.refl _ _) (by simp [AllCells, c0, c1, c2, c3, d0, d1, d2, d3]) ?_
              intro hne qq
              simp only [AllCells, and_true] at qq
              clear c0 c1 c2 c3 d0 d1 d2 d3
              repeat (go_big_quiet_step (first | (go_at_call 61; exact Held.call _ (HX2 _).out)))
              refine wpQuiet_nil ?_
              rintro _ ⟨y5, rfl⟩
              have HY5 : Hid (Below y3.x.heap.size y3.x y5.x) := y5.below
              clear qq hne
              have HP5 := hide (HP3.out.below HY5.out)
              obtain ⟨b', off', x', e9, hx', _, M⟩ := rs_at (H.out.below HP5.out.bl) hlt
              cases e9
              obtain rfl : x = x' := by rw [HX.out] at hx'; exact Option.some.inj hx'
              obtain ⟨c0, c1, c2, c3⟩ := M
              obtain ⟨d0, d1, d2, d3⟩ := HP5.out.bx.at_
              clear hx'
              obtain ⟨gq, cq, w5, hr, hP⟩ := HP5.out.add2 x 41 (by omega)
              have HP6 := hide hP
              clear hP
              have HK6 : Hid (n1 + (n2 + 1) ≤ k + 1) := by show _ ≤ _; omega
              rw [← T1.out, ← T2.out] at HP6
              go_wp2_with (at_builtin; refine wp_append_run _ rfl _ _ 41 rfl _ _ hr ?_)
              go_roundw
              case rel => exact ⟨k + 1, _, _, _, _, _, _, by omega, rfl, rfl, by go_num, HK6, HP6⟩
              case measure => simp [intOf]; omega
            · rw [decide_eq_false hhi] at HX2
              simp only [hlo, hhi, decide_false, Bool.false_eq_true, if_false, List.append_nil] at T1 T2
              clear hlo hhi
              go_wp2_with fail
              refine wp_region_cells wr [(⟨b, off + k * 4, none⟩, .int .i64 x.g), (⟨b, off + k * 4 + 1, none⟩, .string x.k), (⟨b, off + k * 4 + 2, none⟩, .int .i64 x.ls), (⟨b, off + k * 4 + 3, none⟩, .int .i64 x.nt), (⟨w.heap.size, 0, none⟩, .int .i64 r.g), (⟨w.heap.size, 1, none⟩, .string r.k), (⟨w.heap.size, 2, none⟩, .int .i64 r.ls), (⟨w.heap.size, 3, none⟩, .int .i64 r.nt)] (by kernel_rfl) (by kernel_rfl) (Below.refl _ _) (by simp [AllCells, c0, c1, c2, c3, d0, d1, d2, d3]) ?_
              intro hne qq
              simp only [AllCells, and_true] at qq
              clear c0 c1 c2 c3 d0 d1 d2 d3
              repeat (go_big_quiet_step (first | (go_at_call 61; exact Held.call _ (LX _).out)))
              refine wpQuiet_nil ?_
              rintro _ ⟨y3, rfl⟩
              have HY3 : Hid (Below wr.heap.size wr y3.x) := y3.below
              clear qq hne
              have HP3 := hide (HP.out.below HY3.out)
              obtain ⟨b', off', x', e9, hx', _, M⟩ := rs_at (H.out.below HP3.out.bl) hlt
              cases e9
              obtain rfl : x = x' := by rw [HX.out] at hx'; exact Option.some.inj hx'
              obtain ⟨c0, c1, c2, c3⟩ := M
              obtain ⟨d0, d1, d2, d3⟩ := HP3.out.bx.at_
              clear hx'
              go_wp2_with fail
              refine wp_region_cells y3.x [(⟨b, off + k * 4, none⟩, .int .i64 x.g), (⟨b, off + k * 4 + 1, none⟩, .string x.k), (⟨b, off + k * 4 + 2, none⟩, .int .i64 x.ls), (⟨b, off + k * 4 + 3, none⟩, .int .i64 x.nt), (⟨w.heap.size, 0, none⟩, .int .i64 r.g), (⟨w.heap.size, 1, none⟩, .string r.k), (⟨w.heap.size, 2, none⟩, .int .i64 r.ls), (⟨w.heap.size, 3, none⟩, .int .i64 r.nt)] (by kernel_rfl) (by kernel_rfl) (Below.refl _ _) (by simp [AllCells, c0, c1, c2, c3, d0, d1, d2, d3]) ?_
              intro hne qq
              simp only [AllCells, and_true] at qq
              clear c0 c1 c2 c3 d0 d1 d2 d3
              repeat (go_big_quiet_step (first | (go_at_call 61; exact Held.call _ (HX2 _).out)))
              refine wpQuiet_nil ?_
              rintro _ ⟨y5, rfl⟩
              have HY5 : Hid (Below y3.x.heap.size y3.x y5.x) := y5.below
              clear qq hne
              have HP6 := hide (HP3.out.below HY5.out)
              have HK6 : Hid (n1 + n2 ≤ k + 1) := by show _ ≤ _; omega
              rw [← T1.out, ← T2.out] at HP6
              go_wp2_with fail
              go_roundw
              case rel => exact ⟨k + 1, _, _, _, _, _, _, by omega, rfl, rfl, by go_num, HK6, HP6⟩
              case measure => simp [intOf]; omega
        · obtain rfl : k = n := by omega
          have hn12 : n1 + n2 ≤ k := HK.out
          rw [List.take_of_length_le (by rw [HLn.out]; exact Nat.le_refl _)] at HP
          obtain ⟨d0, d1, d2, d3⟩ := HP.out.bx.at_
          obtain ⟨gq, cq, w5, hr, hP⟩ := HP.out.add1 r 41 (by omega)
          obtain ⟨a7, c7, w7, hr7, hL, hb⟩ := hP.join 41 (by omega)
          have HL := hide hL
          have HB7 := hide hb
          clear hP hL hb
          go_wp2_with (at_builtin; first | refine wp_append_run _ rfl _ _ 41 rfl _ _ hr ?_ | refine wp_append_run _ rfl _ _ 41 rfl _ _ hr7 ?_)
          go_returns
          exact ⟨a7, _, c7, rfl, by have := HL.out; rw [List.append_assoc] at this; exact this, HB7.out⟩
  · have eE : putE l r = 21 := by unfold putE; rw [if_neg hl]
    have eL : putL l r = [] := by unfold putL; rw [eE]; rfl
    have hl2 : ledB l = false := by simpa using hl
    rw [eE, eL]
    rw [hl2] at CK
    clear h hl hl2 eE eL
    unfold rval at MY ⊢
    go_enter Try.func18, Try.ntmps18
    go_wp2_with fail
    rw [← ew]
    clear ew
    refine ((CK _).out HB1.out).mono ?_
    rintro e w2 ⟨rfl, hb⟩
    have HB2 : Hid (Below w.heap.size w w2) := HB1.out.trans (hb.mono HB1.out.size)
    clear hb
    go_wp2_with fail
    go_returns
    exact ⟨none, 0, 0, rfl, Rl.nil _, HB2.out⟩
end Go.Proofs.Ytjcbhgkfbilifaa
