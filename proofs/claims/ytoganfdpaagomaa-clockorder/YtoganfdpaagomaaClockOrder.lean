/- ClockOrder: names stand by the time at which they are due; each that is set is there, once: for every list of calls. No condition. -/
import Derived.Test.YtoganfdpaagomaaClockRan
import Derived.BigQuiet
namespace Go.Proofs.Ytoganfdpaagomaa
open Go.ChangeShapes Go.WideShapes Go.ChangeAt Go.RowKit Cm
set_option linter.unusedVariables false

namespace ClockOrder
/-- the i-th of those that are set, in their order -/
def nth (s : Cs) (i : Nat) : Tm := g (srt s.r) i
def lastV (s : Cs) (i : Nat) : Int := if i = 0 then s.now else (nth s (i - 1)).due
structure Facts (s : Cs) (n : Nat) : Prop where
  len : (namesS s).length = n
  le : n ≤ 64
  ith : ∀ i, i < n → (namesS s)[i]? = some (nth s i).name ∧ has s (nth s i).name = true ∧ dueV s (nth s i).name = (nth s i).due ∧ s.now < (nth s i).due ∧ lastV s i ≤ (nth s i).due ∧ (nth s i).name.size ≤ maxLen
  next : ∀ i, lastV s (i + 1) = (nth s i).due
  once : ∀ k i, k < i → i < n → (nth s k).name ≠ (nth s i).name
  all : ∀ x, has s x = true ↔ ∃ k, k < n ∧ (nth s k).name = x
theorem facts {s : Cs} {B : Int} (h : Ok s B) : Facts s s.r.length := by
  have hp := srt_perm s.r
  have hl : (srt s.r).length = s.r.length := hp.length_eq
  have hnd : (names (srt s.r)).Nodup := (hp.map Tm.name).nodup_iff.2 h.nd
  have mem : ∀ i, i < s.r.length → nth s i ∈ s.r := fun i hi => hp.mem_iff.1 (g_mem (by omega))
  have ord : ∀ i, i + 1 < s.r.length → (nth s i).due ≤ (nth s (i + 1)).due := fun i hi => by
    have := List.pairwise_iff_getElem.1 (srt_sorted s.r) i (i + 1) (by omega) (by omega) (by omega)
    rw [← g_at, ← g_at] at this
    simp only [lt, decide_eq_false_iff_not] at this
    unfold nth
    omega
  refine ⟨by unfold namesS; rw [names_length, hl], h.len, fun i hi => ?_, fun i => by simp [lastV], fun k i hk hi e => ?_, fun x => ?_⟩
  · have ht := h.tm _ (mem i hi)
    refine ⟨names_g (by omega), (has_iff s _).2 (List.mem_map_of_mem (mem i hi)), dueV_at h (mem i hi), ht.1, ?_, by unfold maxLen; omega⟩
    unfold lastV
    split
    · omega
    · rename_i h0
      have := ord (i - 1) (by omega)
      rwa [show i - 1 + 1 = i by omega] at this
  · have h1 := names_g (l := srt s.r) (i := k) (by omega)
    have h2 := names_g (l := srt s.r) (i := i) (by omega)
    have := (List.nodup_iff_pairwise_ne.1 hnd)
    rw [List.pairwise_iff_getElem] at this
    have h3 := this k i (by rw [names_length]; omega) (by rw [names_length]; omega) hk
    have e1 := (List.getElem?_eq_some_iff.1 h1).2
    have e2 := (List.getElem?_eq_some_iff.1 h2).2
    rw [e1, e2] at h3
    exact h3 e
  · rw [has_iff]
    constructor
    · intro hx
      obtain ⟨t, ht, rfl⟩ := List.mem_map.1 hx
      obtain ⟨k, hk, ek⟩ := List.getElem_of_mem (hp.mem_iff.2 ht)
      exact ⟨k, by omega, by unfold nth; rw [g_at hk, ek]⟩
    · rintro ⟨k, hk, rfl⟩
      exact List.mem_map_of_mem (mem k hk)
/-- the first k names have x among them -/
def amg (s : Cs) (x : ByteArray) (k : Nat) : Bool := (List.range k).any fun i => decide ((nth s i).name = x)
theorem amg_succ (s : Cs) (x : ByteArray) (k : Nat) : amg s x (k + 1) = (amg s x k || decide ((nth s k).name = x)) := by simp [amg, List.range_succ]
theorem amg_all {s : Cs} {n : Nat} (h : Facts s n) (x : ByteArray) : amg s x n = has s x := by
  rw [Bool.eq_iff_iff, h.all]
  simp [amg]
theorem below_drewN (w : World) (B n : Nat) : Below B w (w.drewN n) := ⟨rfl, rfl, rfl, Nat.le_refl _, fun _ _ => rfl⟩
set_option maxRecDepth 100000 in
set_option maxHeartbeats 4000000 in
theorem walk {w : World} {a : Option Addr} {len cap : Nat} {os : Nat → Opd} (h : Ops w a len os) :
    Calls Try.prog 6 #[.slice a len cap] w fun e w' => e = .returned (.bool true) ∧ Below w.heap.size w w' := by
  have RA := hide (ran_any (cap := cap) h)
  have H := hide h
  have RM := h.room
  clear h
  go_enter Try.func6, Try.ntmps6
  go_wp2_with fail
  refine RA.out.mono ?_
  rintro e w1 ⟨D, s, rfl, hb1, hn1⟩
  have B1 := hide hb1
  have N1 := hide hn1
  clear hb1 hn1
  go_wp2_with fail
  refine (awake_any _).mono ?_
  rintro e w2 ⟨rfl, hb2⟩
  have B2 := hide (below_step B1.out hb2)
  obtain ⟨L, hc2, _⟩ := N1.out.below hb2
  have NA := hide (names_any hc2)
  have FA := hide (facts hc2.ok)
  have C2 := hide hc2
  clear hb2 B1 N1 hc2 RA
  go_wp2_with fail
  refine NA.out.mono ?_
  intro e w3 hnp
  obtain ⟨la, lc, rfl, TD, hb3⟩ := hnp
  have T3 := hide TD
  have C3 := hide (C2.out.below hb3)
  have B3 := hide (below_step B2.out hb3)
  rw [FA.out.len] at T3 ⊢
  have CN : Hid (∀ q, Calls Try.prog 11 #[.pointer (some ⟨D, 0, none⟩)] (w3.drewN q) fun e w' => e = .returned (.int .i64 s.now) ∧ w' = w3.drewN q) := fun q => now_any (w := w3.drewN q) (C3.out.same (fun _ _ => rfl))
  have CD : Hid (∀ x q, x.size ≤ maxLen → Calls Try.prog 15 #[.pointer (some ⟨D, 0, none⟩), .string x] (w3.drewN q) fun e w' => e = .returned (.tuple #[.int .i64 (dueV s x), .bool (has s x)]) ∧ w' = w3.drewN q) := fun x q hx => due_any (w := w3.drewN q) (C3.out.same (fun _ _ => rfl)) x hx
  have NL := hide FA.out.len
  generalize hn : s.r.length = n at *
  clear hn TD hb3 NA C2 B2
  go_wp2_with fail
  refine (CN.out 0).mono ?_
  rintro e w4 ⟨rfl, rfl⟩
  go_wp2_with fail
  go_loopw [5, 6, 7, 8, 9] (fun lv iv _ _ _ wr => ∃ (i q : Nat), i ≤ n ∧ iv = .int .i64 i ∧ lv = .int .i64 (lastV s i) ∧ Hid (wr = w3.drewN q)) (fun _ iv _ _ _ _ => n - (intOf iv).toNat)
  case atStart => exact ⟨0, 0, Nat.zero_le _, rfl, by simp [lastV], rfl⟩
  case round =>
    obtain ⟨i, q, hi, rfl, rfl, HW⟩ := hrel
    obtain rfl := HW.out
    clear HW
    have hn64 := FA.out.le
    by_cases hlt : i < n
    · obtain ⟨f1, f2, f3, f4, f5, f6⟩ := FA.out.ith i hlt
      obtain ⟨b, rfl, _, _⟩ := T3.out.addr (by rw [NL.out]; omega)
      have k0 : w3.cell? ⟨b, i, none⟩ = some (.string (nth s i).name) := T3.out.cell NL.out.symm f1
      have DU := hide (CD.out _ q f6)
      rw [f2, f3] at DU
      have NX := hide (FA.out.next i)
      have F1 := hide f1
      have y1 : ¬ ((nth s i).due < lastV s i) := by omega
      have y2 : ¬ ((nth s i).due ≤ s.now) := by omega
      have y3 : ¬ ((64 : Int) < (n : Int)) := by omega
      have i1 : (i : Int) < (n : Int) := by omega
      have i2 : (0 : Int) ≤ (i : Int) := by omega
      clear f1 f2 f3 f4 f5 f6
      go_wp2_with fail
      refine DU.out.mono ?_
      rintro e w4 ⟨rfl, rfl⟩
      go_wp2_with fail
      refine (CN.out q).mono ?_
      rintro e w4 ⟨rfl, rfl⟩
      go_wp2_with fail
      clear y1 y2 y3 k0 DU
      go_loopw [9] (fun kv wr => ∃ (k q : Nat), k ≤ i ∧ kv = .int .i64 k ∧ Hid (wr = w3.drewN q)) (fun kv _ => i - (intOf kv).toNat)
      case atStart => exact ⟨0, q, Nat.zero_le _, rfl, rfl⟩
      case round =>
        obtain ⟨k, q, hk, rfl, HW⟩ := hrel
        obtain rfl := HW.out
        clear HW
        by_cases hki : k < i
        · have ne := FA.out.once k i hki hlt
          have k0 : w3.cell? ⟨b, i, none⟩ = some (.string (nth s i).name) := T3.out.cell NL.out.symm F1.out
          have k1 : w3.cell? ⟨b, k, none⟩ = some (.string (nth s k).name) := T3.out.cell NL.out.symm (FA.out.ith k (by omega)).1
          have j1 : (k : Int) < (i : Int) := by omega
          have j2 : (0 : Int) ≤ (k : Int) := by omega
          have j3 : (k : Int) < (n : Int) := by omega
          have e1 : ((nth s k).name.toList == (nth s i).name.toList) = false := by rw [str_eq]; exact decide_eq_false ne
          clear ne
          generalize (nth s k).name = xk at *
          generalize (nth s i).name = xi at *
          go_wp2_with fail
          go_quiet (fail)
          go_wp2_with fail
          go_roundw
          case rel => exact ⟨k + 1, _, by omega, by go_num, rfl⟩
          case measure => simp [intOf]; omega
        · obtain rfl : k = i := by omega
          clear hki hk
          go_wp2_with fail
          go_roundw
          case rel => exact ⟨k + 1, q, by omega, by go_num, by rw [NX.out], rfl⟩
          case measure => simp [intOf]; omega
    · obtain rfl : i = n := by omega
      clear hlt hi
      go_wp2_with fail
      go_loopw [10, 11, 12, 13, 14] (fun jv _ _ _ _ wr => ∃ (j q : Nat), j ≤ len ∧ jv = .int .i64 j ∧ Hid (wr = w3.drewN q)) (fun jv _ _ _ _ _ => len - (intOf jv).toNat)
      case atStart => exact ⟨0, q, Nat.zero_le _, rfl, rfl⟩
      case round =>
        obtain ⟨j, q, hj, rfl, HW⟩ := hrel
        obtain rfl := HW.out
        clear HW
        by_cases hlt : j < len
        · obtain ⟨ob, off, rfl, oblt, hoc⟩ := H.out.cells (by omega)
          have SZ := H.out.each j hlt
          have hr := rangeAt_same (hoc j hlt) (B3.out.block ob oblt)
          have DU := hide (CD.out _ q SZ)
          generalize os j = o at *
          obtain ⟨kind, x, d⟩ := o
          obtain ⟨o0, o1, o2⟩ := opc_cells hr
          have AL := hide (amg_all FA.out x)
          clear hr hoc oblt SZ o0 o2
          have i1 : (j : Int) < (len : Int) := by omega
          have i2 : (0 : Int) ≤ (j : Int) := by omega
          go_wp2_with fail
          refine DU.out.mono ?_
          rintro e w4 ⟨rfl, rfl⟩
          go_wp2_with fail
          clear DU
          go_loopw [13, 14] (fun tv kv wr => ∃ (k q : Nat), k ≤ i ∧ kv = .int .i64 k ∧ tv = .bool (amg s x k) ∧ Hid (wr = w3.drewN q)) (fun _ kv _ => i - (intOf kv).toNat)
          case atStart => exact ⟨0, q, Nat.zero_le _, rfl, rfl, rfl⟩
          case round =>
            obtain ⟨k, q, hk, rfl, rfl, HW⟩ := hrel
            obtain rfl := HW.out
            clear HW
            by_cases hki : k < i
            · obtain ⟨b, rfl, _, _⟩ := T3.out.addr (by rw [NL.out]; omega)
              have k1 : w3.cell? ⟨b, k, none⟩ = some (.string (nth s k).name) := T3.out.cell NL.out.symm (FA.out.ith k hki).1
              have j1 : (k : Int) < (i : Int) := by omega
              have j2 : (0 : Int) ≤ (k : Int) := by omega
              have e1 := str_eq (nth s k).name x
              have AS := hide (amg_succ s x k)
              cases ha : amg s x k with
              | true =>
                rw [ha] at AS
                clear ha e1
                go_wp2_with fail
                go_quiet (fail)
                go_wp2_with fail
                go_roundw
                case rel => exact ⟨k + 1, _, by omega, by go_num, by rw [AS.out]; rfl, rfl⟩
                case measure => simp [intOf]; omega
              | false =>
                rw [ha] at AS
                clear ha
                generalize (nth s k).name = xk at *
                generalize hd : decide (xk = x) = dd at *
                clear hd
                go_wp2_with fail
                go_quiet (fail)
                go_wp2_with fail
                go_roundw
                case rel => exact ⟨k + 1, _, by omega, by go_num, by rw [AS.out]; rfl, rfl⟩
                case measure => simp [intOf]; omega
            · obtain rfl : k = i := by omega
              clear hki hk
              rw [AL.out]
              have eqs : (has s x == has s x) = true := by simp
              generalize has s x = hv at *
              cases hv with
              | true =>
                go_wp2_with fail
                go_roundw
                case rel => exact ⟨j + 1, q, by omega, by go_num, rfl⟩
                case measure => simp [intOf]; omega
              | false =>
                go_wp2_with fail
                go_roundw
                case rel => exact ⟨j + 1, q, by omega, by go_num, rfl⟩
                case measure => simp [intOf]; omega
        · obtain rfl : j = len := by omega
          clear hlt hj
          go_wp2_with fail
          go_ret
          exact ⟨rfl, B3.out.trans (below_drewN _ _ _)⟩

set_option maxRecDepth 100000 in
theorem lifted (os : Os) (started : os.Started) (H : Type) (enc : TypeId × Value → H) :
    ReturnsInHanded {} Try.checked os 6 .any (Rows.clockOrderSpec.pre6 enc Try.prog Try.f6 Rows.clockOrderRow.domain false) (Rows.clockOrderSpec.post enc Try.prog Try.f6 false true false false) := by
  refine returnsInHanded_of_change_sized (C := Try.checked) own started (by kernel_rfl) Try.func6
    (ChangeSpec.witness6 (enc := enc) (C := Try.checked) false ⟨#[], #[.slice none 0 0], []⟩ 8 (by kernel_rfl) (by kernel_rfl) (by kernel_rfl) (by kernel_rfl)) ?_
  intro W base args ds gs before hval0 hW hcnd hsz0 _
  have hsz : (DataW.weightsEach Try.prog (Try.f6.params.toList ++ Rows.clockOrderSpec.plain.varTypes Try.prog) (ds ++ gs)).all (· ≤ reachBytes) = true := hsz0
  have hval : ∀ (j : Nat) t v, Try.f6.params[j]? = some t → args[j]? = some v → Value.okWide Try.prog W .any base t v := hval0
  have hW' := hW
  obtain ⟨p, q, hA0, hV, rfl, hfz, hnd⟩ := hW
  have hA : DataW.TrodAll enc Try.prog W 0 (fun _ => true) true Try.f6.params.toList args.toList ds p := hA0
  rw [Try.params6] at hA hval hsz
  obtain ⟨v0, vs0, d0, ds0, p0, q0, hargs, rfl, rfl, h0, r0⟩ := trodAll_cons hA
  obtain ⟨rfl, rfl, rfl⟩ := trodAll_nil r0
  obtain rfl : args = #[v0] := by cases args; simp_all
  obtain ⟨rfl, rfl⟩ := trodVars_none hV
  have lt0 : ∀ x ∈ p0, x.block < W.heap.size := by obtain ⟨m, hm⟩ := h0; exact DataW.trod_lt m _ _ _ hm
  obtain ⟨a, len, cap, os, rfl, ho⟩ := open_ops_held (hval 0 22 v0 rfl rfl) h0 (fun n hn => by have h := List.all_eq_true.1 hsz n (DataW.weights_mem_each (j := 0) rfl rfl n hn); simpa using h)
  clear hA0 hval0
  refine (walk ho).mono fun e W' ⟨he, bel⟩ => ?_
  subst he
  exact ⟨_, rfl, _, _, _, [], _, [], hW', trodAll_mk1 (shut_bool Try.underlying4 _), (trodAll_cons_mk (Below.trod laidOut (by kernel_rfl) (of_decide_eq_true (by kernel_rfl)) h0 bel lt0) trodAll_mk0), rfl, bel.frame _, fun h => by cases h⟩

theorem over : Rows.clockOrderRow.holds Try.pinned (OpenSpec.ofChange Rows.clockOrderSpec) :=
  OpenClaim.holds_of_wide 6 Try.f6 rfl rfl rfl rfl rfl rfl rfl ⟨rfl, rfl, rfl, rfl, rfl⟩ rfl rfl rfl rfl rfl (by kernel_rfl) Try.func6 (by kernel_rfl)
    (of_decide_eq_true (by kernel_rfl)) (by unfold Func.isWrapper; first | (rw [if_pos (by decide +kernel)]; kernel_rfl) | (rw [if_neg (by decide +kernel)]; exact ⟨rfl, rfl⟩))
    (fun os started H enc _ => lifted os started H enc)

theorem proved : Rows.ClockOrderSaid := over
#print axioms proved
end ClockOrder
theorem clockOrder_holds : Rows.ClockOrderSaid := ClockOrder.proved
end Go.Proofs.Ytoganfdpaagomaa
