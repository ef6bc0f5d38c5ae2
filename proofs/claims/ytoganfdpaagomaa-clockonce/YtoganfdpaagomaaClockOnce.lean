/- ClockOnce: a timer that nobody stops or sets again is told just once, at its time: for every list of calls, every name and number. No condition. -/
import Derived.Test.YtoganfdpaagomaaClockRan
import Derived.BigQuiet
namespace Go.Proofs.Ytoganfdpaagomaa
open Go.ChangeShapes Go.WideShapes Go.ChangeAt Go.RowKit Cm
set_option linter.unusedVariables false

namespace ClockOnce
/-- how often a name is among some -/
def cnt (l : List ByteArray) (x : ByteArray) : Nat := l.countP fun y => decide (y = x)
theorem cnt_snoc (l : List ByteArray) (y x : ByteArray) : cnt (l ++ [y]) x = cnt l x + if y = x then 1 else 0 := by
  simp [cnt, List.countP_append]
theorem cnt_le (l : List ByteArray) (x : ByteArray) : cnt l x ≤ l.length := List.countP_le_length
theorem cnt_zero {l : List ByteArray} {x : ByteArray} (h : x ∉ l) : cnt l x = 0 := by
  rw [cnt, List.countP_eq_zero]
  intro y hy
  simp
  exact fun e => h (e ▸ hy)
theorem cnt_one {l : List ByteArray} {x : ByteArray} (h : x ∈ l) (hn : l.Nodup) : cnt l x = 1 := by
  induction l with
  | nil => simp at h
  | cons y r ih =>
    obtain ⟨h1, h2⟩ := List.nodup_cons.1 hn
    rcases List.mem_cons.1 h with e | h
    · subst e
      have := cnt_zero h1
      simp only [cnt] at this ⊢
      simp [this]
    · have ne : y ≠ x := fun e => h1 (e ▸ h)
      have := ih h h2
      simp only [cnt] at this ⊢
      simp [ne, this]
/-- after i ticks -/
def ticks : Cs → Nat → Cs
  | s, 0 => s
  | s, i + 1 => tickS (ticks s i)
theorem ticks_now (s : Cs) : ∀ i : Nat, (ticks s i).now = s.now + i
  | 0 => by simp [ticks]
  | i + 1 => by show (ticks s i).now + 1 = _; rw [ticks_now s i]; omega
theorem ticks_ok {s : Cs} {B : Int} (h : Ok s B) : ∀ i : Nat, Ok (ticks s i) (B + i)
  | 0 => by simpa [ticks] using h
  | i + 1 => by have := (ticks_ok h i).tick; rw [show B + (i : Int) + 1 = B + ((i + 1 : Nat) : Int) by omega] at this; exact this
/-- the timer t is there as long as its time has not come -/
theorem ticks_mem {s : Cs} {B : Int} (h : Ok s B) {t : Tm} (ht : t ∈ s.r) : ∀ i : Nat, (t ∈ (ticks s i).r ↔ s.now + i < t.due)
  | 0 => by
    have := (h.tm t ht).1
    simp [ticks, ht, this]
  | i + 1 => by
    have ih := ticks_mem h ht i
    have hn := ticks_now s i
    show t ∈ (ticks s i).r.filter (fun t => !nowDue ((ticks s i).now + 1) t) ↔ _
    rw [List.mem_filter, ih]
    simp [nowDue, hn]
    omega
theorem ticks_sub (s : Cs) : ∀ i : Nat, (ticks s i).r.Sublist s.r
  | 0 => List.Sublist.refl _
  | i + 1 => List.filter_sublist.trans (ticks_sub s i)
theorem name_in {s : Cs} {B : Int} (h : Ok s B) {t : Tm} (ht : t ∈ s.r) (i : Nat) : t.name ∈ names (ticks s i).r ↔ t ∈ (ticks s i).r := by
  refine ⟨fun hx => ?_, fun hx => List.mem_map_of_mem hx⟩
  obtain ⟨u, hu, e⟩ := List.mem_map.1 hx
  have hs := (ticks_sub s i).subset hu
  have f1 := find_name h.nd ht
  have f2 := find_name h.nd hs
  rw [e, f1] at f2
  have : t = u := by simpa using f2
  rw [this]; exact hu
/-- what a tick tells of the timer t: the (i + 1)-th one behind s -/
theorem told_at {s : Cs} {B : Int} (h : Ok s B) {t : Tm} (ht : t ∈ s.r) (i : Nat) : cnt (tickN (ticks s i)) t.name = (if t.due = s.now + (i + 1) then 1 else 0) ∧ has (ticks s (i + 1)) t.name = decide (s.now + ((i : Int) + 1) < t.due) := by
  have ok := ticks_ok h i
  have hn := ticks_now s i
  have sub : (tickN (ticks s i)).Sublist (names (ticks s i).r) := names_sub List.filter_sublist
  constructor
  · split
    · rename_i e
      refine cnt_one ?_ (ok.nd.sublist sub)
      refine List.mem_map_of_mem (List.mem_filter.2 ⟨(ticks_mem h ht i).2 (by omega), ?_⟩)
      simp [nowDue, hn, e]
      omega
    · rename_i e
      refine cnt_zero fun hx => ?_
      obtain ⟨u, hu, eu⟩ := List.mem_map.1 hx
      obtain ⟨hu1, hu2⟩ := List.mem_filter.1 hu
      have tin : t ∈ (ticks s i).r := (name_in h ht i).1 (by rw [← eu]; exact List.mem_map_of_mem hu1)
      have f1 := find_name ok.nd tin
      have f2 := find_name ok.nd hu1
      rw [eu, f1] at f2
      have : t = u := by simpa using f2
      subst this
      simp [nowDue, hn] at hu2
      omega
  · have h1 := name_in h ht (i + 1)
    have h2 := ticks_mem h ht (i + 1)
    have : has (ticks s (i + 1)) t.name = true ↔ s.now + ((i : Int) + 1) < t.due := by
      rw [has_iff, h1, h2]
      constructor <;> intro hh <;> push_cast at * <;> omega
    rw [Bool.eq_iff_iff, this]
    simp
theorem bad_or {s : Cs} {name : ByteArray} {d : Int} (h : setE s name d ≠ 0) : setE s name d = 3 ∨ (setE s name d = 1 ∧ (name.size < 1 ∨ 16 < name.size ∨ d < 1 ∨ 2147483647 < d)) := by
  unfold setE at h ⊢
  split
  · rename_i hb
    exact .inr ⟨rfl, of_decide_eq_true hb⟩
  · rename_i hb
    rw [if_neg hb] at h
    split
    · exact .inl rfl
    · rename_i hc
      rw [if_neg hc] at h
      exact absurd rfl h
/-- the world between two ticks -/
def Rel (w wr : World) (D : Nat) (s : Cs) (B : Int) (i : Nat) : Prop := Below w.heap.size w wr ∧ ClN wr w.heap.size D (ticks s i) (B + i)
set_option maxRecDepth 100000 in
set_option maxHeartbeats 4000000 in
theorem walk {w : World} {a : Option Addr} {len cap : Nat} {os : Nat → Opd} (h : Ops w a len os) (name : ByteArray) (hname : name.size ≤ maxLen) (d : Int) (d1 : -9223372036854775808 ≤ d) (d2 : d ≤ 9223372036854775807) :
    Calls Try.prog 4 #[.slice a len cap, .string name, .int .i64 d] w fun e w' => e = .returned (.bool true) ∧ Below w.heap.size w w' := by
  have RA := hide (ran_any (cap := cap) h)
  have RM := h.room
  clear h
  go_enter Try.func4, Try.ntmps4
  go_wp2_with fail
  refine RA.out.mono ?_
  rintro e w1 ⟨D, s, rfl, hb1, hn1⟩
  have B1 := hide hb1
  have N1 := hide hn1
  clear hb1 hn1
  go_wp2_with fail
  refine (awake_any _).mono ?_
  rintro e w2 ⟨rfl, hb2⟩
  have B2 := hide (below_step B1.out hb2)
  obtain ⟨L, hc2, hL⟩ := N1.out.below hb2
  have CN := hide (now_any hc2)
  have CS := hide (set_any hc2 (by omega) name d)
  have OK := hide hc2.ok
  have LL := hide hL
  clear hb2 B1 N1 hc2 RA hL
  go_wp2_with fail
  refine CN.out.mono ?_
  rintro e w3 ⟨rfl, rfl⟩
  go_wp2_with fail
  refine CS.out.mono ?_
  rintro e w4 ⟨rfl, hmv⟩
  obtain ⟨hcn, hbn⟩ := cmv_next LL.out B2.out.size hmv
  have B4 := hide (B2.out.trans hbn)
  have N4 := hide hcn
  clear hmv hcn hbn CS
  by_cases hE : setE s name d = 0
  · rw [hE]
    have hg : ¬ (name.size < 1 ∨ 16 < name.size ∨ d < 1 ∨ 2147483647 < d) := fun hb => by rw [(bad_E (s := s) hb).1] at hE; omega
    have hs : setS s name d = ⟨s.now, s.sets + 1, without s.r name ++ [⟨name, s.now + d, s.sets + 1⟩]⟩ := by unfold setS; rw [if_pos hE]
    obtain ⟨s', es⟩ : ∃ s', s' = setS s name d := ⟨_, rfl⟩
    rw [← es] at N4
    obtain ⟨t, et⟩ : ∃ t : Tm, t = ⟨name, s.now + d, s.sets + 1⟩ := ⟨_, rfl⟩
    have tin : t ∈ s'.r := by rw [es, hs, et]; simp
    have now' : s'.now = s.now := by rw [es, hs]
    obtain ⟨L', hc4, hL'⟩ := N4.out
    have ok' := hc4.ok
    have tn : t.name = name := by rw [et]
    have td : t.due = s.now + d := by rw [et]
    have CD := hide (due_any hc4 name hname)
    rw [show has s' name = true from (has_iff s' name).2 (by rw [← tn]; exact List.mem_map_of_mem tin), show dueV s' name = s.now + d by rw [← tn, dueV_at ok' tin, td]] at CD
    have TA : Hid (∀ i : Nat, cnt (tickN (ticks s' i)) name = (if d = (i : Int) + 1 then 1 else 0) ∧ has (ticks s' (i + 1)) name = decide ((i : Int) + 1 < d)) := fun i => by
      have := told_at ok' tin i
      rw [tn, td, now'] at this
      rw [this.1, this.2]
      constructor
      · congr 1
        simp only [eq_iff_iff]
        omega
      · rw [decide_eq_decide]
        omega
    have n0 := OK.out.n0
    have nB := OK.out.nB
    have a1 : IntKind.i64.wrap (s.now + d) = s.now + d := by rw [IntKind.wrap_i64]; omega
    have a2 : IntKind.i64.wrap (d + 2) = d + 2 := by rw [IntKind.wrap_i64]; omega
    have NW := hide now'
    have HG := hide hg
    have dl : 1 ≤ d := by omega
    have dm : d ≤ 2147483647 := by omega
    have S0 : Hid (Rel w w4 D s' (len + 1) 0) := ⟨B4.out, by simpa [ticks] using N4.out⟩
    have NB : Hid (s.now + 300 < 9000000000000000000 ∧ 0 ≤ s.now) := by show _ ∧ _; omega
    clear hg hs es et tin now' hc4 hL' ok' tn td hE n0 nB
    go_wp2_with fail
    refine CD.out.mono ?_
    rintro e w5 ⟨rfl, rfl⟩
    go_wp2_with fail
    clear CD
    go_loopw [12, 13, 14, 15, 16, 17] (fun iv _ _ _ _ _ wr => ∃ (i : Nat), i ≤ 200 ∧ iv = .int .i64 ((i : Int) + 1) ∧ Hid (Rel w wr D s' (len + 1) i)) (fun iv _ _ _ _ _ _ => 300 - (intOf iv).toNat)
    case atStart => exact ⟨0, by omega, rfl, S0⟩
    case round =>
      obtain ⟨i, hi, rfl, RL⟩ := hrel
      by_cases hc : i < 200 ∧ (i : Int) + 1 ≤ d + 2
      · obtain ⟨hc1, hc2⟩ := hc
        obtain ⟨Lk, hck, hLk⟩ := RL.out.2
        have CT := hide (tick_any hck (by omega))
        have LK := hide hLk
        have lel : Hid ((tickN (ticks s' i)).length ≤ 64) := Nat.le_trans (by rw [tickN, names_length]; exact List.length_filter_le _ _) hck.ok.len
        have x1 : (i : Int) + 1 ≤ 200 := by omega
        clear hck hLk
        go_wp2_with fail
        refine CT.out.mono ?_
        intro e w6 ht
        obtain ⟨la, lc, rfl, td, cn, bn⟩ := tick_next LK.out (RL.out.1.size) ht
        have T6 := hide td
        have R6 : Hid (Rel w w6 D s' (len + 1) (i + 1)) := ⟨RL.out.1.trans bn, by rw [show (len : Int) + 1 + ((i + 1 : Nat) : Int) = (len : Int) + 1 + (i : Int) + 1 by omega]; exact cn⟩
        have TI := hide (TA.out i)
        have CX : Hid (Calls Try.prog 15 #[.pointer (some ⟨D, 0, none⟩), .string name] w6 fun e w' => e = .returned (.tuple #[.int .i64 (dueV (ticks s' (i + 1)) name), .bool (decide ((i : Int) + 1 < d))]) ∧ w' = w6) := by
          obtain ⟨L6, h6, _⟩ := R6.out.2
          have := due_any h6 name hname
          rw [(TA.out i).2] at this
          exact this
        have CY : Hid (Calls Try.prog 11 #[.pointer (some ⟨D, 0, none⟩)] w6 fun e w' => e = .returned (.int .i64 (s.now + ((i : Int) + 1))) ∧ w' = w6) := by
          obtain ⟨L6, h6, _⟩ := R6.out.2
          have := now_any h6
          rw [ticks_now, NW.out] at this
          exact this
        generalize tickN (ticks s' i) = l at T6 TI lel ⊢
        generalize dueV (ticks s' (i + 1)) name = dv at CX
        clear ht td cn bn CT
        go_wp2_with fail
        go_loopw [14, 15] (fun nv kv wr => ∃ (k : Nat), k ≤ l.length ∧ kv = .int .i64 k ∧ nv = .int .i64 (cnt (l.take k) name) ∧ Hid (w6 = wr)) (fun _ kv _ => l.length - (intOf kv).toNat)
        case atStart => exact ⟨0, Nat.zero_le _, rfl, rfl, rfl⟩
        case round =>
          obtain ⟨k, hk, rfl, rfl, HW⟩ := hrel
          obtain rfl := HW.out
          clear HW
          have hl64 := lel.out
          have CL : Hid (cnt (l.take k) name ≤ k) := Nat.le_trans (cnt_le _ _) (by simp; omega)
          by_cases hlt : k < l.length
          · obtain ⟨b, rfl, _, _⟩ := T6.out.addr (by omega)
            have hx : l[k]? = some l[k] := List.getElem?_eq_getElem hlt
            have k1 := T6.out.cell rfl hx
            have SN := hide (cnt_snoc (l.take k) l[k] name)
            rw [← List.take_succ_eq_append_getElem hlt] at SN
            have e1 := str_eq l[k] name
            have j1 : (k : Int) < (l.length : Int) := by omega
            have j2 : (0 : Int) ≤ (k : Int) := by omega
            by_cases hy : l[k] = name
            · rw [decide_eq_true hy] at e1
              rw [if_pos hy] at SN
              have x2 : IntKind.i64.wrap ((cnt (l.take k) name : Int) + 1) = (cnt (l.take (k + 1)) name : Int) := by rw [IntKind.wrap_i64, SN.out]; have := CL.out; omega
              generalize l[k] = y at *
              clear hx hy
              go_wp2_with fail
              go_roundw
              case rel => exact ⟨k + 1, by omega, by go_num, rfl, trivial⟩
              case measure => simp [intOf]; omega
            · rw [decide_eq_false hy] at e1
              rw [if_neg hy] at SN
              generalize l[k] = y at *
              clear hx hy
              go_wp2_with fail
              go_roundw
              case rel => exact ⟨k + 1, by omega, by go_num, by rw [SN.out]; rfl, trivial⟩
              case measure => simp [intOf]; omega
          · obtain rfl : k = l.length := by omega
            rw [List.take_length, TI.out.1]
            have a5 : IntKind.i64.wrap (s.now + ((i : Int) + 1)) = s.now + ((i : Int) + 1) := by rw [IntKind.wrap_i64]; have := NB.out; omega
            clear hk hlt CL
            by_cases hd : d = (i : Int) + 1
            · rw [if_pos hd]
              subst hd
              have b1 : ((i : Int) + 1 < (i : Int) + 1) = False := by simp
              go_wp2_with fail
              refine CX.out.mono ?_
              rintro e w7 ⟨rfl, rfl⟩
              go_wp2_with fail
              refine CY.out.mono ?_
              rintro e w7 ⟨rfl, rfl⟩
              go_wp2_with fail
              go_roundw
              case rel => exact ⟨i + 1, by omega, by go_num, R6⟩
              case measure => simp [intOf]; omega
            · rw [if_neg hd]
              have b1 : ((i : Int) + 1 == d) = false := by simp; omega
              have b2 : ((i : Int) + 1 = d) = False := by simp; omega
              clear hd
              by_cases hd : (i : Int) + 1 < d
              · rw [decide_eq_true hd] at CX
                go_wp2_with fail
                refine CX.out.mono ?_
                rintro e w7 ⟨rfl, rfl⟩
                go_wp2_with fail
                refine CY.out.mono ?_
                rintro e w7 ⟨rfl, rfl⟩
                go_wp2_with fail
                go_roundw
                case rel => exact ⟨i + 1, by omega, by go_num, R6⟩
                case measure => simp [intOf]; omega
              · rw [decide_eq_false hd] at CX
                go_wp2_with fail
                refine CX.out.mono ?_
                rintro e w7 ⟨rfl, rfl⟩
                go_wp2_with fail
                refine CY.out.mono ?_
                rintro e w7 ⟨rfl, rfl⟩
                go_wp2_with fail
                go_roundw
                case rel => exact ⟨i + 1, by omega, by go_num, R6⟩
                case measure => simp [intOf]; omega
      · have FIN := hide RL.out.1
        by_cases hc1 : i < 200
        · have x1 : (i : Int) + 1 ≤ 200 := by omega
          have x2 : ¬ ((i : Int) + 1 ≤ d + 2) := fun h => hc ⟨hc1, h⟩
          clear hc hc1
          go_wp2_with fail
          go_ret
          exact ⟨rfl, FIN.out⟩
        · have x1 : ¬ ((i : Int) + 1 ≤ 200) := by omega
          clear hc hc1
          go_wp2_with fail
          go_ret
          exact ⟨rfl, FIN.out⟩
  · rcases bad_or hE with h3 | ⟨h3, hb⟩
    · rw [h3]
      clear hE h3
      go_wp2_with fail
      go_ret
      exact ⟨rfl, B4.out⟩
    · rw [h3]
      clear hE h3
      by_cases g1 : name.size < 1
      · have x1 : ((name.size : Int) < 1) = True := eq_true (by omega)
        clear hb
        go_wp2_with fail
        go_ret
        exact ⟨rfl, B4.out⟩
      · have x1 : ¬ ((name.size : Int) < 1) := by omega
        have x0 : name.size ≠ 0 := by omega
        by_cases g2 : 16 < name.size
        · have x2 : (16 : Int) < (name.size : Int) := by omega
          clear hb g1 g2
          go_wp2_with fail
          go_ret
          exact ⟨rfl, B4.out⟩
        · have x2 : ¬ ((16 : Int) < (name.size : Int)) := by omega
          by_cases g3 : d < 1
          · clear hb g1 g2
            go_wp2_with fail
            go_ret
            exact ⟨rfl, B4.out⟩
          · have g4 : 2147483647 < d := by omega
            clear hb g1 g2
            go_wp2_with fail
            go_ret
            exact ⟨rfl, B4.out⟩

set_option maxRecDepth 100000 in
theorem lifted (os : Os) (started : os.Started) (H : Type) (enc : TypeId × Value → H) :
    ReturnsInHanded {} Try.checked os 4 .any (Rows.clockOnceSpec.pre6 enc Try.prog Try.f4 Rows.clockOnceRow.domain false) (Rows.clockOnceSpec.post enc Try.prog Try.f4 false true false false) := by
  refine returnsInHanded_of_change_sized (C := Try.checked) own started (by kernel_rfl) Try.func4
    (ChangeSpec.witness6 (enc := enc) (C := Try.checked) false ⟨#[], #[.slice none 0 0, .string ByteArray.empty, .int .i64 0], []⟩ 8 (by kernel_rfl) (by kernel_rfl) (by kernel_rfl) (by kernel_rfl)) ?_
  intro W base args ds gs before hval0 hW hcnd hsz0 _
  have hsz : (DataW.weightsEach Try.prog (Try.f4.params.toList ++ Rows.clockOnceSpec.plain.varTypes Try.prog) (ds ++ gs)).all (· ≤ reachBytes) = true := hsz0
  have hval : ∀ (j : Nat) t v, Try.f4.params[j]? = some t → args[j]? = some v → Value.okWide Try.prog W .any base t v := hval0
  have hW' := hW
  obtain ⟨p, q, hA0, hV, rfl, hfz, hnd⟩ := hW
  have hA : DataW.TrodAll enc Try.prog W 0 (fun _ => true) true Try.f4.params.toList args.toList ds p := hA0
  rw [Try.params4] at hA hval hsz
  obtain ⟨v0, vs0, d0, ds0, p0, q0, hargs, rfl, rfl, h0, r0⟩ := trodAll_cons hA
  obtain ⟨v1, vs1, d1, ds1, p1, q1, rfl, rfl, rfl, h1, r1⟩ := trodAll_cons r0
  obtain ⟨v2, vs2, d2, ds2, p2, q2, rfl, rfl, rfl, h2, r2⟩ := trodAll_cons r1
  obtain ⟨rfl, rfl, rfl⟩ := trodAll_nil r2
  obtain rfl : args = #[v0, v1, v2] := by cases args; simp_all
  obtain ⟨rfl, rfl⟩ := trodVars_none hV
  have lt0 : ∀ x ∈ p0, x.block < W.heap.size := by obtain ⟨m, hm⟩ := h0; exact DataW.trod_lt m _ _ _ hm
  obtain ⟨a, len, cap, os, rfl, ho⟩ := open_ops_held (hval 0 22 v0 rfl rfl) h0 (fun n hn => by have h := List.all_eq_true.1 hsz n (DataW.weights_mem_each (j := 0) rfl rfl n hn); simpa using h)
  have lt1 : ∀ x ∈ p1, x.block < W.heap.size := by obtain ⟨m, hm⟩ := h1; exact DataW.trod_lt m _ _ _ hm
  obtain ⟨name, rfl, nb⟩ := open_str (hval 1 9 v1 rfl rfl) h1
  have lt2 : ∀ x ∈ p2, x.block < W.heap.size := by obtain ⟨m, hm⟩ := h2; exact DataW.trod_lt m _ _ _ hm
  obtain ⟨d, rfl, db1, db2⟩ := open_i64 (hval 2 3 v2 rfl rfl) h2
  clear hA0 hval0
  refine (walk ho name nb d db1 db2).mono fun e W' ⟨he, bel⟩ => ?_
  subst he
  exact ⟨_, rfl, _, _, _, [], _, [], hW', trodAll_mk1 (shut_bool Try.underlying4 _), (trodAll_cons_mk (Below.trod laidOut (by kernel_rfl) (of_decide_eq_true (by kernel_rfl)) h0 bel lt0) (trodAll_cons_mk (Below.trod laidOut (by kernel_rfl) (of_decide_eq_true (by kernel_rfl)) h1 bel lt1) (trodAll_cons_mk (Below.trod laidOut (by kernel_rfl) (of_decide_eq_true (by kernel_rfl)) h2 bel lt2) trodAll_mk0))), rfl, bel.frame _, fun h => by cases h⟩

theorem over : Rows.clockOnceRow.holds Try.pinned (OpenSpec.ofChange Rows.clockOnceSpec) :=
  OpenClaim.holds_of_wide 4 Try.f4 rfl rfl rfl rfl rfl rfl rfl ⟨rfl, rfl, rfl, rfl, rfl⟩ rfl rfl rfl rfl rfl (by kernel_rfl) Try.func4 (by kernel_rfl)
    (of_decide_eq_true (by kernel_rfl)) (by unfold Func.isWrapper; first | (rw [if_pos (by decide +kernel)]; kernel_rfl) | (rw [if_neg (by decide +kernel)]; exact ⟨rfl, rfl⟩))
    (fun os started H enc _ => lifted os started H enc)

theorem proved : Rows.ClockOnceSaid := over
#print axioms proved
end ClockOnce
theorem clockOnce_holds : Rows.ClockOnceSaid := ClockOnce.proved
end Go.Proofs.Ytoganfdpaagomaa
