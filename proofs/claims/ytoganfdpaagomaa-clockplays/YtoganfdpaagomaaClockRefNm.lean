/- The document's clock: the walk of Names. No condition. -/
import Derived.Test.YtoganfdpaagomaaClockRefNames
namespace Go.Proofs.Ytoganfdpaagomaa
open Go.ChangeShapes Go.WideShapes Go.ChangeAt Go.RowKit Cm
set_option linter.unusedVariables false

/-- names told so far -/
def NmS (w wr : World) (l : List ByteArray) (a : Option Addr) (c : Nat) : Prop := Below w.heap.size w wr ∧ Told wr w.heap.size (.slice a l.length c) l
theorem nm_add {w wr : World} {l : List ByteArray} {a : Option Addr} {c : Nat} (h : NmS w wr l a c) (hl : l.length ≤ 1000) (x : ByteArray) (ty : TypeId) : ∃ b cp w', (Builtin.append_ #[35, 35] ty #[.slice a l.length c, .slice (some ⟨wr.heap.size, 0, none⟩) 1 1]).run Try.prog (wr.alloc (.cells #[.string x] 9)) = .ok (.slice (some ⟨b, 0, none⟩) (l.length + 1) cp) w' ∧ NmS w w' (l ++ [x]) (some ⟨b, 0, none⟩) cp := by
  obtain ⟨b, cp, w', run, t1, g1, _⟩ := told_add h.2 hl h.1.size x ty
  exact ⟨b, cp, w', run, h.1.grown g1 h.1.size (fun j hj => (h.2.lt j hj).1), t1⟩
set_option maxRecDepth 100000 in
set_option maxHeartbeats 4000000 in
theorem rnames_any {w : World} {R : Nat} {a : Option Addr} {c : Nat} {s : Cs} {B : Int} (h : Rc w R a c s) (ok : Ok s B) :
    Calls Try.prog 14 #[.pointer (some ⟨R, 0, none⟩)] w fun e w' => NamesP w (namesS s) e w' := by
  have H := hide h
  have h64 := ok.len
  have LE : Hid (s.r.length ≤ 64) := h64
  have SR := hide ok.srt
  have PO : Hid (∀ t ∈ s.r, 0 < t.due) := fun t ht => by have := (ok.tm t ht).1; have := ok.n0; omega
  have ST : Hid (NmS w w (names (upTo s.r 0)) none 0) := by rw [upTo_zero PO.out]; exact ⟨Below.refl _ _, told_nil _ _⟩
  have S0 : Hid ((names (upTo s.r 0)).length = 0) := by rw [upTo_zero PO.out]; rfl
  clear h ok h64
  go_enter Try.func14, Try.ntmps14
  go_wp2_with fail
  go_loopw [3, 4, 5, 6, 7] (fun ov xv _ _ _ wr => ∃ (x : Int) (m : Nat) (a1 : Option Addr) (c1 : Nat), 0 ≤ x ∧ xv = .int .i64 x ∧ ov = .slice a1 m c1 ∧ Hid (m = (names (upTo s.r x)).length) ∧ Hid (NmS w wr (names (upTo s.r x)) a1 c1)) (fun _ xv _ _ _ _ => left s.r (intOf xv))
  case atStart => exact ⟨0, 0, none, 0, Int.le_refl _, rfl, rfl, S0.out.symm, ST⟩
  case round =>
    obtain ⟨x, m, a1, c1, hx, rfl, rfl, HM, NS⟩ := hrel
    have HR := hide (H.out.below NS.out.1)
    have k1 := HR.out.c1
    have h64 := LE.out
    obtain ⟨u1, u2, u3⟩ := upTo_len s.r x
    rw [← names_length, ← HM.out] at u1 u2 u3
    by_cases hlt : m < s.r.length
    · have EX := hide (u3 hlt)
      have j1 : (m : Int) < (s.r.length : Int) := by omega
      clear u1 u2 u3
      go_wp2_with fail
      go_loopw [5, 6] (fun nv iv wq => ∃ (n : Int) (i : Nat), i ≤ s.r.length ∧ nv = .int .i64 n ∧ iv = .int .i64 i ∧ Hid (Nxt (s.r.take i) x n) ∧ Hid (NmS w wq (names (upTo s.r x)) a1 c1)) (fun _ iv _ => s.r.length - (intOf iv).toNat)
      case atStart => exact ⟨0, 0, Nat.zero_le _, rfl, rfl, .inl ⟨rfl, fun t ht => by simp at ht⟩, NS⟩
      case round =>
        clear HR k1 NS
        obtain ⟨n, i, hi, rfl, rfl, NX, NS⟩ := hrel
        have HR := hide (H.out.below NS.out.1)
        have k1 := HR.out.c1
        by_cases hlt2 : i < s.r.length
        · obtain ⟨b, eb, p0, p1⟩ := HR.out.at (k := i) hlt2
          subst eb
          have SN := hide (nxt_snoc (t := g s.r i) NX.out hx)
          rw [g_at hlt2, ← List.take_succ_eq_append_getElem hlt2, ← g_at hlt2] at SN
          have i1 : (i : Int) < (s.r.length : Int) := by omega
          have i2 : (0 : Int) ≤ (i : Int) := by omega
          by_cases d1 : x < (g s.r i).due
          · by_cases d2 : n = 0
            · rw [if_pos ⟨d1, .inl d2⟩] at SN
              subst d2
              go_wp2_with fail
              go_roundw
              case rel => exact ⟨_, i + 1, by omega, rfl, by go_num, SN, NS⟩
              case measure => simp [intOf]; omega
            · have e2 : (n == 0) = false := by simpa using d2
              have e3 : (n = 0) = False := by simpa using d2
              by_cases d3 : (g s.r i).due < n
              · rw [if_pos ⟨d1, .inr d3⟩] at SN
                clear d2
                go_wp2_with fail
                go_roundw
                case rel => exact ⟨_, i + 1, by omega, rfl, by go_num, SN, NS⟩
                case measure => simp [intOf]; omega
              · rw [if_neg (fun hh => by rcases hh.2 with h | h; exact d2 h; exact d3 h)] at SN
                clear d2
                go_wp2_with fail
                go_roundw
                case rel => exact ⟨n, i + 1, by omega, rfl, by go_num, SN, NS⟩
                case measure => simp [intOf]; omega
          · rw [if_neg (fun hh => d1 hh.1)] at SN
            go_wp2_with fail
            go_roundw
            case rel => exact ⟨n, i + 1, by omega, rfl, by go_num, SN, NS⟩
            case measure => simp [intOf]; omega
        · obtain rfl : i = s.r.length := by omega
          have NF := NX.out
          rw [List.take_length] at NF
          have N2 : x < n ∧ (∃ t ∈ s.r, t.due = n) ∧ ∀ t ∈ s.r, x < t.due → n ≤ t.due := by
            rcases NF with ⟨_, h1⟩ | h1
            · obtain ⟨t, ht, h2⟩ := EX.out
              exact absurd h2 (h1 t ht)
            · exact h1
          have UP := hide (upTo_next SR.out N2.1 N2.2.2)
          have LL := hide (left_lt N2.1 N2.2.1)
          have n0 : 0 ≤ n := by omega
          have ZL : names (upTo s.r x) ++ names (dueL n (s.r.take 0)) = names (upTo s.r x) := by simp [dueL, names]
          have ST3 : Hid (NmS w wr (names (upTo s.r x) ++ names (dueL n (s.r.take 0))) a1 c1) := by rw [ZL]; exact NS
          have HM3 : Hid (m = (names (upTo s.r x) ++ names (dueL n (s.r.take 0))).length) := by rw [ZL]; exact HM
          clear ZL
          have BD : Hid (∀ i, (names (upTo s.r x) ++ names (dueL n (s.r.take i))).length ≤ 1000) := fun i => by
            rw [List.length_append]
            have h1 := (upTo_len s.r x).1
            have h2 := (dueL_le s.r n i).1
            rw [names_length (upTo s.r x)]
            have := LE.out
            omega
          clear NX NF N2 hlt2 hi HR
          go_wp2_with fail
          clear k1
          go_loopw [3, 7] (fun ov iv wq => ∃ (i m : Nat) (a1 : Option Addr) (c1 : Nat), i ≤ s.r.length ∧ iv = .int .i64 i ∧ ov = .slice a1 m c1 ∧ Hid (m = (names (upTo s.r x) ++ names (dueL n (s.r.take i))).length) ∧ Hid (NmS w wq (names (upTo s.r x) ++ names (dueL n (s.r.take i))) a1 c1)) (fun _ iv _ => s.r.length - (intOf iv).toNat)
          case atStart => exact ⟨0, m, a1, c1, Nat.zero_le _, rfl, rfl, HM3, ST3⟩
          case round =>
            clear ST3 HM3 NS HM
            obtain ⟨i, m3, a3, c3, hi, rfl, rfl, HM, NS⟩ := hrel
            have HR := hide (H.out.below NS.out.1)
            have k1 := HR.out.c1
            by_cases hlt2 : i < s.r.length
            · obtain ⟨b, eb, p0, p1⟩ := HR.out.at (k := i) hlt2
              subst eb
              have i1 : (i : Int) < (s.r.length : Int) := by omega
              have i2 : (0 : Int) ≤ (i : Int) := by omega
              by_cases hd : (g s.r i).due = n
              · obtain ⟨e1, e2⟩ := take_due hlt2 hd
                obtain ⟨b9, cp9, w9, run9, N9⟩ := nm_add NS.out (BD.out i) (g s.r i).name 35
                rw [← HM.out] at run9
                rw [List.append_assoc, ← e1] at N9
                have L9 : Hid (m3 + 1 = (names (upTo s.r x) ++ names (dueL n (s.r.take (i + 1)))).length) := by show _ = _; rw [e1, HM.out]; simp; omega
                have RN := hide run9
                have NN := hide N9
                rw [hd] at p1
                clear hd e1 e2 run9 N9
                go_wp2_with (at_builtin; refine wp_append_run _ rfl (.tmp 79) (.tmp 88) 35 rfl _ _ RN.out ?_)
                go_roundw
                case rel => exact ⟨i + 1, m3 + 1, _, cp9, by omega, by go_num, rfl, L9, NN⟩
                case measure => simp [intOf]; omega
              · obtain ⟨e1, e2⟩ := take_rest hlt2 hd
                have z1 : ((g s.r i).due == n) = false := by simpa using hd
                have z2 : ((g s.r i).due = n) = False := by simpa using hd
                have E1 := hide e1
                clear hd e1 e2
                go_wp2_with fail
                go_roundw
                case rel => exact ⟨i + 1, m3, a3, c3, by omega, by go_num, rfl, by rw [E1.out]; exact HM, by rw [E1.out]; exact NS⟩
                case measure => simp [intOf]; omega
            · obtain rfl : i = s.r.length := by omega
              have HM4 : Hid (m3 = (names (upTo s.r n)).length) := by show _ = _; rw [UP.out, HM.out, List.take_length]; simp [names]
              have NS4 : Hid (NmS w wr (names (upTo s.r n)) a3 c3) := by
                have := NS.out
                rw [List.take_length] at this
                rw [UP.out, show names (upTo s.r x ++ dueL n s.r) = names (upTo s.r x) ++ names (dueL n s.r) by simp [names]]
                exact this
              clear hlt2 hi
              go_wp2_with fail
              go_roundw
              case rel => exact ⟨n, m3, a3, c3, n0, rfl, rfl, HM4, NS4⟩
              case measure => simpa [intOf] using LL.out
    · have em : m = s.r.length := by omega
      have EN := hide (u2 em)
      have FIN : Hid (NamesP w (namesS s) (.returned (.slice a1 m c1)) wr) := by
        have h1 := NS.out
        have e1 : names (upTo s.r x) = namesS s := by rw [EN.out]; rfl
        have e2 := HM.out
        rw [e1] at h1 e2
        exact ⟨a1, c1, by rw [e2], h1.2, h1.1⟩
      have j1 : ¬ ((m : Int) < (s.r.length : Int)) := by omega
      clear u1 u2 u3 hlt em
      go_wp2_with fail
      go_ret
      exact FIN.out
end Go.Proofs.Ytoganfdpaagomaa
