/- container/heap's Push, Fix and Remove over the queue. No condition. -/
import Derived.Test.YtoganfdpaagomaaClockPop
import Derived.Test.YtoganfdpaagomaaClockDown
namespace Go.Proofs.Ytoganfdpaagomaa
open Go.ChangeShapes Go.WideShapes Go.ChangeAt Go.RowKit Cm
set_option linter.unusedVariables false

theorem cons_erase {α : Type} [Inhabited α] {l : List α} {i : Nat} (h : i < l.length) : (g l i :: l.eraseIdx i).Perm l := by
  have e : l = l.take i ++ g l i :: l.drop (i + 1) := by
    conv => lhs; rw [← List.take_append_drop i l, List.drop_eq_getElem_cons h]
    rw [g_at h]
  rw [List.eraseIdx_eq_take_drop_succ]
  conv => rhs; rw [e]
  exact List.perm_middle.symm
theorem last_split {α : Type} [Inhabited α] {l : List α} {n : Nat} (h : l.length = n + 1) : l = l.take n ++ [g l n] := by
  conv => lhs; rw [← List.take_append_drop n l, List.drop_eq_getElem_cons (by omega)]
  rw [g_at (by omega), List.drop_of_length_le (by omega)]
theorem remove_perm {l l3 : List Tm} {n i : Nat} (hl : l.length = n + 1) (hi : i < n) (hp : PI n (swp l i n) l3) : l3 = l3.take n ++ [g l i] ∧ (l3.take n).Perm (l.eraseIdx i) := by
  have h3 : l3.length = n + 1 := by rw [hp.1, swp_length, hl]
  have e3 : g l3 n = g l i := by rw [hp.g (Nat.le_refl _), g_swp (by omega) (by omega), if_pos rfl]
  have s3 := last_split h3
  rw [e3] at s3
  refine ⟨s3, ?_⟩
  have p1 : l3.Perm l := hp.perm.trans (swp_perm (by omega) (by omega))
  rw [s3] at p1
  have p2 : (g l i :: l3.take n).Perm (g l i :: l.eraseIdx i) := (List.perm_append_singleton _ _).symm.trans (p1.trans (cons_erase (by omega)).symm)
  exact p2.cons_inv
theorem heap_pre {l : List Tm} {n : Nat} (hn : n ≤ l.length) (h : HeapN l n) : HeapN (l.take n) (l.take n).length := by
  have e : (l.take n).length = n := by simp; omega
  rw [e]
  exact heap_take h (fun k hk => by simp [g, List.getD, hk])
theorem QMv.behind {w w1 w2 : World} {L L1 : Ql} {l1 : List Tm} {n1 : List ByteArray} (hc : Chg L.M w w1) (e1 : L1.Q = L.Q) (m1 : ∀ k, L1.M k → L.M k ∨ w.heap.size ≤ k) (h : QMv w1 L1 l1 n1 w2) : QMv w L l1 n1 w2 := by
  obtain ⟨hc2, L2, h2, e2, m2⟩ := h
  refine ⟨hc.trans hc2 (fun k hk hm => by rcases m1 k hm with h | h; exact h; omega), L2, h2, e2.trans e1, fun k hk => ?_⟩
  rcases m2 k hk with h | h
  · exact m1 k h
  · exact .inr (Nat.le_trans hc.size h)
section
variable {w : World} {L : Ql} {l : List Tm}
/-- a queue that is a heap of these -/
def HP (w : World) (L : Ql) (r : List Tm) (ns : List Tm → List ByteArray) (w' : World) : Prop := ∃ l', l'.Perm r ∧ HeapN l' l'.length ∧ QMv w L l' (ns l') w'
set_option maxRecDepth 100000 in
set_option maxHeartbeats 1000000 in
theorem hpush_any {t : Tm} (h : Qu w L l (names l ++ [t.name])) (hm : l.length ≤ 64) (hh : HeapN l l.length) :
    Calls Try.prog 43 #[hif L, .iface 54 (tagg t)] w fun e w' => e = .returned (.tuple #[]) ∧ HP w L (l ++ [t]) names w' := by
  have q1 := nnPush ⟨L.Q, 0, none⟩
  have q2 := mmPush ⟨L.Q, 0, none⟩
  have q3 := nnLen ⟨L.Q, 0, none⟩
  have q4 := mmLen ⟨L.Q, 0, none⟩
  have C := hide (qpush_any h hm t)
  have en : names l ++ [t.name] = names (l ++ [t]) := by simp [names]
  rw [en] at C
  have HH := hide (push_start hh t)
  have s1 : IntKind.i64.wrap ((l.length : Int) + 1 - 1) = (l.length : Int) := by rw [IntKind.wrap_i64]; omega
  have s2 : IntKind.i64.wrap (l.length : Int) = (l.length : Int) := by rw [IntKind.wrap_i64]; omega
  clear h en hh
  go_enter Try.func43, Try.ntmps43
  go_wp2_with fail
  refine C.out.mono ?_
  rintro e w1 ⟨rfl, hc1, L1, h1, e1, m1⟩
  have CL := hide (len_any h1)
  rw [e1, show (l ++ [t]).length = l.length + 1 by simp] at CL
  have CU := hide (up_any h1 (n := l.length + 1) (j := l.length) (by simp) (by omega) HH.out)
  rw [show hif L1 = hif L by simp [hif, e1]] at CU
  have M1 := hide (And.intro hc1 (And.intro e1 m1))
  clear hc1 h1 e1 m1
  go_wp2_with fail
  refine CL.out.mono ?_
  rintro e w2 ⟨rfl, rfl⟩
  go_wp2_with fail
  refine CU.out.mono ?_
  rintro e w3 ⟨rfl, l', hp, hhp, hq⟩
  have FIN : Hid (HP w L (l ++ [t]) names w3) := ⟨l', hp.perm, by rw [hp.1]; simpa using hhp, QMv.behind M1.out.1 M1.out.2.1 M1.out.2.2 hq.mv⟩
  clear hp hhp hq
  go_wp2_with fail
  refine bodyPost_end (results_none rfl _ _ _) rfl ?_
  exact ⟨rfl, FIN.out⟩
set_option maxRecDepth 100000 in
set_option maxHeartbeats 1000000 in
theorem hfix_any {i : Nat} (h : Qu w L l (names l)) (hi : i < l.length) (hd : DownI l l.length i i) :
    Calls Try.prog 42 #[hif L, .int .i64 i] w fun e w' => e = .returned (.tuple #[]) ∧ HP w L l names w' := by
  have q3 := nnLen ⟨L.Q, 0, none⟩
  have q4 := mmLen ⟨L.Q, 0, none⟩
  have CL := hide (len_any h)
  have CD := hide (down_any h (Nat.le_refl _) hi hd)
  have HI := hide hi
  clear h hd hi
  go_enter Try.func42, Try.ntmps42
  go_wp2_with fail
  refine CL.out.mono ?_
  rintro e w2 ⟨rfl, rfl⟩
  go_wp2_with fail
  refine CD.out.mono ?_
  rintro e w3 ⟨b, rfl, l', hp, ht, hf, hq⟩
  cases b with
  | true =>
    have FIN : Hid (HP w2 L l names w3) := ⟨l', hp.perm, by rw [hp.1]; exact ht rfl, hq.mv⟩
    clear hp ht hf hq
    go_wp2_with fail
    refine bodyPost_end (results_none rfl _ _ _) rfl ?_
    exact ⟨rfl, FIN.out⟩
  | false =>
    have CU := hide (up_any hq.2 (n := l.length) (j := i) (by rw [hp.1]; exact Nat.le_refl _) HI.out (hf rfl))
    have P1 := hide hp
    have Q1 := hide hq
    clear hp ht hf hq
    go_wp2_with fail
    refine CU.out.mono ?_
    rintro e w4 ⟨rfl, l2, hp2, hh2, hq2⟩
    have FIN : Hid (HP w2 L l names w4) := ⟨l2, (P1.out.trans hp2).perm, by rw [hp2.1, P1.out.1]; exact hh2, (Q1.out.trans hq2).mv⟩
    clear hp2 hh2 hq2
    go_wp2_with fail
    refine bodyPost_end (results_none rfl _ _ _) rfl ?_
    exact ⟨rfl, FIN.out⟩
/-- what Remove leaves: the one that is gone has its name in the map still -/
def RP (w : World) (L : Ql) (l : List Tm) (i : Nat) (w' : World) : Prop := HP w L (l.eraseIdx i) (fun l' => names l' ++ [(g l i).name]) w'
theorem rp_of {w1 w2 : World} {n i : Nat} {l3 : List Tm} (hl : l.length = n + 1) (hi : i < n) (hp : PI n (swp l i n) l3) (hh : HeapN l3 n) (hc : Chg L.M w w1) (hq : QMv w1 L (l3.take n) (names l3) w2) : RP w L l i w2 := by
  obtain ⟨e1, e2⟩ := remove_perm hl hi hp
  have hn : n ≤ l3.length := by rw [hp.1, swp_length, hl]; omega
  have en : names l3 = names (l3.take n) ++ [(g l i).name] := by
    conv => lhs; rw [e1]
    simp [names]
  refine ⟨l3.take n, e2, heap_pre hn hh, ?_⟩
  rw [en] at hq
  exact QMv.behind hc rfl (fun k hk => .inl hk) hq
set_option maxRecDepth 100000 in
set_option maxHeartbeats 1000000 in
theorem hremove_any {i n : Nat} (h : Qu w L l (names l)) (hl : l.length = n + 1) (hi : i ≤ n) (hh : HeapN l l.length) :
    Calls Try.prog 44 #[hif L, .int .i64 i] w fun e w' => e = .returned (.iface 54 (tagg (g l i))) ∧ RP w L l i w' := by
  have q1 := nnLen ⟨L.Q, 0, none⟩
  have q2 := mmLen ⟨L.Q, 0, none⟩
  have q3 := nnSwap ⟨L.Q, 0, none⟩
  have q4 := mmSwap ⟨L.Q, 0, none⟩
  have q5 := nnPop ⟨L.Q, 0, none⟩
  have q6 := mmPop ⟨L.Q, 0, none⟩
  have hm := h.most.1
  have CL := hide (len_any h)
  rw [hl] at CL
  have s1 : IntKind.i64.wrap ((n : Int) + 1 - 1) = (n : Int) := by rw [IntKind.wrap_i64]; omega
  have s2 : IntKind.i64.wrap (n : Int) = (n : Int) := by rw [IntKind.wrap_i64]; omega
  have HL := hide hl
  by_cases e : i = n
  · subst e
    have sp := last_split hl
    have h' := h
    rw [sp] at h'
    have CP := hide (qpop_any h')
    have en : names (l.take i ++ [g l i]) = names (l.take i) ++ [(g l i).name] := by simp [names]
    have le : l.eraseIdx i = l.take i := by rw [List.eraseIdx_eq_take_drop_succ, List.drop_of_length_le (by omega), List.append_nil]
    have HT := hide (heap_pre (l := l) (n := i) (by omega) (fun k k0 kn => hh k k0 (by omega)))
    have FI : Hid (∀ w', QMv w L (l.take i) (names (l.take i ++ [g l i])) w' → RP w L l i w') := fun w' hq => ⟨l.take i, by rw [le], HT.out, by rw [en] at hq; exact hq⟩
    clear h h' hm sp en le hh hl
    go_enter Try.func44, Try.ntmps44
    go_wp2_with fail
    refine CL.out.mono ?_
    rintro e w2 ⟨rfl, rfl⟩
    go_wp2_with fail
    refine CP.out.mono ?_
    rintro e w3 ⟨rfl, hq⟩
    have FIN := hide (FI.out _ hq)
    clear hq
    go_wp2_with fail
    go_ret
    exact ⟨rfl, FIN.out⟩
  · have hin : i < n := by omega
    have CS := hide (swap_any h (i := i) (j := n) (by omega) (by omega) e)
    have DS := hide (fix_start (l := l) (n := n) (i := i) (l' := swp l i n) (by omega) (fun k k0 kn => hh k k0 (by omega)) hin (fun k kn ki => by rw [g_swp (by omega) (by omega), if_neg (by omega), if_neg ki]))
    have x1 : ((n : Int) == (i : Int)) = false := by simp; omega
    have x2 : ((n : Int) = (i : Int)) = False := by simp; omega
    have SL : Hid (n ≤ (swp l i n).length) := by show _ ≤ _; rw [swp_length]; omega
    have PP : Hid (∀ (l3 : List Tm) w3, PI n (swp l i n) l3 → Qu w3 L l3 (names l3) → Calls Try.prog 83 #[.pointer (some ⟨L.Q, 0, none⟩)] w3 fun e w' => e = .returned (.iface 54 (tagg (g l i))) ∧ QMv w3 L (l3.take n) (names l3) w') := fun l3 w3 hp hq => by
      obtain ⟨e1, e2⟩ := remove_perm HL.out hin hp
      have hq' := hq
      have en : names l3 = names (l3.take n ++ [g l i]) := by rw [← e1]
      rw [e1] at hq'
      rw [en]
      exact qpop_any hq'
    have HI := hide hin
    clear h hm hh hl e hin hi
    go_enter Try.func44, Try.ntmps44
    go_wp2_with fail
    refine CL.out.mono ?_
    rintro e w2 ⟨rfl, rfl⟩
    go_wp2_with fail
    refine CS.out.mono ?_
    rintro e w3 ⟨rfl, hs⟩
    have S3 := hide hs
    have CD := hide (down_any hs.2 SL.out HI.out DS.out)
    clear hs
    go_wp2_with fail
    refine CD.out.mono ?_
    rintro e w4 ⟨b, rfl, l', hp, ht, hf, hq⟩
    have P4 := hide hp
    have Q4 := hide hq
    cases b with
    | true =>
      have CP := hide (PP.out l' w4 hp hq.2)
      have HT := hide (ht rfl)
      clear hp ht hf hq
      go_wp2_with fail
      refine CP.out.mono ?_
      rintro e w5 ⟨rfl, hq5⟩
      have FIN := hide (rp_of HL.out HI.out P4.out HT.out (S3.out.trans Q4.out).1 hq5)
      clear hq5
      go_wp2_with fail
      go_ret
      exact ⟨rfl, FIN.out⟩
    | false =>
      have CU := hide (up_any hq.2 (n := n) (j := i) (by rw [hp.1]; exact SL.out) HI.out (hf rfl))
      clear hp ht hf hq
      go_wp2_with fail
      refine CU.out.mono ?_
      rintro e w5 ⟨rfl, l2, hp2, hh2, hq2⟩
      have CP := hide (PP.out l2 w5 (P4.out.trans hp2) hq2.2)
      have P5 := hide (P4.out.trans hp2)
      have Q5 := hide (Q4.out.trans hq2)
      have HT := hide hh2
      clear hp2 hh2 hq2
      go_wp2_with fail
      refine CP.out.mono ?_
      rintro e w6 ⟨rfl, hq6⟩
      have FIN := hide (rp_of HL.out HI.out P5.out HT.out (S3.out.trans Q5.out).1 hq6)
      clear hq6
      go_wp2_with fail
      go_ret
      exact ⟨rfl, FIN.out⟩
end
end Go.Proofs.Ytoganfdpaagomaa
