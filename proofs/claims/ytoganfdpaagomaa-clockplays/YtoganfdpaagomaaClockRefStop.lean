/- The document's clock: Due, Stop, Set. No condition. -/
import Derived.Test.YtoganfdpaagomaaClockRef
import Derived.Deep.RegionLaw
import Derived.Deep.AppendLies
namespace Go.Proofs.Ytoganfdpaagomaa
open Go.ChangeShapes Go.WideShapes Go.ChangeAt Go.RowKit Cm
set_option linter.unusedVariables false

theorem erase_eq {l : List Tm} {k : Nat} (hk : k < l.length) (hn : (names l).Nodup) : without l (g l k).name = l.take k ++ l.drop (k + 1) := by
  have e : l = l.take k ++ g l k :: l.drop (k + 1) := by
    conv => lhs; rw [← List.take_append_drop k l, List.drop_eq_getElem_cons hk]
    rw [g_at hk]
  have hn2 : (names (l.take k ++ g l k :: l.drop (k + 1))).Nodup := by rw [← e]; exact hn
  have hn3 : (names (l.take k) ++ ((g l k).name :: names (l.drop (k + 1)))).Nodup := by simpa [names] using hn2
  obtain ⟨_, h2, h3⟩ := List.nodup_append.1 hn3
  have w1 : without (l.take k) (g l k).name = l.take k := without_none (fun hx => h3 _ hx _ (by simp) rfl)
  have w2 : without (l.drop (k + 1)) (g l k).name = l.drop (k + 1) := without_none (List.nodup_cons.1 h2).1
  have : without (l.take k ++ g l k :: l.drop (k + 1)) (g l k).name = l.take k ++ l.drop (k + 1) := by
    conv => rhs; rw [← w1, ← w2]
    unfold without
    rw [List.filter_append, List.filter_cons_of_neg (by simp [isN])]
  rw [← e] at this
  exact this
theorem row_slice {w : World} {B T sz n : Nat} {v : Value} {xs : List Value} (h : w.ownsRow B T sz v n xs) : ∃ a c, v = .slice a n c := by
  obtain ⟨_, ⟨e1, e2⟩ | ⟨g, cp, cur, e1, _⟩⟩ := h
  · subst e2; exact ⟨none, 0, e1⟩
  · exact ⟨_, cp, e1⟩
/-- timers appended to a row of the call's own, as a run -/
theorem app_rt {w : World} {B n m c0 c : Nat} {a0 : Option Addr} {x : Addr} {xs news : List Value} (h : w.ownsRow B 61 2 (.slice a0 n c0) n xs) (hl : news.length = m * 2) (hc : ∀ j u, news[j]? = some u → w.cell? (x.add j) = some u) (h1 : ∀ u ∈ news, u.oneCell' = true) (hs : n + m ≤ 1000) (hB : B ≤ w.heap.size) (ty : TypeId) :
    ∃ a1 c1 w', (Builtin.append_ #[26, 26] ty #[.slice a0 n c0, .slice (some x) m c]).run Try.prog w = .ok (.slice a1 (n + m) c1) w' ∧ w'.ownsRow B 61 2 (.slice a1 (n + m) c1) (n + m) (xs ++ news) ∧ w.grownBy w' (Value.slice a0 n c0).ownBlock := by
  obtain ⟨i0, hi, hz0, hz1, hz2⟩ := info_parts rtinfo
  obtain ⟨v', w', hr, ho, hg, _⟩ := run_append_own_wide (P := Try.prog) w B 26 ty 61 i0 (.agg zrt) 2 24 Try.underlying26 hi hz0 hz1 hz2 rfl (by omega) _ n xs h x m c news hl hc h1 (by unfold maxLen; omega) (by omega) hB
  obtain ⟨a1, c1, rfl⟩ := row_slice ho
  exact ⟨a1, c1, w', hr, ho, hg⟩
section
variable {w : World} {R : Nat} {a : Option Addr} {c : Nat} {s : Cs} {B : Int}
theorem has_of {s : Cs} {o : Option Nat} {name : ByteArray} (h : (∃ i, o = some i ∧ i < s.r.length ∧ (g s.r i).name = name) ∨ (o = none ∧ name ∉ names s.r)) : has s name = o.isSome := by
  rcases h with ⟨i, rfl, hi, e⟩ | ⟨rfl, hn⟩
  · rw [(has_iff s name).2 (by rw [← e]; exact List.mem_map_of_mem (g_mem hi))]; rfl
  · cases hx : has s name
    · rfl
    · exact absurd ((has_iff s name).1 hx) hn
theorem rdue_any (h : Rc w R a c s) (ok : Ok s B) (name : ByteArray) : Calls Try.prog 16 #[.pointer (some ⟨R, 0, none⟩), .string name] w fun e w' => e = .returned (.tuple #[.int .i64 (dueV s name), .bool (has s name)]) ∧ w' = w := by
  obtain ⟨o, ho, hc⟩ := rplace_any h ok.len name
  have HH := has_of ho
  have CP := hide hc
  have c1 := h.c1
  rcases ho with ⟨i, rfl, hi, en⟩ | ⟨rfl, hn⟩
  · obtain ⟨b, rfl, k0, k1⟩ := h.at hi
    have ed : dueV s name = (g s.r i).due := by rw [← en]; exact dueV_at ok (g_mem hi)
    rw [HH, ed]
    have j1 : (i : Int) < (s.r.length : Int) := by omega
    have j2 : (0 : Int) ≤ (i : Int) := by omega
    have j3 : ¬ ((i : Int) < 0) := by omega
    have CP2 : Hid (Calls Try.prog 30 #[.pointer (some ⟨R, 0, none⟩), .string name] w fun e w' => e = .returned (.int .i64 (i : Int)) ∧ w' = w) := CP.out
    clear h HH hc hi en ed CP
    go_enter Try.func16, Try.ntmps16
    go_wp2_with fail
    refine CP2.out.mono ?_
    rintro e w1 ⟨rfl, rfl⟩
    go_wp2_with fail
    go_ret2
    exact ⟨rfl, rfl⟩
  · have ed : dueV s name = 0 := dueV_none hn
    rw [HH, ed]
    have CP2 : Hid (Calls Try.prog 30 #[.pointer (some ⟨R, 0, none⟩), .string name] w fun e w' => e = .returned (.int .i64 (-1)) ∧ w' = w) := CP.out
    clear h HH hc hn ed CP
    go_enter Try.func16, Try.ntmps16
    go_wp2_with fail
    refine CP2.out.mono ?_
    rintro e w1 ⟨rfl, rfl⟩
    go_wp2_with fail
    go_ret2
    exact ⟨rfl, rfl⟩
set_option maxRecDepth 100000 in
set_option maxHeartbeats 1000000 in
theorem rstop_any (h : Rc w R a c s) (ok : Ok s B) (name : ByteArray) : Calls Try.prog 23 #[.pointer (some ⟨R, 0, none⟩), .string name] w fun e w' => e = .returned (.bool (has s name)) ∧ RMv w R a (stopS s name) w' := by
  obtain ⟨o, ho, hc⟩ := rplace_any h ok.len name
  have HH := has_of ho
  have c1 := h.c1
  rcases ho with ⟨k, rfl, hk, en⟩ | ⟨rfl, hn⟩
  · obtain ⟨b, rfl, _, _⟩ := h.at hk
    have h64 := ok.len
    rw [HH]
    have CP : Hid (Calls Try.prog 30 #[.pointer (some ⟨R, 0, none⟩), .string name] w fun e w' => e = .returned (.int .i64 (k : Int)) ∧ w' = w) := hc
    have row := h.row
    have hcap : s.r.length ≤ c := by
      obtain ⟨hx, ⟨e1, e2⟩ | ⟨g', cp, cur, e1, e2, e3, e4, e5, e6, e7⟩⟩ := id row
      · omega
      · obtain ⟨_, rfl⟩ : b = g' ∧ c = cp := by simpa using e1
        exact e4
    have cellA : ∀ j u, (rcells s.r)[j]? = some u → w.cell? ⟨b, j, none⟩ = some u := fun j u hu => by
      have hj := (List.getElem?_eq_some_iff.1 hu).1
      rw [rcells_length] at hj
      rw [row.cellAt j hj]
      exact hu
    obtain ⟨a1, cc1, w1, run1, o1, g1⟩ := app_rt (c := c) (x := ⟨b, 0, none⟩) (m := k) (news := rcells (s.r.take k)) (World.ownsRow_nil w w.heap.size 61 2) (by rw [rcells_length]; simp; omega) (fun j u hu => by
      rw [rcells_take _ _ (by omega)] at hu
      rw [Addr.add_lit, Nat.zero_add]
      rw [List.getElem?_take] at hu
      split at hu
      · exact cellA j u hu
      · cases hu) (rcells_one _) (by omega) (Nat.le_refl _) 26
    rw [Nat.zero_add] at run1 o1
    have b1 : ∀ q, q < w.heap.size → w1.heap[q]? = w.heap[q]? := fun q hq => g1.block q hq (by simp [Value.ownBlock])
    obtain ⟨r, er⟩ : ∃ r, s.r.length = k + 1 + r := ⟨s.r.length - (k + 1), by omega⟩
    have hb : b < w.heap.size := (row.lt b rfl).2
    have A2 : ∃ x, (x = if c = k + 1 then (⟨b, 0, none⟩ : Addr) else ⟨b, (k + 1) * 2, none⟩) ∧ ∀ j u, (rcells (s.r.drop (k + 1)))[j]? = some u → w1.cell? (x.add j) = some u := by
      refine ⟨_, rfl, fun j u hu => ?_⟩
      have hj := (List.getElem?_eq_some_iff.1 hu).1
      rw [rcells_length, List.length_drop] at hj
      rw [if_neg (by omega), Addr.add_lit, World.cell?_of_block (a := ⟨b, (k + 1) * 2 + j, none⟩) (b1 b hb)]
      rw [rcells_drop _ _ (by omega), List.getElem?_drop] at hu
      exact cellA _ u hu
    obtain ⟨x, ex, hx⟩ := A2
    obtain ⟨a2, cc2, w2, run2, o2, g2⟩ := app_rt (c := c - (k + 1)) (x := x) (m := r) (news := rcells (s.r.drop (k + 1))) o1 (by rw [rcells_length, List.length_drop]; omega) hx (rcells_one _) (by omega) g1.size 26
    have es : without s.r name = s.r.take k ++ s.r.drop (k + 1) := by rw [← en]; exact erase_eq hk ok.nd
    have ln : (without s.r name).length = k + r := by rw [es]; simp; omega
    have lv : ∀ q, (Value.slice a1 k cc1).ownBlock = some q → w.heap.size ≤ q := fun q hq => (o1.lt q hq).1
    have b2 : ∀ q, q < w.heap.size → w2.heap[q]? = w.heap[q]? := fun q hq => (g2.block q (Nat.lt_of_lt_of_le hq g1.size) (fun e => by have := lv q e.symm; omega)).trans (b1 q hq)
    have row2 : w2.ownsRow 0 61 2 (.slice a2 (without s.r name).length cc2) (without s.r name).length (rcells (without s.r name)) := by
      rw [ln, es, rcells_append]
      rw [List.nil_append] at o2
      obtain ⟨y1, y2 | ⟨g', cp', cur', z1, z2, z3⟩⟩ := o2
      · exact ⟨y1, .inl y2⟩
      · exact ⟨y1, .inr ⟨g', cp', cur', z1, Nat.zero_le _, z3⟩⟩
    have ab : ∀ q, (Value.slice a2 (k + r) cc2).ownBlock = some q → w.heap.size ≤ q := fun q hq => (o2.lt q hq).1
    have FIN : Hid (RMv w R (some ⟨b, 0, none⟩) (stopS s name) (w2.setCell ⟨R, 1, none⟩ (.slice a2 (k + r) cc2))) := by
      have := h.relist (r' := without s.r name) (a' := a2) (c' := cc2) (⟨g2.os.trans g1.os, g2.tape.trans g1.tape, g2.output.trans g1.output, Nat.le_trans g1.size g2.size, fun q hq _ => b2 q hq⟩) (b2 R h.ltR) row2 (fun q hq hne => by
        rcases hq with hq | hq
        · exact absurd hq hne
        · exact .inr (ab q (own_rb hq))) (fun e => by have h1 := ab R (by rw [← ln]; exact e); have := h.ltR; omega)
      rw [ln] at this
      exact this
    have d1 : w1.cell? ⟨R, 1, none⟩ = some (.slice (some ⟨b, 0, none⟩) s.r.length c) := (World.cell?_of_block (a := ⟨R, 1, none⟩) (b1 R h.ltR)).trans h.c1
    have d2 : w2.cell? ⟨R, 1, none⟩ = some (.slice (some ⟨b, 0, none⟩) s.r.length c) := (World.cell?_of_block (a := ⟨R, 1, none⟩) (b2 R h.ltR)).trans h.c1
    have f2 : w2.frozen? ⟨R, 1, none⟩ = false := (World.frozen?_of_block (a := ⟨R, 1, none⟩) (b2 R h.ltR)).trans (h.f 1)
    have RN1 := hide run1
    have j2 : (0 : Int) ≤ (k : Int) := by omega
    have j3 : ¬ ((k : Int) < 0) := by omega
    have j4 : (k : Int) ≤ (c : Int) := by omega
    have j5 : IntKind.i64.wrap ((k : Int) + 1) = (k : Int) + 1 := by rw [IntKind.wrap_i64]; omega
    have j6 : (0 : Int) ≤ (k : Int) + 1 := by omega
    have j7 : (k : Int) + 1 ≤ (s.r.length : Int) := by omega
    have j8 : (s.r.length : Int) ≤ (c : Int) := by omega
    have j9 : s.r.length - (k + 1) = r := by omega
    have j10 : (k : Int) ≤ (s.r.length : Int) := by omega
    have j11 : k ≤ c := by omega
    by_cases hcc : c = k + 1
    · have hc2 : (c = k + 1) = True := by simp [hcc]
      rw [if_pos hcc] at ex
      subst ex
      have RN2 := hide run2
      clear h HH hc hk en row hcap cellA o1 g1 b1 er hb hx o2 g2 es ln lv b2 row2 ab run1 run2 ok h64 hcc
      go_enter Try.func23, Try.ntmps23
      go_wp2_with fail
      refine CP.out.mono ?_
      rintro e w3 ⟨rfl, rfl⟩
      go_wp2_with (at_builtin; first | refine wp_append_run _ rfl (.tmp 12) (.tmp 18) 26 rfl _ _ RN1.out ?_ | refine wp_append_run _ rfl (.tmp 21) (.tmp 28) 26 rfl _ _ RN2.out ?_)
      go_ret
      exact ⟨rfl, FIN.out⟩
    · have hc2 : (c = k + 1) = False := by simp [hcc]
      have hc3 : c ≠ k + 1 := hcc
      rw [if_neg hcc] at ex
      subst ex
      have RN2 := hide run2
      clear h HH hc hk en row hcap cellA o1 g1 b1 er hb hx o2 g2 es ln lv b2 row2 ab run1 run2 ok h64
      go_enter Try.func23, Try.ntmps23
      go_wp2_with fail
      refine CP.out.mono ?_
      rintro e w3 ⟨rfl, rfl⟩
      go_wp2_with (at_builtin; first | refine wp_append_run _ rfl (.tmp 12) (.tmp 18) 26 rfl _ _ RN1.out ?_ | refine wp_append_run _ rfl (.tmp 21) (.tmp 28) 26 rfl _ _ RN2.out ?_)
      go_ret
      exact ⟨rfl, FIN.out⟩
  · have es : stopS s name = s := by unfold stopS; rw [without_none hn]
    rw [HH, es]
    have CP2 : Hid (Calls Try.prog 30 #[.pointer (some ⟨R, 0, none⟩), .string name] w fun e w' => e = .returned (.int .i64 (-1)) ∧ w' = w) := hc
    have H := hide h
    clear h HH hc hn es
    go_enter Try.func23, Try.ntmps23
    go_wp2_with fail
    refine CP2.out.mono ?_
    rintro e w1 ⟨rfl, rfl⟩
    go_wp2_with fail
    go_ret
    exact ⟨rfl, RMv.stay H.out⟩
end
end Go.Proofs.Ytoganfdpaagomaa
