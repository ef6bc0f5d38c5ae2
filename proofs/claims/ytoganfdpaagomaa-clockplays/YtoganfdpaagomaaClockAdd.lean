/- The queue's add and change. No condition. -/
import Derived.Test.YtoganfdpaagomaaClockOps
import Derived.Deep.RegionHeld3
import Derived.BigRegion
namespace Go.Proofs.Ytoganfdpaagomaa
open Go.ChangeShapes Go.WideShapes Go.ChangeAt Go.RowKit Cm
set_option linter.unusedVariables false

theorem HP.behind {w w1 w2 : World} {L L1 : Ql} {r : List Tm} {ns : List Tm → List ByteArray} (hc : Chg L.M w w1) (e1 : L1.Q = L.Q) (m1 : ∀ k, L1.M k → L.M k ∨ w.heap.size ≤ k) (h : HP w1 L1 r ns w2) : HP w L r ns w2 := by
  obtain ⟨l', h1, h2, h3⟩ := h
  exact ⟨l', h1, h2, QMv.behind hc e1 m1 h3⟩
section
variable {w : World} {L : Ql} {l : List Tm}
set_option maxRecDepth 100000 in
set_option maxHeartbeats 1000000 in
theorem add_any {t : Tm} (h : Qu w L l (names l)) (hm : l.length < 64) (hs : t.name.size ≤ maxLen) (hn : t.name ∉ names l) (hh : HeapN l l.length) :
    Calls Try.prog 34 #[.pointer (some ⟨L.Q, 0, none⟩), tagg t] w fun e w' => e = .returned (.tuple #[]) ∧ HP w L (l ++ [t]) names w' := by
  obtain ⟨w1, e1⟩ : ∃ w1, w1 = w.alloc (.cells #[.string t.name, .int .i64 t.due, .int .i64 t.turn] 54) := ⟨_, rfl⟩
  have B1 : Below w.heap.size w w1 := by rw [e1]; exact below_alloc (Below.refl _ _) _
  have N1 : w1.heap[w.heap.size]? = some (.cells #[.string t.name, .int .i64 t.due, .int .i64 t.turn] 54) := by rw [e1]; exact heap_alloc_new w _
  have S1 : w1.heap.size = w.heap.size + 1 := by rw [e1]; simp
  have h1 := h.below B1
  have p0 : w1.cell? ⟨w.heap.size, 0, none⟩ = some (.string t.name) := by rw [cell_of_row w1 _ 0 _ _ _ N1]; rfl
  obtain ⟨F, hmp, hix⟩ := h1.mp
  have hmp1 : Mp w1.drew L.mb (names l).length F := hmp.same rfl
  have nl := names_length l
  obtain ⟨u3, run3, m3, g3⟩ := mp_put hmp1 (by unfold maxLen; omega) hs (i := l.length) (by omega)
  rw [hix.2 _ hn, show (none : Option Nat).isSome = false from rfl, if_neg (by simp)] at m3
  have ix3 := hix.push hn
  rw [nl] at ix3
  have g3' : w1.grownBy u3 (some L.mb) := ⟨g3.os, g3.tape, g3.output, g3.size, g3.block⟩
  have Q3 := h1.remap g3' (ns' := names l ++ [t.name]) (by simpa using m3) ix3 (fun s hs' => by
    rcases List.mem_append.1 hs' with h2 | h2
    · exact h1.sz s h2
    · rw [List.mem_singleton.1 h2]; exact hs) (by simp; omega)
  have mB : w.heap.size ≠ L.mb := fun e => by have := h.ltM; omega
  have b3 : u3.heap[w.heap.size]? = some (.cells #[.string t.name, .int .i64 t.due, .int .i64 t.turn] 54) := (g3.block _ (by show _ < w1.heap.size; omega) (fun e => mB (Option.some.inj e))).trans N1
  have t0 : u3.cell? ⟨w.heap.size, 0, none⟩ = some (.string t.name) := by rw [cell_of_row u3 _ 0 _ _ _ b3]; rfl
  have t1 : u3.cell? ⟨w.heap.size, 1, none⟩ = some (.int .i64 t.due) := by rw [cell_of_row u3 _ 1 _ _ _ b3]; rfl
  have t2 : u3.cell? ⟨w.heap.size, 2, none⟩ = some (.int .i64 t.turn) := by rw [cell_of_row u3 _ 2 _ _ _ b3]; rfl
  have c1 := h1.c1
  have CL := hide (len_any h1.drew)
  have d1 := Q3.c1
  have CP := hide (hpush_any Q3 (by omega) hh)
  have CH : Hid (Chg L.M w u3) := (Chg.of_below B1 L.M).grown g3' (fun k hk => .inl (.inr (.inl (Option.some.inj hk).symm)))
  have E1 := hide e1
  clear h hm hs hn hh B1 N1 S1 h1 hmp hix hmp1 nl m3 g3 ix3 g3' Q3 mB b3 e1
  go_enter Try.func34, Try.ntmps34
  go_wp2_with fail
  rw [← E1.out]
  go_cut [] from 4 (fun w5 => Hid (u3 = w5))
  case first =>
    go_region_held3 (fun u => u.cell? ⟨L.Q, 1, none⟩ = some (.map (some L.mb)) ∧ u.cell? ⟨w.heap.size, 0, none⟩ = some (.string t.name)) (first | go_keep | exact ⟨c1, p0⟩ | exact ⟨d1, t0⟩) ((first | (go_at_call 31; refine CL.out.mono ?_; rintro e w2 ⟨rfl, rfl⟩)))
    all_goals (go_wp2_with fail; go_meet; case rel => exact rfl)
  case rest =>
    obtain rfl := hcut.out
    go_wp2_with fail
    refine CP.out.mono ?_
    rintro e w6 ⟨rfl, hq⟩
    have FIN := hide (HP.behind CH.out rfl (fun k hk => .inl hk) hq)
    clear hq
    go_wp2_with fail
    refine bodyPost_end (results_none rfl _ _ _) rfl ?_
    exact ⟨rfl, FIN.out⟩
theorem names_set {l : List Tm} {k : Nat} {t : Tm} (hk : k < l.length) (ht : t.name = (g l k).name) : names (l.set k t) = names l := by
  rw [names, List.map_set, ht]
  apply List.ext_getElem?
  intro j
  rw [List.getElem?_set]
  by_cases e : k = j
  · subst e
    rw [if_pos rfl, if_pos (by simpa using hk), names_g hk]
  · rw [if_neg e]
    rfl
set_option maxRecDepth 100000 in
set_option maxHeartbeats 1000000 in
theorem change_any {t : Tm} {k : Nat} (h : Qu w L l (names l)) (hk : k < l.length) (ht : t.name = (g l k).name) (hh : HeapN l l.length) :
    Calls Try.prog 33 #[.pointer (some ⟨L.Q, 0, none⟩), .int .i64 k, tagg t] w fun e w' => e = .returned (.tuple #[]) ∧ HP w L (l.set k t) names w' := by
  obtain ⟨w1, e1⟩ : ∃ w1, w1 = w.alloc (.cells #[.string t.name, .int .i64 t.due, .int .i64 t.turn] 54) := ⟨_, rfl⟩
  have B1 : Below w.heap.size w w1 := by rw [e1]; exact below_alloc (Below.refl _ _) _
  have N1 : w1.heap[w.heap.size]? = some (.cells #[.string t.name, .int .i64 t.due, .int .i64 t.turn] 54) := by rw [e1]; exact heap_alloc_new w _
  have h1 := h.below B1
  have p0 : w1.cell? ⟨w.heap.size, 0, none⟩ = some (.string t.name) := by rw [cell_of_row w1 _ 0 _ _ _ N1]; rfl
  have p1 : w1.cell? ⟨w.heap.size, 1, none⟩ = some (.int .i64 t.due) := by rw [cell_of_row w1 _ 1 _ _ _ N1]; rfl
  have p2 : w1.cell? ⟨w.heap.size, 2, none⟩ = some (.int .i64 t.turn) := by rw [cell_of_row w1 _ 2 _ _ _ N1]; rfl
  obtain ⟨b, ea, eo, i0, i1, i2⟩ := h1.at hk
  have hl := h1.len
  have c0 := h1.c0
  rw [ea] at c0
  have x1 : (0 : Int) ≤ k := by omega
  have x2 : (k : Int) < L.m := by omega
  have f0 : w1.frozen? ⟨b, k * 3, none⟩ = false := (h1.room ea (by omega)).2
  have f1 : w1.frozen? ⟨b, k * 3 + 1, none⟩ = false := (h1.room ea (by omega)).2
  have f2 : w1.frozen? ⟨b, k * 3 + 2, none⟩ = false := (h1.room ea (by omega)).2
  obtain ⟨h2, g2⟩ := h1.put ea hk t
  obtain ⟨w2, e2⟩ : ∃ w2, w2 = (w1.setCells b (k * 3) t.cells).drew := ⟨_, rfl⟩
  have Q2 : Qu w2 L (l.set k t) (names (l.set k t)) := by rw [e2, names_set hk ht]; exact h2.drew
  have CH : Hid (Chg L.M w w2) := by rw [e2]; exact ((Chg.of_below B1 L.M).grown g2 (fun k hk => .inl (.inr (.inr (eo.trans hk))))).drew
  have CF := hide (hfix_any Q2 (i := k) (by simpa using hk) (by
    rw [List.length_set]
    exact fix_start (Nat.le_refl _) hh hk (fun j _ hj => by rw [g_set hk, if_neg hj])))
  have bB : w.heap.size ≠ b := fun e => by have := (h.row.lt b eo).2; omega
  have E1 := hide e1
  have E2 := hide e2
  clear h ht hh B1 N1 h1 hl h2 g2 Q2 e1 e2 eo ea hk
  go_enter Try.func33, Try.ntmps33
  go_wp2_with fail
  rw [← E1.out]
  go_cut [] from 4 (fun w5 => Hid (w2 = w5))
  case first =>
    go_region
    all_goals (go_wp2_with fail; go_meet; case rel => exact E2.out)
  case rest =>
    obtain rfl := hcut.out
    go_wp2_with fail
    refine CF.out.mono ?_
    rintro e w6 ⟨rfl, hq⟩
    have FIN := hide (HP.behind CH.out rfl (fun k hk => .inl hk) hq)
    clear hq
    go_wp2_with fail
    refine bodyPost_end (results_none rfl _ _ _) rfl ?_
    exact ⟨rfl, FIN.out⟩
end
end Go.Proofs.Ytoganfdpaagomaa
