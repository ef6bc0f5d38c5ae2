/- The law folder's CopyChart. No condition but the size. -/
import Derived.Test.YtjhcedgncdcpjaaFWireChartVal
import Derived.Test.YtjhcedgncdcpjaaFWireXl
import Derived.Test.YtjhcedgncdcpjaaJA
import Derived.Laws.AppendOwnNone
import Derived.Deep.Cut
namespace Go.Proofs.Ytjhcedgncdcpjaa
open Go.ChangeShapes Go.WideShapes Go.ChangeAt Go.RowKit B8 Cm Wm
set_option linter.unusedVariables false

theorem ls_of_cells {w w' : World} {B0 T d n cv : Nat} {av : Option Addr} {P P' : Nat → Prop} {cs : List Value} {xss : List (List Atom)} (h : w'.ownsRow B0 T d (.slice av n cv) n cs) (hl : xss.length = n) (hd : 0 < d) (hx : ∀ (i : Nat) (xs : List Atom), xss[i]? = some xs → xs.length = d) (hc : ∀ (i q : Nat) (xs : List Atom) (x : Atom), i < n → xss[i]? = some xs → xs[q]? = some x → ∃ v, cs[i * d + q]? = some v ∧ AtomV w P v x) (hP : ∀ b, P b → P' b ∧ w'.heap[b]? = w.heap[b]?) (hO : ∀ k, (Value.slice av n cv).ownBlock = some k → P' k) : Ls w' P' av n cv d xss := by
  rcases h.2 with ⟨e1, e2⟩ | ⟨g, cp, cur, e1, _, _, hjc, _⟩
  · obtain ⟨rfl, rfl, rfl⟩ : av = none ∧ n = 0 ∧ cv = 0 := by simpa using e1
    exact ⟨hl, Nat.le_refl _, fun _ => rfl, fun h0 => absurd h0 (by omega)⟩
  · obtain ⟨rfl, rfl⟩ : av = some ⟨g, 0, none⟩ ∧ cv = cp := by simpa using e1
    refine ⟨hl, hjc, (fun e => by cases e), fun _ => ⟨g, 0, rfl, hO g rfl, fun i xs hxs => ⟨hx i xs hxs, fun q y hy => ?_⟩⟩⟩
    obtain ⟨v, h1, h2⟩ := hc i q xs y (by rw [← hl]; exact (List.getElem?_eq_some_iff.1 hxs).1) hxs hy
    have := h.cells (g := g) rfl (i * d + q) v h1
    rw [Addr.add_mid, Nat.zero_add] at this
    exact ⟨v, by rw [Nat.zero_add]; exact this, h2.same hP⟩
theorem Ls.each {w : World} {P : Nat → Prop} {a : Option Addr} {n cp d : Nat} {xss : List (List Atom)} (h : Ls w P a n cp d xss) : ∀ (i : Nat) (xs : List Atom), xss[i]? = some xs → xs.length = d := fun i xs hx => by
  obtain ⟨b, off, _, _, hr⟩ := h.rows (by have := (List.getElem?_eq_some_iff.1 hx).1; have := h.length; omega)
  exact (hr i xs hx).1
/-- a list appended to nil, as a run -/
theorem copy_list {w : World} {P : Nat → Prop} {a : Option Addr} {n cp d T E bytes : Nat} {xss : List (List Atom)} {i0 : TypeInfo} {z : Value} (ty : TypeId) (hu : Try.prog.underlying T = some (.slice E)) (hi : Try.prog.info? E = some i0) (hz0 : i0.zero = some z) (hz1 : i0.size = d) (hz2 : i0.bytes = bytes) (hzc : z.cells.size = d) (hd : 0 < d) (h : Ls w P a n cp d xss) (hr : n * bytes ≤ 140737488355328) (hb : n ≤ 140737488355328) :
    ∃ a' cp' w1, (Builtin.append_ #[T, T] ty #[.slice none 0 0, .slice a n cp]).run Try.prog w = .ok (.slice a' n cp') w1 ∧ Below w.heap.size w w1 ∧ ∀ P' : Nat → Prop, (∀ b, P b → P' b ∧ b < w.heap.size) → (∀ k, w.heap.size ≤ k → k < w1.heap.size → P' k) → Ls w1 P' a' n cp' d xss := by
  obtain ⟨cs, e1, e2, e3, e4⟩ := h.cells hd n (Nat.le_refl _)
  cases a with
  | none =>
    have hcp := h.nil rfl
    have hn := h.lecap
    obtain rfl : cp = 0 := hcp
    obtain rfl : n = 0 := by omega
    refine ⟨none, 0, w, run_append_owned_none (P := Try.prog) w w.heap.size T ty E i0 d hu hi (.slice none 0 0) 0 [] (World.ownsRow_nil _ _ _ _), Below.refl _ _, fun P' hP _ => ?_⟩
    exact ⟨h.length, Nat.le_refl _, fun _ => rfl, fun h0 => absurd h0 (by omega)⟩
  | some ad =>
    have src : ∀ j u, cs[j]? = some u → w.cell? (ad.add j) = some u := fun j u hu => by
      obtain ⟨ad', e, hh⟩ := e3 (Nat.lt_of_le_of_lt (Nat.zero_le _) (List.getElem?_eq_some_iff.1 hu).1)
      obtain rfl := Option.some.inj e
      exact hh j u hu
    obtain ⟨v', w1, hrun, hown, hg, _⟩ := run_append_own (P := Try.prog) w w.heap.size T ty E i0 z d bytes hu hi hz0 hz1 hz2 hzc hd (.slice none 0 0) 0 [] (World.ownsRow_nil _ _ _ _) ad n cp cs e1 src e2 (by unfold maxLen; omega) (by rw [Nat.zero_add]; exact hr) (Nat.le_refl _)
    rw [Nat.zero_add, List.nil_append] at hown
    obtain ⟨a', cp', rfl⟩ : ∃ a' cp', v' = .slice a' n cp' := by
      obtain ⟨_, ⟨h5, h6⟩ | ⟨g, c, cur, h5, h6⟩⟩ := hown
      · exact ⟨none, 0, by rw [h5, h6]⟩
      · exact ⟨_, _, h5⟩
    have hb1 : Below w.heap.size w w1 := ⟨hg.os, hg.tape, hg.output, hg.size, fun k hk => hg.block k hk (by simp [Value.ownBlock])⟩
    exact ⟨a', cp', w1, hrun, hb1, fun P' hP hO => ls_of_cells hown h.length hd h.each e4 (fun b hb2 => ⟨(hP b hb2).1, hb1.block b (hP b hb2).2⟩) (fun k hk => hO k (hown.lt k hk).1 (hown.lt k hk).2)⟩
/-- append at an operation, by its run -/
theorem wp_append_run {ops : Array Oper} {rest : List Oper} {o : Oper} {act : Act} {Q : Exit → Act → World → Prop} (w : World) (hg : o.guard = none) (s x : Operand) (t : TypeId)
    (hop : o.op = Op.call { callee := Callee.builtin Builtin.append, args := #[s, x], argTypes := #[t, t] }) (v : Value) (w' : World) (hr : (Builtin.append_ #[t, t] o.type #[act.eval s, act.eval x]).run Try.prog w = .ok v w') (hK : wpList Try.prog ops Q rest (act.put o.dst v) w') : wpList Try.prog ops Q (o :: rest) act w := by
  refine wpList_plain hg fun K hK' => ?_
  unfold Oper.wp execOp
  simp only [hop, resolve, invoke, builtin, Sem.run_bind, Sem.run_pure, Result.andThen_ok, List.map_toArray, List.map_cons, List.map_nil, hr]
  exact hK' _ _ hK
theorem cpinfo_place : (Try.prog.info? 59).map (fun i => (i.zero, i.size, i.bytes)) = some (some (.agg #[.int .i64 0, .string ⟨#[]⟩, .int .i64 0]), 3, 32) := by kernel_rfl
theorem cpinfo_mark : (Try.prog.info? 64).map (fun i => (i.zero, i.size, i.bytes)) = some (some (.agg #[.int .i64 0, .int .i64 0, .bool false, .int .i64 0, .int .i64 0, .int .i64 0, .int .i64 0]), 7, 56) := by kernel_rfl
theorem cpinfo_chart : (Try.prog.info? 27).map (·.size) = some 12 := by kernel_rfl

set_option maxRecDepth 100000 in
set_option maxHeartbeats 2000000 in
theorem copy_chart {w : World} {cs : Array Value} {x : Cht} (h : ChtV w (fun b => b < w.heap.size) cs x) (l1 : x.ps.length * 32 ≤ 140737488351232) (l2 : x.ms.length * 56 ≤ 140737488351232) :
    Calls Try.prog 5 #[.agg cs] w fun e w' => ∃ cs', e = .returned (.agg cs') ∧ ChtV w' (fun b => b < w'.heap.size) cs' x ∧ Below w.heap.size w w' := by
  obtain ⟨i1, hi1, hz1a, hz1b, hz1c⟩ := info_parts cpinfo_place
  obtain ⟨i2, hi2, hz2a, hz2b, hz2c⟩ := info_parts cpinfo_mark
  obtain ⟨a1, n1, c1, p1, lp⟩ := h.ps
  obtain ⟨a2, n2, c2, p2, lm⟩ := h.ms
  rw [lp.length] at l1
  rw [lm.length] at l2
  have hsz := h.size
  obtain ⟨u, eu⟩ : ∃ u, u = (w.alloc (.cells cs 27)).alloc (.cells #[.int .i64 0, .slice none 0 0, .int .i64 0, .int .i64 0, .int .i64 0, .int .i64 0, .int .i64 0, .string ⟨#[]⟩, .string ⟨#[]⟩, .int .i64 0, .int .i64 0, .slice none 0 0] 27) := ⟨_, rfl⟩
  have hb : Below w.heap.size w u := by rw [eu]; exact below_alloc (below_alloc (Below.refl _ _) _) _
  have hs : u.heap.size = w.heap.size + 2 := by rw [eu]; simp
  have r0 : u.heap[w.heap.size]? = some (.cells cs 27 (0, 0)) := by rw [eu]; exact heap_alloc2_old w _ _
  have r1 : u.heap[w.heap.size + 1]? = some (.cells #[.int .i64 0, .slice none 0 0, .int .i64 0, .int .i64 0, .int .i64 0, .int .i64 0, .int .i64 0, .string ⟨#[]⟩, .string ⟨#[]⟩, .int .i64 0, .int .i64 0, .slice none 0 0] 27 (0, 0)) := by rw [eu]; exact heap_alloc2_new w _ _
  have su : ∀ b, b < w.heap.size → b < w.heap.size ∧ u.heap[b]? = w.heap[b]? := fun b hl => ⟨hl, hb.block b hl⟩
  obtain ⟨a1', c1', w1, run1, b1, L1⟩ := copy_list (w := u) 22 Try.underlying22 hi1 hz1a hz1b hz1c (by rfl) (by omega) (lp.same su) (by omega) (by omega)
  have q0 : w1.heap[w.heap.size]? = some (.cells cs 27 (0, 0)) := (b1.block _ (by omega)).trans r0
  have q1 : w1.heap[w.heap.size + 1]? = some (.cells #[.int .i64 0, .slice none 0 0, .int .i64 0, .int .i64 0, .int .i64 0, .int .i64 0, .int .i64 0, .string ⟨#[]⟩, .string ⟨#[]⟩, .int .i64 0, .int .i64 0, .slice none 0 0] 27 (0, 0)) := (b1.block _ (by omega)).trans r1
  have x1 : u.cell? ⟨w.heap.size, 1, none⟩ = some (.slice a1 n1 c1) := by rw [cell_of_row _ _ _ _ _ _ r0]; exact p1
  have y1 : w1.cell? ⟨w.heap.size, 1, none⟩ = some (.slice a1 n1 c1) := by rw [cell_of_row _ _ _ _ _ _ q0]; exact p1
  have f1 : w1.frozen? ⟨w.heap.size, 1, none⟩ = false := frozen_of_row _ _ _ _ _ q0
  obtain ⟨w2, e2⟩ : ∃ w2, w2 = w1.setCell ⟨w.heap.size, 1, none⟩ (.slice a1' n1 c1') := ⟨_, rfl⟩
  have o2 : ∀ k, k ≠ w.heap.size → w2.heap[k]? = w1.heap[k]? := fun k hk => by rw [e2]; exact Below.heap_setCell _ ⟨w.heap.size, 1, none⟩ _ _ hk
  have s2 : w2.heap.size = w1.heap.size := by rw [e2]; simp [World.setCell]
  have t0 : w2.heap[w.heap.size]? = some (.cells (cs.setIfInBounds 1 (.slice a1' n1 c1')) 27 (0, 0)) := by rw [e2]; exact heap_setCell_same w1 w.heap.size 1 cs _ _ q0
  have t1 : w2.heap[w.heap.size + 1]? = some (.cells #[.int .i64 0, .slice none 0 0, .int .i64 0, .int .i64 0, .int .i64 0, .int .i64 0, .int .i64 0, .string ⟨#[]⟩, .string ⟨#[]⟩, .int .i64 0, .int .i64 0, .slice none 0 0] 27 (0, 0)) := (o2 _ (by omega)).trans q1
  have bw2 : ∀ k, k < w.heap.size → w2.heap[k]? = w.heap[k]? := fun k hk => (o2 k (by omega)).trans ((b1.block k (by omega)).trans (hb.block k hk))
  obtain ⟨a2', c2', w3, run2, b3, L2⟩ := copy_list (w := w2) 25 Try.underlying25 hi2 hz2a hz2b hz2c (by rfl) (by omega) (lm.same (w1 := w2) (P' := fun b => b < w.heap.size) fun b hl => ⟨hl, bw2 b hl⟩) (by omega) (by omega)
  have lt2 : w.heap.size + 2 ≤ w2.heap.size := by rw [s2, ← hs]; exact b1.size
  have t0' : w3.heap[w.heap.size]? = some (.cells (cs.setIfInBounds 1 (.slice a1' n1 c1')) 27 (0, 0)) := (b3.block _ (by omega)).trans t0
  have t1' : w3.heap[w.heap.size + 1]? = some (.cells #[.int .i64 0, .slice none 0 0, .int .i64 0, .int .i64 0, .int .i64 0, .int .i64 0, .int .i64 0, .string ⟨#[]⟩, .string ⟨#[]⟩, .int .i64 0, .int .i64 0, .slice none 0 0] 27 (0, 0)) := (b3.block _ (by omega)).trans t1
  have g11 : (cs.setIfInBounds 1 (.slice a1' n1 c1'))[11]? = some (.slice a2 n2 c2) := by rw [Array.getElem?_setIfInBounds_ne (by omega)]; exact p2
  have x2 : w2.cell? ⟨w.heap.size, 11, none⟩ = some (.slice a2 n2 c2) := by rw [cell_of_row _ _ _ _ _ _ t0]; exact g11
  have y2 : w3.cell? ⟨w.heap.size, 11, none⟩ = some (.slice a2 n2 c2) := by rw [cell_of_row _ _ _ _ _ _ t0']; exact g11
  have f2 : w3.frozen? ⟨w.heap.size, 11, none⟩ = false := frozen_of_row _ _ _ _ _ t0'
  obtain ⟨w4, e4⟩ : ∃ w4, w4 = w3.setCell ⟨w.heap.size, 11, none⟩ (.slice a2' n2 c2') := ⟨_, rfl⟩
  have o4 : ∀ k, k ≠ w.heap.size → w4.heap[k]? = w3.heap[k]? := fun k hk => by rw [e4]; exact Below.heap_setCell _ ⟨w.heap.size, 11, none⟩ _ _ hk
  have s4 : w4.heap.size = w3.heap.size := by rw [e4]; simp [World.setCell]
  obtain ⟨cs1, ec⟩ : ∃ cs1, cs1 = (cs.setIfInBounds 1 (.slice a1' n1 c1')).setIfInBounds 11 (.slice a2' n2 c2') := ⟨_, rfl⟩
  have v0 : w4.heap[w.heap.size]? = some (.cells cs1 27 (0, 0)) := by rw [e4, ec]; exact heap_setCell_same w3 w.heap.size 11 _ _ _ t0'
  have v1 : w4.heap[w.heap.size + 1]? = some (.cells #[.int .i64 0, .slice none 0 0, .int .i64 0, .int .i64 0, .int .i64 0, .int .i64 0, .int .i64 0, .string ⟨#[]⟩, .string ⟨#[]⟩, .int .i64 0, .int .i64 0, .slice none 0 0] 27 (0, 0)) := (o4 _ (by omega)).trans t1'
  have b34 := b3.size
  have bo : ∀ k, k ≠ w.heap.size → k < w2.heap.size → w4.heap[k]? = w2.heap[k]? := fun k hk hl => (o4 k hk).trans (b3.block k hl)
  have sz1 : cs1.size = 12 := by rw [ec, Array.size_setIfInBounds, Array.size_setIfInBounds]; exact hsz
  have gj : ∀ j, j ≠ 1 → j ≠ 11 → cs1[j]? = cs[j]? := fun j h1 h2 => by rw [ec, Array.getElem?_setIfInBounds_ne (fun e => h2 e.symm), Array.getElem?_setIfInBounds_ne (fun e => h1 e.symm)]
  have sv : ∀ b, b < w.heap.size → (b ≠ w.heap.size + 1 ∧ b < w4.heap.size) ∧ w4.heap[b]? = w.heap[b]? := fun b hl => ⟨⟨by omega, by omega⟩, (bo b (by omega) (by omega)).trans (bw2 b hl)⟩
  have vv : ChtV w4 (fun b => b ≠ w.heap.size + 1 ∧ b < w4.heap.size) cs1 x := by
    refine ⟨sz1, h.l0, h.l1, fun j y hy => ?_, ⟨a1', n1, c1', ?_, ?_⟩, fun j y hy => ?_, ⟨a2', n2, c2', ?_, ?_⟩⟩
    · obtain ⟨v, h1, h2⟩ := h.f0 j y hy
      have hj : j < 1 := by have := (List.getElem?_eq_some_iff.1 hy).1; have := h.l0; omega
      exact ⟨v, by rw [gj j (by omega) (by omega)]; exact h1, h2.same sv⟩
    · rw [ec, Array.getElem?_setIfInBounds_ne (by omega), Array.getElem?_setIfInBounds_self_of_lt (by omega)]
    · refine (L1 (fun b => b ≠ w.heap.size ∧ b ≠ w.heap.size + 1 ∧ b < w1.heap.size) (fun b hl => ⟨⟨by omega, by omega, by have := b1.size; omega⟩, by omega⟩) (fun k h1 h2 => ⟨by omega, by omega, h2⟩)).same (fun b hb2 => ⟨⟨hb2.2.1, by omega⟩, (bo b hb2.1 (by omega)).trans (o2 b hb2.1)⟩)
    · obtain ⟨v, h1, h2⟩ := h.f1 j y hy
      have hj : j < 9 := by have := (List.getElem?_eq_some_iff.1 hy).1; have := h.l1; omega
      exact ⟨v, by rw [gj (2 + j) (by omega) (by omega)]; exact h1, h2.same sv⟩
    · rw [ec, Array.getElem?_setIfInBounds_self_of_lt (by rw [Array.size_setIfInBounds]; omega)]
    · refine (L2 (fun b => b ≠ w.heap.size ∧ b ≠ w.heap.size + 1 ∧ b < w3.heap.size) (fun b hl => ⟨⟨by omega, by omega, by omega⟩, by omega⟩) (fun k h1 h2 => ⟨by omega, by omega, h2⟩)).same (fun b hb2 => ⟨⟨hb2.2.1, by omega⟩, o4 b hb2.1⟩)
  have INF : Hid ((Try.prog.info? 27).map (·.size) = some cs1.size) := by show _ = _; rw [sz1]; exact cpinfo_chart
  have SZC : Hid ((#[.int .i64 0, .slice none 0 0, .int .i64 0, .int .i64 0, .int .i64 0, .int .i64 0, .int .i64 0, .string ⟨#[]⟩, .string ⟨#[]⟩, .int .i64 0, .int .i64 0, .slice none 0 0] : Array Value).size = cs1.size) := sz1.symm
  have ONE := hide vv.one
  have P0 := hide v0
  have P1 := hide v1
  have FIN : Hid ((w4.setRow (w.heap.size + 1) cs1).heap[w.heap.size + 1]? = some (.cells cs1 27) ∧ ChtV (w4.setRow (w.heap.size + 1) cs1) (fun b => b < (w4.setRow (w.heap.size + 1) cs1).heap.size) cs1 x ∧ Below w.heap.size w (w4.setRow (w.heap.size + 1) cs1)) := by
    have hother : ∀ b, b ≠ w.heap.size + 1 → (w4.setRow (w.heap.size + 1) cs1).heap[b]? = w4.heap[b]? := fun b hb => by simp only [World.setRow, Array.getElem?_modify]; rw [if_neg (fun e => hb e.symm)]
    have eo : w4.os = w.os ∧ w4.tape = w.tape ∧ w4.output = w.output := ⟨by rw [e4]; exact b3.os.trans (by rw [e2]; exact b1.os.trans hb.os), by rw [e4]; exact b3.tape.trans (by rw [e2]; exact b1.tape.trans hb.tape), by rw [e4]; exact b3.output.trans (by rw [e2]; exact b1.output.trans hb.output)⟩
    exact ⟨setRow_heap w4 _ _ _ _ _ v1, vv.same fun b hl => ⟨by rw [size_setRow]; exact hl.2, hother b hl.1⟩, eo.1, eo.2.1, eo.2.2, by rw [size_setRow]; omega, fun k hk => (hother k (by omega)).trans (sv k hk).2⟩
  have EU := hide eu.symm
  have E2 := hide e2.symm
  have E4 := hide e4.symm
  clear h lp lm l1 l2 p1 p2 hb hs r0 r1 su b1 L1 q0 q1 o2 s2 t0 t1 bw2 b3 L2 lt2 t0' t1' g11 o4 s4 v0 v1 b34 bo sz1 gj sv vv eu e2 e4 ec
  go_enter Try.func5, Try.ntmps5
  go_upto_region 1 with fail
  rw [EU.out]
  clear EU
  go_upto_region 2 with (at_builtin; refine wp_append_run _ rfl (.const (.slice none 0 0)) (.tmp 4) 22 rfl _ _ run1 ?_)
  rw [E2.out]
  clear E2 run1 x1 y1 f1
  go_upto_region 3 with (at_builtin; refine wp_append_run _ rfl (.const (.slice none 0 0)) (.tmp 8) 25 rfl _ _ run2 ?_)
  rw [E4.out]
  clear E4 run2 x2 y2 f2
  go_wp2_with (first | (refine wpList_load_row rfl 27 (.tmp 1) rfl w.heap.size rfl 27 cs1 (0, 0) _ P0.out Try.underlying27 rfl INF.out ?_) | (refine wpList_store_row rfl 27 (.tmp 2) (.tmp 11) rfl (w.heap.size + 1) cs1 rfl rfl 27 #[.int .i64 0, .slice none 0 0, .int .i64 0, .int .i64 0, .int .i64 0, .int .i64 0, .int .i64 0, .string ⟨#[]⟩, .string ⟨#[]⟩, .int .i64 0, .int .i64 0, .slice none 0 0] P1.out INF.out SZC.out ONE.out ?_))
  refine bodyPost_ret (v := .agg cs1) ?r ?d ?_
  case r => exact results_cell_row rfl _ _ (w.heap.size + 1) 27 cs1 (0, 0) _ rfl FIN.out.1 Try.underlying27 rfl INF.out
  case d => rfl
  exact ⟨_, rfl, FIN.out.2.1, FIN.out.2.2⟩
end Go.Proofs.Ytjhcedgncdcpjaa
