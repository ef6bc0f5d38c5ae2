/- Lists appended to nil. No condition but the size. -/
import Derived.Test.YthklpkmdmkgjiaaGreatFWireLsMore
import Derived.Test.YthklpkmdmkgjiaaGreatJS
import Derived.Test.YthklpkmdmkgjiaaGreatJA
import Derived.Laws.AppendOwnNone
import Derived.Deep.Cut
namespace Go.Proofs.YthklpkmdmkgjiaaGreat
open Go.ChangeShapes Go.WideShapes Go.ChangeAt Go.RowKit B8 Cm Wm
set_option linter.unusedVariables false

theorem ls_of_cells {w w' : World} {B0 T d n cv : Nat} {av : Option Addr} {P P' : Nat → Prop} {cs : List Value} {xss : List (List Atom)} (h : w'.ownsRow B0 T d (.slice av n cv) n cs) (hl : xss.length = n) (hd : 0 < d) (hx : ∀ (i : Nat) (xs : List Atom), xss[i]? = some xs → xs.length = d) (hc : ∀ (i q : Nat) (xs : List Atom) (x : Atom), i < n → xss[i]? = some xs → xs[q]? = some x → ∃ v, cs[i * d + q]? = some v ∧ AtomV w P v x) (hP : ∀ b, P b → P' b ∧ w'.heap[b]? = w.heap[b]?) (hO : ∀ k, (Value.slice av n cv).ownBlock = some k → P' k) : Ls w' P' av n cv d xss := by
  rcases h.2 with ⟨e1, e2⟩ | ⟨g, cp, cur, e1, _, _, hjc, _⟩
  · obtain ⟨rfl, rfl, rfl⟩ : av = none ∧ n = 0 ∧ cv = 0 := by simpa using e1
    exact ⟨hl, Nat.le_refl _, fun _ => rfl, fun h0 => absurd h0 (by omega)⟩
  · obtain ⟨rfl, rfl⟩ : av = some ⟨g, 0, none⟩ ∧ cv = cp := by simpa using e1
    refine ⟨hl, hjc, (fun e => by cases e), fun _ => ⟨g, 0, rfl, hO g rfl, fun i xs hxs => ⟨hx i xs hxs, fun q y hy => ?_⟩⟩⟩
    obtain ⟨v, h1, h2⟩ := hc i q xs y (by rw [← hl]; exact (List.getElem?_eq_some_iff.1 hxs).1) hxs hy
    have := h.cells (g := g) rfl (i * d + q) v h1
    rw [Addr.add_mid, Nat.zero_add] at this
    exact ⟨v, by rw [Nat.zero_add]; exact this, h2.same hP⟩
theorem Ls.each {w : World} {P : Nat → Prop} {a : Option Addr} {n cp d : Nat} {xss : List (List Atom)} (h : Ls w P a n cp d xss) : ∀ (i : Nat) (xs : List Atom), xss[i]? = some xs → xs.length = d := fun i xs hx => by
  obtain ⟨b, off, _, _, hr⟩ := h.rows (by have := (List.getElem?_eq_some_iff.1 hx).1; have := h.length; omega)
  exact (hr i xs hx).1
/-- a list appended to nil, as a run -/
theorem copy_list {w : World} {P : Nat → Prop} {a : Option Addr} {n cp d T E bytes : Nat} {xss : List (List Atom)} {i0 : TypeInfo} {z : Value} (ty : TypeId) (hu : Tryz.prog.underlying T = some (.slice E)) (hi : Tryz.prog.info? E = some i0) (hz0 : i0.zero = some z) (hz1 : i0.size = d) (hz2 : i0.bytes = bytes) (hzc : z.cells.size = d) (hd : 0 < d) (h : Ls w P a n cp d xss) (hr : n * bytes ≤ 140737488355328) (hb : n ≤ 140737488355328) :
    ∃ a' cp' w1, (Builtin.append_ #[T, T] ty #[.slice none 0 0, .slice a n cp]).run Tryz.prog w = .ok (.slice a' n cp') w1 ∧ Below w.heap.size w w1 ∧ ∀ P' : Nat → Prop, (∀ b, P b → P' b ∧ b < w.heap.size) → (∀ k, w.heap.size ≤ k → k < w1.heap.size → P' k) → Ls w1 P' a' n cp' d xss := by
  obtain ⟨cs, e1, e2, e3, e4⟩ := h.cells hd n (Nat.le_refl _)
  cases a with
  | none =>
    have hcp := h.nil rfl
    have hn := h.lecap
    obtain rfl : cp = 0 := hcp
    obtain rfl : n = 0 := by omega
    refine ⟨none, 0, w, run_append_owned_none (P := Tryz.prog) w w.heap.size T ty E i0 d hu hi (.slice none 0 0) 0 [] (World.ownsRow_nil _ _ _ _), Below.refl _ _, fun P' hP _ => ?_⟩
    exact ⟨h.length, Nat.le_refl _, fun _ => rfl, fun h0 => absurd h0 (by omega)⟩
  | some ad =>
    have src : ∀ j u, cs[j]? = some u → w.cell? (ad.add j) = some u := fun j u hu => by
      obtain ⟨ad', e, hh⟩ := e3 (Nat.lt_of_le_of_lt (Nat.zero_le _) (List.getElem?_eq_some_iff.1 hu).1)
      obtain rfl := Option.some.inj e
      exact hh j u hu
    obtain ⟨v', w1, hrun, hown, hg, _⟩ := run_append_own (P := Tryz.prog) w w.heap.size T ty E i0 z d bytes hu hi hz0 hz1 hz2 hzc hd (.slice none 0 0) 0 [] (World.ownsRow_nil _ _ _ _) ad n cp cs e1 src e2 (by unfold maxLen; omega) (by rw [Nat.zero_add]; exact hr) (Nat.le_refl _)
    rw [Nat.zero_add, List.nil_append] at hown
    obtain ⟨a', cp', rfl⟩ : ∃ a' cp', v' = .slice a' n cp' := by
      obtain ⟨_, ⟨h5, h6⟩ | ⟨g, c, cur, h5, h6⟩⟩ := hown
      · exact ⟨none, 0, by rw [h5, h6]⟩
      · exact ⟨_, _, h5⟩
    have hb1 : Below w.heap.size w w1 := ⟨hg.os, hg.tape, hg.output, hg.size, fun k hk => hg.block k hk (by simp [Value.ownBlock])⟩
    exact ⟨a', cp', w1, hrun, hb1, fun P' hP hO => ls_of_cells hown h.length hd h.each e4 (fun b hb2 => ⟨(hP b hb2).1, hb1.block b (hP b hb2).2⟩) (fun k hk => hO k (hown.lt k hk).1 (hown.lt k hk).2)⟩
/-- append at an operation, by its run -/
theorem wp_append_run {ops : Array Oper} {rest : List Oper} {o : Oper} {act : Act} {Q : Exit → Act → World → Prop} (w : World) (hg : o.guard = none) (s x : Operand) (t : TypeId)
    (hop : o.op = Op.call { callee := Callee.builtin Builtin.append, args := #[s, x], argTypes := #[t, t] }) (v : Value) (w' : World) (hr : (Builtin.append_ #[t, t] o.type #[act.eval s, act.eval x]).run Tryz.prog w = .ok v w') (hK : wpList Tryz.prog ops Q rest (act.put o.dst v) w') : wpList Tryz.prog ops Q (o :: rest) act w := by
  refine wpList_plain hg fun K hK' => ?_
  unfold Oper.wp execOp
  simp only [hop, resolve, invoke, builtin, Sem.run_bind, Sem.run_pure, Result.andThen_ok, List.map_toArray, List.map_cons, List.map_nil, hr]
  exact hK' _ _ hK
/-- bytes appended to nil, as a run -/
theorem copy_bytes {w : World} {a : Option Addr} {n cp : Nat} {bs : List Int} (ty : TypeId) (q : Sq w a n cp bs) (hr : n ≤ 140737488355328) :
    ∃ a' cp' w1, (Builtin.append_ #[29, 29] ty #[.slice none 0 0, .slice a n cp]).run Tryz.prog w = .ok (.slice a' n cp') w1 ∧ Below w.heap.size w w1 ∧ Sq w1 a' n cp' bs ∧ ∀ b off, a' = some ⟨b, off, none⟩ → w.heap.size ≤ b ∧ b < w1.heap.size := by
  obtain ⟨i0, hi, hz0, hz1, hz2⟩ := info_parts B8.info
  cases a with
  | none =>
    obtain ⟨rfl, rfl⟩ := q.noAddr rfl
    exact ⟨none, 0, w, run_append_owned_none (P := Tryz.prog) w w.heap.size 29 ty 5 i0 1 Tryz.underlying29 hi (.slice none 0 0) 0 [] (World.ownsRow_nil _ _ _ _), Below.refl _ _, q, fun b off e => by cases e⟩
  | some ad =>
    obtain ⟨v', w1, hrun, hown, hg, _⟩ := run_append_own (P := Tryz.prog) w w.heap.size 29 ty 5 i0 (.int .u8 0) 1 1 Tryz.underlying29 hi hz0 hz1 hz2 rfl (by decide) (.slice none 0 0) 0 [] (World.ownsRow_nil _ _ _ _) ad n cp (vals bs) q.valsLength (q.news ad rfl) (vals_one _) (by unfold maxLen; omega) (by omega) (Nat.le_refl _)
    rw [Nat.zero_add, List.nil_append] at hown
    obtain ⟨a', cp', rfl, M⟩ := mine_of_row q.length q.wf hown
    have hb1 : Below w.heap.size w w1 := ⟨hg.os, hg.tape, hg.output, hg.size, fun k hk => hg.block k hk (by simp [Value.ownBlock])⟩
    refine ⟨a', cp', w1, hrun, hb1, M.sq, fun b off e => ?_⟩
    have := hown.lt b (by rw [e]; rfl)
    exact this
end Go.Proofs.YthklpkmdmkgjiaaGreat
