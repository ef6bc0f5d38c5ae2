/- Appending to a row of the call's own, under growslice's own bound: where the new row lies; as a step of a region that draws its order, and of one that does not. No condition. -/
import Derived.Test.YthfjndlmihepbaaBase
import Derived.Deep.DeepAppendWide
namespace Go.Proofs.Ythfjndlmihepbaa
open Go.ChangeShapes Go.WideShapes Go.ChangeAt Go.RowKit
set_option linter.unusedVariables false

theorem run_append_where {P : Program} (w : World) (base : Nat) (t ty e : TypeId) (i : TypeInfo) (z : Value) (size bytes : Nat) (ht : P.underlying t = some (.slice e)) (hi : P.info? e = some i) (hz : i.zero = some z)
    (hsize : i.size = size) (hby : i.bytes = bytes) (hzs : z.cells.size = size) (hsz : 0 < size)
    (a0 : Option Addr) (n c0 : Nat) (xs : List Value) (hown : w.ownsRow base e size (.slice a0 n c0) n xs)
    (a : Addr) (m c : Nat) (news : List Value) (hl : news.length = m * size) (hnews : ∀ j u, news[j]? = some u → w.cell? (a.add j) = some u) (h1 : ∀ u ∈ news, u.oneCell' = true) (hm : 0 < m)
    (h63 : n + m ≤ maxLen) (hbytes : ((n + m) + (n + m) / 4 + 192) * bytes ≤ 281474976710656) (hbase : base ≤ w.heap.size) :
    ∃ g cp w', (Builtin.append_ #[t, t] ty #[.slice a0 n c0, .slice (some a) m c]).run P w = .ok (.slice (some ⟨g, 0, none⟩) (n + m) cp) w' ∧ w'.ownsRow base e size (.slice (some ⟨g, 0, none⟩) (n + m) cp) (n + m) (xs ++ news) ∧ w.grownBy w' (Value.slice a0 n c0).ownBlock ∧ ((Value.slice a0 n c0).ownBlock = some g ∨ g = w.heap.size) := by
  obtain ⟨v', w', hr, ho, hg, _⟩ := run_append_own_wide (P := P) w base t ty e i z size bytes ht hi hz hsize hby hzs hsz _ n xs hown a m c news hl hnews h1 h63 hbytes hbase
  subst hsize
  subst hby
  have hsm : n + m ≤ 9223372036854775807 := by simp only [maxLen] at h63; omega
  have key : ∃ g cp, v' = .slice (some ⟨g, 0, none⟩) (n + m) cp ∧ ((Value.slice a0 n c0).ownBlock = some g ∨ g = w.heap.size) := by
    rcases hown.2 with ⟨e1, e2⟩ | ⟨g, cap, cur, e1, _, h3, h4, h5, h6, _⟩
    · obtain ⟨rfl, rfl, rfl⟩ : a0 = none ∧ n = 0 ∧ c0 = 0 := by simpa using e1
      have hr2 := run_append_nil (P := P) w t ty e i z ht hi hz a m c news hl hnews hm (by omega) (by have hb := hbytes; simp only [Nat.zero_add] at hb; exact Nat.le_trans (Nat.mul_le_mul_right _ (by omega)) hb)
      have he := hr.symm.trans hr2
      simp only [Result.ok.injEq] at he
      exact ⟨_, _, by rw [he.1, Nat.zero_add], .inr rfl⟩
    · obtain ⟨rfl, rfl⟩ : a0 = some ⟨g, 0, none⟩ ∧ c0 = cap := by simpa using e1
      by_cases hroom : n + m ≤ c0
      · have hr2 := run_append_room (P := P) w t ty e i ht hi g n c0 cur h3 a m c news hl hnews h1 hroom (by rw [hl, h6, ← Nat.add_mul]; exact Nat.mul_le_mul_right _ hroom)
        have he := hr.symm.trans hr2
        simp only [Result.ok.injEq] at he
        exact ⟨_, _, he.1, .inl rfl⟩
      · have hr2 := run_append_grow (P := P) w t ty e i z ht hi hz ⟨g, 0, none⟩ n c0 xs hown.1 (hown.cells (g := g) rfl) a m c news hl hnews (by omega) (by omega) (growslice_fits_wide (by omega) hbytes)
        have he := hr.symm.trans hr2
        simp only [Result.ok.injEq] at he
        exact ⟨_, _, he.1, .inr rfl⟩
  obtain ⟨g, cp, rfl, hk⟩ := key
  exact ⟨g, cp, w', hr, ho, hg, hk⟩

theorem step_append_where {P : Program} {ops : Array Oper} {o : Oper} {act : Act} {K : Act → World → Prop} {Q : Exit → Act → World → Prop} {E : Prop} (w : World) (hg : o.guard = none) (s x : Operand) (t : TypeId)
    (hop : o.op = Op.call { callee := Callee.builtin Builtin.append, args := #[s, x], argTypes := #[t, t] })
    (base : Nat) (e : TypeId) (i : TypeInfo) (z : Value) (size bytes : Nat) (ht : P.underlying t = some (.slice e)) (hi : P.info? e = some i) (hz : i.zero = some z)
    (hsize : i.size = size) (hby : i.bytes = bytes) (hzs : z.cells.size = size) (hsz : 0 < size)
    (a0 : Option Addr) (n c0 : Nat) (hs : act.eval s = .slice a0 n c0) (xs : List Value) (hown : w.ownsRow base e size (.slice a0 n c0) n xs)
    (a : Addr) (m c : Nat) (hx : act.eval x = .slice (some a) m c) (news : List Value) (hl : news.length = m * size) (hnews : ∀ j u, news[j]? = some u → w.cell? (a.add j) = some u) (h1 : ∀ u ∈ news, u.oneCell' = true) (hm : 0 < m)
    (h63 : n + m ≤ maxLen) (hbytes : ((n + m) + (n + m) / 4 + 192) * bytes ≤ 281474976710656) (hbase : base ≤ w.heap.size)
    (hK : ∀ g cp w', w'.ownsRow base e size (.slice (some ⟨g, 0, none⟩) (n + m) cp) (n + m) (xs ++ news) → w.grownBy w' (Value.slice a0 n c0).ownBlock → ((Value.slice a0 n c0).ownBlock = some g ∨ g = w.heap.size) → K (act.put o.dst (.slice (some ⟨g, 0, none⟩) (n + m) cp)) w') :
    if Region.wanted o (yielded ops act.tmps) = true then Oper.wp P o act w K Q else E := by
  have hw : Region.wanted o (yielded ops act.tmps) = true := by simp [Region.wanted, hg]
  rw [if_pos hw]
  obtain ⟨g, cp, w', hr, h2, h3, h4⟩ := run_append_where (P := P) w base t o.type e i z size bytes ht hi hz hsize hby hzs hsz a0 n c0 xs hown a m c news hl hnews h1 hm h63 hbytes hbase
  unfold Oper.wp execOp
  simp only [hop, resolve, invoke, builtin, Sem.run_bind, Sem.run_pure, Result.andThen_ok, List.map_toArray, List.map_cons, List.map_nil, hs, hx, hr]
  exact hK g cp w' h2 h3 h4
end Go.Proofs.Ythfjndlmihepbaa
