/- A list of packets in memory, and what the law folder's count answers of it. No condition but a size. -/
import Derived.Test.YtbgejpkkocedbaaNetSame
namespace Go.Proofs.Ytbgejpkkocedbaa
open Go.ChangeShapes Go.WideShapes Go.ChangeAt Go.RowKit B8 Nm
set_option linter.unusedVariables false

/-- the list of packets at a -/
structure Lst (w : World) (a : Option Addr) (m : Nat) (l : List Pv) : Prop where
  len : l.length = m
  cells : 0 < m → ∃ g, a = some ⟨g, 0, none⟩ ∧ g < w.heap.size ∧ ∀ k p, l[k]? = some p → w.cell? ⟨g, k * 3, none⟩ = some (.int .i64 p.f) ∧ w.cell? ⟨g, k * 3 + 1, none⟩ = some (.int .i64 p.t) ∧ w.cell? ⟨g, k * 3 + 2, none⟩ = some (.slice p.a p.n p.cp)
  ins : ∀ p ∈ l, p.Ok w
  short : ∀ p ∈ l, p.n ≤ 16384
theorem Lst.below {w w' : World} {a : Option Addr} {m : Nat} {l : List Pv} (h : Lst w a m l) (hb : Below w.heap.size w w') : Lst w' a m l :=
  ⟨h.len, fun h0 => by
    obtain ⟨g, e, hg, hc⟩ := h.cells h0
    have c : ∀ o, w'.cell? ⟨g, o, none⟩ = w.cell? ⟨g, o, none⟩ := fun o => World.cell?_of_block (a := ⟨g, o, none⟩) (hb.block g hg)
    exact ⟨g, e, Nat.lt_of_lt_of_le hg hb.size, fun k p hp => by rw [c, c, c]; exact hc k p hp⟩, fun p hp => (h.ins p hp).below hb, h.short⟩
theorem lst_of_row {w : World} {N m c : Nat} {a : Option Addr} {l : List Pv} (h : w.ownsRow N 39 3 (.slice a m c) m (pcells l)) (hi : ∀ p ∈ l, p.Ok w) (hs : ∀ p ∈ l, p.n ≤ 16384) : Lst w a m l := by
  have hl : l.length = m := by
    have := h.1
    rw [pcells_length] at this
    omega
  refine ⟨hl, fun h0 => ?_, hi, hs⟩
  obtain ⟨_, ⟨e1, e2⟩ | ⟨g, cp, cur, e1, _, e3, _⟩⟩ := id h
  · omega
  · obtain ⟨e4, e5⟩ : a = some ⟨g, 0, none⟩ ∧ c = cp := by simpa using e1
    rw [e4] at h
    refine ⟨g, e4, (Array.getElem?_eq_some_iff.1 e3).1, fun k p hp => ?_⟩
    have hk : k < l.length := (List.getElem?_eq_some_iff.1 hp).1
    have hc : ∀ j, j < 3 → w.cell? ⟨g, k * 3 + j, none⟩ = p.cells[j]? := fun j hj => by
      rw [h.cellAt (k * 3 + j) (by omega)]
      exact pcells_at _ _ _ hp j hj
    exact ⟨(hc 0 (by omega)).trans rfl, (hc 1 (by omega)).trans rfl, (hc 2 (by omega)).trans rfl⟩
/-- how often -/
def cntP (l : List Pv) (x : Pk) : Nat := l.countP fun q => decide (q.pk = x)
theorem cntP_snoc (l : List Pv) (q : Pv) (x : Pk) : cntP (l ++ [q]) x = cntP l x + if q.pk = x then 1 else 0 := by
  simp [cntP, List.countP_append]
theorem cntP_le (l : List Pv) (x : Pk) : cntP l x ≤ l.length := List.countP_le_length
set_option maxRecDepth 100000 in
set_option maxHeartbeats 1000000 in
theorem count_any {w : World} {a : Option Addr} {m c : Nat} {l : List Pv} (h : Lst w a m l) (hm : m ≤ 9000000000000) {p : Pv} (hp : p.Ok w) (hpn : p.n ≤ 16384) :
    Calls Try.prog 22 #[.slice a m c, .agg #[.int .i64 p.f, .int .i64 p.t, .slice p.a p.n p.cp]] w fun e w' => e = .returned (.int .i64 (cntP l p.pk)) ∧ Below w.heap.size w w' := by
  obtain ⟨u, eu⟩ : ∃ u, u = w.alloc (.cells #[.int .i64 p.f, .int .i64 p.t, .slice p.a p.n p.cp] 39) := ⟨_, rfl⟩
  have BU : Hid (Below w.heap.size w u) := by rw [eu]; exact below_alloc (Below.refl _ _) _
  have SU : Hid (u.heap.size = w.heap.size + 1) := by rw [eu]; show _ = _; simp
  have GU : Hid (u.heap[w.heap.size]? = some (.cells #[.int .i64 p.f, .int .i64 p.t, .slice p.a p.n p.cp] 39)) := by rw [eu]; exact heap_alloc_new w _
  have HL := hide (h.below BU.out)
  have HP := hide (hp.below BU.out)
  have EU := hide eu
  clear h hp eu
  go_enter Try.func22, Try.ntmps22
  go_wp2_with fail
  rw [← EU.out]
  clear EU
  go_loopw [5, 6] (fun t i wr => ∃ k : Nat, k ≤ m ∧ i = .int .i64 k ∧ t = .int .i64 (cntP (l.take k) p.pk) ∧ Hid (Below u.heap.size u wr)) (fun _ i _ => m - (intOf i).toNat)
  case atStart => exact ⟨0, Nat.zero_le _, rfl, rfl, Below.refl _ _⟩
  case round =>
    obtain ⟨k, hk, rfl, rfl, HB⟩ := hrel
    by_cases hlt : k < m
    · have hkl : k < l.length := by have := HL.out.len; omega
      obtain ⟨q, hq⟩ : ∃ q, l[k]? = some q := ⟨l[k], by simp [hkl]⟩
      have hqm : q ∈ l := List.mem_of_getElem? hq
      obtain ⟨g, rfl, hg, hc⟩ := HL.out.cells (by omega)
      obtain ⟨k0, k1, k2⟩ := hc k q hq
      have cg : ∀ o, wr.cell? ⟨g, o, none⟩ = u.cell? ⟨g, o, none⟩ := fun o => World.cell?_of_block (a := ⟨g, o, none⟩) (HB.out.block g hg)
      have gp := (HB.out.block w.heap.size (by rw [SU.out]; omega)).trans GU.out
      have c0 := (cg _).trans k0
      have c1 := (cg _).trans k1
      have c2 := (cg _).trans k2
      have p0 : wr.cell? ⟨w.heap.size, 0, none⟩ = some (.int .i64 p.f) := by rw [cell_of_row wr _ 0 _ _ _ gp]; rfl
      have p1 : wr.cell? ⟨w.heap.size, 1, none⟩ = some (.int .i64 p.t) := by rw [cell_of_row wr _ 1 _ _ _ gp]; rfl
      have p2 : wr.cell? ⟨w.heap.size, 2, none⟩ = some (.slice p.a p.n p.cp) := by rw [cell_of_row wr _ 2 _ _ _ gp]; rfl
      have QN := hide (HL.out.short q hqm)
      have QI := hide (HL.out.ins q hqm)
      have S : Hid (∀ y : World, Below u.heap.size u y → Calls Try.prog 15 #[.agg #[.int .i64 q.f, .int .i64 q.t, .slice q.a q.n q.cp], .agg #[.int .i64 p.f, .int .i64 p.t, .slice p.a p.n p.cp]] y fun e w' => e = .returned (.bool (decide (q.pk = p.pk))) ∧ Below y.heap.size y w') := fun y hy => packet_dec (QI.out.below hy).1 (HP.out.below hy).1 (by have := QN.out; omega)
      have TK : Hid (cntP (l.take (k + 1)) p.pk = cntP (l.take k) p.pk + if q.pk = p.pk then 1 else 0) := by
        show _ = _
        rw [List.take_succ_eq_append_getElem hkl, cntP_snoc, (List.getElem?_eq_some_iff.1 hq).2]
      have CL : Hid (cntP (l.take k) p.pk ≤ k) := Nat.le_trans (cntP_le _ _) (by simp; omega)
      have i1 : (k : Int) < (m : Int) := by omega
      have i2 : (0 : Int) ≤ (k : Int) := by omega
      clear k0 k1 k2 hc cg gp hq hqm hkl
      go_wp2_with fail
      refine wp_region_cells u [(⟨g, k * 3, none⟩, .int .i64 q.f), (⟨g, k * 3 + 1, none⟩, .int .i64 q.t), (⟨g, k * 3 + 2, none⟩, .slice q.a q.n q.cp), (⟨w.heap.size, 0, none⟩, .int .i64 p.f), (⟨w.heap.size, 1, none⟩, .int .i64 p.t), (⟨w.heap.size, 2, none⟩, .slice p.a p.n p.cp)] (by kernel_rfl) (by kernel_rfl) HB.out (by simp [AllCells, c0, c1, c2, p0, p1, p2]) ?_
      intro hne qq
      simp only [AllCells, and_true] at qq
      clear c0 c1 c2 p0 p1 p2
      repeat (go_big_quiet_step (first | (go_at_call 15; exact Held.call _ (S.out _ (Held.below _)))))
      refine wpQuiet_nil ?_
      rintro _ ⟨y, rfl⟩
      have BQ : Hid (Below u.heap.size u y.x) := y.below
      clear qq hne S
      by_cases hx : q.pk = p.pk
      · rw [decide_eq_true hx]
        rw [if_pos hx] at TK
        have x1 : IntKind.i64.wrap ((cntP (l.take k) p.pk : Int) + 1) = (cntP (l.take (k + 1)) p.pk : Int) := by rw [IntKind.wrap_i64, TK.out]; have := CL.out; omega
        clear hx
        go_wp2_with fail
        go_roundw
        case rel => exact ⟨k + 1, by omega, by go_num, rfl, BQ⟩
        case measure => simp [intOf]; omega
      · rw [decide_eq_false hx]
        rw [if_neg hx] at TK
        clear hx
        go_wp2_with fail
        go_roundw
        case rel => exact ⟨k + 1, by omega, by go_num, by rw [TK.out]; rfl, BQ⟩
        case measure => simp [intOf]; omega
    · obtain rfl : k = m := by omega
      go_wp2_with fail
      go_ret
      refine ⟨by rw [show l.take k = l from List.take_of_length_le (by have := HL.out.len; omega)]; rfl, BU.out.trans (HB.out.mono BU.out.size)⟩
end Go.Proofs.Ytbgejpkkocedbaa
