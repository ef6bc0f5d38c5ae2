/- The law folder's CopyState. No condition but the size. -/
import Derived.Test.YthklpkmdmkgjiaaGreatFWireCopyAcc
import Derived.Test.YthklpkmdmkgjiaaGreatFWireStateVal
import Derived.Deep.Cut
namespace Go.Proofs.YthklpkmdmkgjiaaGreat
open Go.ChangeShapes Go.WideShapes Go.ChangeAt Go.RowKit B8 Cm Wm
set_option linter.unusedVariables false

/-- another list, or other bytes, in a state's cell that read alike -/
theorem StaV.put {w : World} {P : Nat → Prop} {cs : Array Value} {x : Sta} (h : StaV w P cs x) (q : Nat) (v : Value) (hc : (q = 6 ∧ ∃ a n cp, v = .slice a n cp ∧ La w P a n cp x.acs) ∨ (q = 7 ∧ ∃ a n cp, v = .slice a n cp ∧ Ls w P a n cp 7 x.ms) ∨ (q = 8 ∧ ∃ a n cp, v = .slice a n cp ∧ Ls w P a n cp 11 x.ws) ∨ (q = 9 ∧ ∃ a n cp, v = .slice a n cp ∧ Ls w P a n cp 8 x.ds) ∨ (q = 10 ∧ ∃ a n cp, v = .slice a n cp ∧ Ls w P a n cp 2 x.es) ∨ (q = 25 ∧ ∀ y, x.x1[14]? = some y → AtomV w P v y)) : StaV w P (cs.setIfInBounds q v) x := by
  have hs := h.size
  have hq : 6 ≤ q ∧ (q ≤ 10 ∨ q = 25) := by rcases hc with ⟨e, _⟩ | ⟨e, _⟩ | ⟨e, _⟩ | ⟨e, _⟩ | ⟨e, _⟩ | ⟨e, _⟩ <;> omega
  have gj : ∀ j, j ≠ q → (cs.setIfInBounds q v)[j]? = cs[j]? := fun j h1 => by rw [Array.getElem?_setIfInBounds_ne (fun e => h1 e.symm)]
  have gq : (cs.setIfInBounds q v)[q]? = some v := Array.getElem?_setIfInBounds_self_of_lt (by omega)
  refine ⟨by rw [Array.size_setIfInBounds]; exact hs, h.hk, ⟨fun j y hy => ?_, ?_, ?_, ?_, ?_, ?_, fun j y hy => ?_⟩⟩
  · obtain ⟨u, h1, h2⟩ := h.c.f0 j y hy
    have hj : j < 6 := by rw [← h.hk.l0]; exact (List.getElem?_eq_some_iff.1 hy).1
    exact ⟨u, (gj j (by omega)).trans h1, h2⟩
  · by_cases e : q = 6
    · rcases hc with ⟨_, a, n, cp, ev, hl⟩ | ⟨e2, _⟩ | ⟨e2, _⟩ | ⟨e2, _⟩ | ⟨e2, _⟩ | ⟨e2, _⟩
      · exact ⟨a, n, cp, by show (cs.setIfInBounds q v)[6]? = _; have g5 := gq; rw [e] at g5; rw [e, g5, ev], hl⟩
      · omega
      · omega
      · omega
      · omega
      · omega
    · obtain ⟨a, n, cp, p, l⟩ := h.c.acs
      exact ⟨a, n, cp, (gj 6 (fun e2 => e e2.symm)).trans p, l⟩
  · by_cases e : q = 7
    · rcases hc with ⟨e2, _⟩ | ⟨_, a, n, cp, ev, hl⟩ | ⟨e2, _⟩ | ⟨e2, _⟩ | ⟨e2, _⟩ | ⟨e2, _⟩
      · omega
      · exact ⟨a, n, cp, by show (cs.setIfInBounds q v)[7]? = _; have g5 := gq; rw [e] at g5; rw [e, g5, ev], hl⟩
      · omega
      · omega
      · omega
      · omega
    · obtain ⟨a, n, cp, p, l⟩ := h.c.ms
      exact ⟨a, n, cp, (gj 7 (fun e2 => e e2.symm)).trans p, l⟩
  · by_cases e : q = 8
    · rcases hc with ⟨e2, _⟩ | ⟨e2, _⟩ | ⟨_, a, n, cp, ev, hl⟩ | ⟨e2, _⟩ | ⟨e2, _⟩ | ⟨e2, _⟩
      · omega
      · omega
      · exact ⟨a, n, cp, by show (cs.setIfInBounds q v)[8]? = _; have g5 := gq; rw [e] at g5; rw [e, g5, ev], hl⟩
      · omega
      · omega
      · omega
    · obtain ⟨a, n, cp, p, l⟩ := h.c.ws
      exact ⟨a, n, cp, (gj 8 (fun e2 => e e2.symm)).trans p, l⟩
  · by_cases e : q = 9
    · rcases hc with ⟨e2, _⟩ | ⟨e2, _⟩ | ⟨e2, _⟩ | ⟨_, a, n, cp, ev, hl⟩ | ⟨e2, _⟩ | ⟨e2, _⟩
      · omega
      · omega
      · omega
      · exact ⟨a, n, cp, by show (cs.setIfInBounds q v)[9]? = _; have g5 := gq; rw [e] at g5; rw [e, g5, ev], hl⟩
      · omega
      · omega
    · obtain ⟨a, n, cp, p, l⟩ := h.c.ds
      exact ⟨a, n, cp, (gj 9 (fun e2 => e e2.symm)).trans p, l⟩
  · by_cases e : q = 10
    · rcases hc with ⟨e2, _⟩ | ⟨e2, _⟩ | ⟨e2, _⟩ | ⟨e2, _⟩ | ⟨_, a, n, cp, ev, hl⟩ | ⟨e2, _⟩
      · omega
      · omega
      · omega
      · omega
      · exact ⟨a, n, cp, by show (cs.setIfInBounds q v)[10]? = _; have g5 := gq; rw [e] at g5; rw [e, g5, ev], hl⟩
      · omega
    · obtain ⟨a, n, cp, p, l⟩ := h.c.es
      exact ⟨a, n, cp, (gj 10 (fun e2 => e e2.symm)).trans p, l⟩
  · by_cases e : q = 11 + j
    · rcases hc with ⟨e2, _⟩ | ⟨e2, _⟩ | ⟨e2, _⟩ | ⟨e2, _⟩ | ⟨e2, _⟩ | ⟨e2, hy2⟩
      · omega
      · omega
      · omega
      · omega
      · omega
      · obtain rfl : j = 14 := by omega
        exact ⟨v, by show (cs.setIfInBounds q v)[25]? = _; have g5 := gq; rw [e2] at g5; rw [e2]; exact g5, hy2 y hy⟩
    · obtain ⟨u, h1, h2⟩ := h.c.f1 j y hy
      exact ⟨u, (gj (11 + j) (fun e2 => e e2.symm)).trans h1, h2⟩

def Pc (w : World) (u : World) (b : Nat) : Prop := (b < w.heap.size ∨ w.heap.size + 2 ≤ b) ∧ b < u.heap.size
/-- the copy under way -/
structure Cs (w : World) (x : Sta) (u : World) (cs : Array Value) : Prop where
  r0 : u.heap[w.heap.size]? = some (.cells cs 31 (0, 0))
  r1 : u.heap[w.heap.size + 1]? = some (.cells #[.int .i64 0, .int .i64 0, .bool false, .string ⟨#[]⟩, .string ⟨#[]⟩, .int .i64 0, .slice none 0 0, .slice none 0 0, .slice none 0 0, .slice none 0 0, .slice none 0 0, .int .i64 0, .int .i64 0, .int .i64 0, .string ⟨#[]⟩, .string ⟨#[]⟩, .int .i64 0, .int .i64 0, .int .i64 0, .int .i64 0, .int .i64 0, .string ⟨#[]⟩, .string ⟨#[]⟩, .int .i64 0, .int .i64 0, .slice none 0 0, .int .i64 0, .int .i64 0, .int .i64 0] 31 (0, 0))
  v : StaV u (Pc w u) cs x
  b : Below w.heap.size w u
  s : w.heap.size + 2 ≤ u.heap.size
section
variable {w u w1 : World} {x : Sta} {cs : Array Value} {q : Nat} {nv ov : Value}
theorem Cs.moved (h : Cs w x u cs) (b1 : Below u.heap.size u w1) : StaV w1 (Pc w w1) cs x := h.v.same fun b hb => ⟨⟨hb.1, Nat.lt_of_lt_of_le hb.2 b1.size⟩, b1.block b hb.2⟩
theorem Cs.put (h : Cs w x u cs) (b1 : Below u.heap.size u w1) (hv : StaV w1 (Pc w w1) (cs.setIfInBounds q nv) x) : Cs w x (w1.setCell ⟨w.heap.size, q, none⟩ nv) (cs.setIfInBounds q nv) := by
  have s := h.s
  have b1s := b1.size
  have sz : (w1.setCell ⟨w.heap.size, q, none⟩ nv).heap.size = w1.heap.size := by simp [World.setCell]
  have ot : ∀ k, k ≠ w.heap.size → (w1.setCell ⟨w.heap.size, q, none⟩ nv).heap[k]? = w1.heap[k]? := fun k hk => Below.heap_setCell _ ⟨w.heap.size, q, none⟩ _ _ hk
  refine ⟨heap_setCell_same w1 w.heap.size q cs _ _ ((b1.block _ (by omega)).trans h.r0), (ot _ (by omega)).trans ((b1.block _ (by omega)).trans h.r1), hv.same fun b hb => ⟨⟨hb.1, by rw [sz]; exact hb.2⟩, ot b (by have := hb.1; omega)⟩, (h.b.trans (b1.mono h.b.size)).setCell (Nat.le_refl _) _, by omega⟩
theorem Cs.cell (h : Cs w x u cs) (hq : cs[q]? = some ov) : u.cell? ⟨w.heap.size, q, none⟩ = some ov := by rw [cell_of_row _ _ _ _ _ _ h.r0]; exact hq
theorem Cs.cell1 (h : Cs w x u cs) (b1 : Below u.heap.size u w1) (hq : cs[q]? = some ov) : w1.cell? ⟨w.heap.size, q, none⟩ = some ov ∧ w1.frozen? ⟨w.heap.size, q, none⟩ = false := by
  have s := h.s
  have r : w1.heap[w.heap.size]? = some (.cells cs 31 (0, 0)) := (b1.block _ (by omega)).trans h.r0
  exact ⟨by rw [cell_of_row _ _ _ _ _ _ r]; exact hq, frozen_of_row _ _ _ _ _ r⟩
end
/-- a list of the copy's own -/
theorem Cs.list {w u : World} {x : Sta} {cs : Array Value} {q d T E bytes n c : Nat} {a : Option Addr} {xss : List (List Atom)} {i0 : TypeInfo} {z : Value} (h : Cs w x u cs) (ty : TypeId) (hu : Tryz.prog.underlying T = some (.slice E)) (hi : Tryz.prog.info? E = some i0) (hz0 : i0.zero = some z) (hz1 : i0.size = d) (hz2 : i0.bytes = bytes) (hzc : z.cells.size = d) (hd : 0 < d) (hq : cs[q]? = some (.slice a n c)) (hl : Ls u (Pc w u) a n c d xss) (hr : n * bytes ≤ 140737488355328) (hb : n ≤ 140737488355328)
    (put : ∀ w1 a' c', Ls w1 (Pc w w1) a' n c' d xss → StaV w1 (Pc w w1) cs x → StaV w1 (Pc w w1) (cs.setIfInBounds q (.slice a' n c')) x) :
    ∃ a' c' w1 u', (Builtin.append_ #[T, T] ty #[.slice none 0 0, .slice a n c]).run Tryz.prog u = .ok (.slice a' n c') w1 ∧ u' = w1.setCell ⟨w.heap.size, q, none⟩ (.slice a' n c') ∧ u.cell? ⟨w.heap.size, q, none⟩ = some (.slice a n c) ∧ w1.cell? ⟨w.heap.size, q, none⟩ = some (.slice a n c) ∧ w1.frozen? ⟨w.heap.size, q, none⟩ = false ∧ Cs w x u' (cs.setIfInBounds q (.slice a' n c')) := by
  obtain ⟨a', c', w1, run1, b1, L1⟩ := copy_list (w := u) ty hu hi hz0 hz1 hz2 hzc hd hl hr hb
  have s := h.s
  have b1s := b1.size
  have l1 := L1 (Pc w w1) (fun b hb => ⟨⟨hb.1, Nat.lt_of_lt_of_le hb.2 b1s⟩, hb.2⟩) (fun k h1 h2 => ⟨.inr (by omega), h2⟩)
  exact ⟨a', c', w1, _, run1, rfl, h.cell hq, (h.cell1 b1 hq).1, (h.cell1 b1 hq).2, h.put b1 (put w1 a' c' l1 (h.moved b1))⟩
theorem cpinfo_mark : (Tryz.prog.info? 66).map (fun i => (i.zero, i.size, i.bytes)) = some (some (.agg #[.int .i64 0, .int .i64 0, .bool false, .int .i64 0, .int .i64 0, .int .i64 0, .int .i64 0]), 7, 56) := by kernel_rfl
theorem cpinfo_wait : (Tryz.prog.info? 69).map (fun i => (i.zero, i.size, i.bytes)) = some (some (.agg #[.int .i64 0, .int .i64 0, .int .i64 0, .int .i64 0, .int .i64 0, .int .i64 0, .string ⟨#[]⟩, .string ⟨#[]⟩, .int .i64 0, .int .i64 0, .int .i64 0]), 11, 104) := by kernel_rfl
theorem cpinfo_deal : (Tryz.prog.info? 72).map (fun i => (i.zero, i.size, i.bytes)) = some (some (.agg #[.int .i64 0, .int .i64 0, .string ⟨#[]⟩, .string ⟨#[]⟩, .int .i64 0, .int .i64 0, .int .i64 0, .int .i64 0]), 8, 80) := by kernel_rfl
theorem cpinfo_end : (Tryz.prog.info? 75).map (fun i => (i.zero, i.size, i.bytes)) = some (some (.agg #[.int .i64 0, .int .i64 0]), 2, 16) := by kernel_rfl
theorem cpinfo_state : (Tryz.prog.info? 31).map (·.size) = some 29 := by kernel_rfl

set_option maxRecDepth 100000 in
set_option maxHeartbeats 4000000 in
theorem copy_state {w : World} {cs : Array Value} {x : Sta} (h : StaV w (fun b => b < w.heap.size) cs x) (lA : x.acs.length * 104 ≤ 140737488351232) (lH : ∀ a ∈ x.acs, a.hs.length * 32 ≤ 140737488351232) (l7 : x.ms.length * 56 ≤ 140737488351232) (l8 : x.ws.length * 104 ≤ 140737488351232) (l9 : x.ds.length * 80 ≤ 140737488351232) (l10 : x.es.length * 16 ≤ 140737488351232) :
    Calls Tryz.prog 5 #[.agg cs] w fun e w' => ∃ cs', e = .returned (.agg cs') ∧ StaV w' (fun b => b < w'.heap.size) cs' x ∧ Below w.heap.size w w' := by
  obtain ⟨i7, hi7, hz7a, hz7b, hz7c⟩ := info_parts cpinfo_mark
  obtain ⟨i8, hi8, hz8a, hz8b, hz8c⟩ := info_parts cpinfo_wait
  obtain ⟨i9, hi9, hz9a, hz9b, hz9c⟩ := info_parts cpinfo_deal
  obtain ⟨i10, hi10, hz10a, hz10b, hz10c⟩ := info_parts cpinfo_end
  have hsz : cs.size = 29 := h.size
  obtain ⟨u, eu⟩ : ∃ u, u = (w.alloc (.cells cs 31)).alloc (.cells #[.int .i64 0, .int .i64 0, .bool false, .string ⟨#[]⟩, .string ⟨#[]⟩, .int .i64 0, .slice none 0 0, .slice none 0 0, .slice none 0 0, .slice none 0 0, .slice none 0 0, .int .i64 0, .int .i64 0, .int .i64 0, .string ⟨#[]⟩, .string ⟨#[]⟩, .int .i64 0, .int .i64 0, .int .i64 0, .int .i64 0, .int .i64 0, .string ⟨#[]⟩, .string ⟨#[]⟩, .int .i64 0, .int .i64 0, .slice none 0 0, .int .i64 0, .int .i64 0, .int .i64 0] 31) := ⟨_, rfl⟩
  have C0 : Cs w x u cs := by
    have hb : Below w.heap.size w u := by rw [eu]; exact below_alloc (below_alloc (Below.refl _ _) _) _
    have hs : u.heap.size = w.heap.size + 2 := by rw [eu]; simp
    exact ⟨by rw [eu]; exact heap_alloc2_old w _ _, by rw [eu]; exact heap_alloc2_new w _ _, h.same fun b hl => ⟨⟨.inl hl, by omega⟩, hb.block b hl⟩, hb, by omega⟩
  obtain ⟨a6, n6, c6, p6, l6⟩ := C0.v.c.acs
  have p6 : cs[6]? = some (.slice a6 n6 c6) := p6
  have hk := h.hk
  have m6 := l6.length
  have CA := hide (copy_accounts l6 hk.ka (fun b hb => hb.2) (by omega) lH)
  have x6 := C0.cell p6
  have HC0 := hide C0
  have HK := hide hk
  have EU := hide eu.symm
  have P6 := hide p6
  have LL : Hid (x.ms.length * 56 ≤ 140737488351232 ∧ x.ws.length * 104 ≤ 140737488351232 ∧ x.ds.length * 80 ≤ 140737488351232 ∧ x.es.length * 16 ≤ 140737488351232) := ⟨l7, l8, l9, l10⟩
  clear C0 hk eu p6 l6 h lA lH l7 l8 l9 l10 m6
  go_enter Tryz.func5, Tryz.ntmps5
  go_upto_region 1 with fail
  rw [EU.out]
  clear EU
  go_wp2_with fail
  refine CA.out.mono ?_
  rintro e w1 ⟨a6', c6', rfl, hl6, b1⟩
  obtain ⟨l7, l8, l9, l10⟩ := LL.out
  have s0 := HC0.out.s
  have C1 := HC0.out.put b1 (StaV.put (HC0.out.moved b1) 6 (.slice a6' n6 c6') (.inl ⟨rfl, _, _, _, rfl, hl6.same HK.out.ka fun b hb => ⟨⟨by rcases hb.1 with h5 | h5; exact h5.1; exact .inr (by omega), hb.2⟩, rfl⟩⟩))
  have y6 := (HC0.out.cell1 b1 P6.out).1
  have f6 := (HC0.out.cell1 b1 P6.out).2
  obtain ⟨cs6, ec6⟩ : ∃ c, c = cs.setIfInBounds 6 (.slice a6' n6 c6') := ⟨_, rfl⟩
  obtain ⟨u6, e6⟩ : ∃ v, v = w1.setCell ⟨w.heap.size, 6, none⟩ (.slice a6' n6 c6') := ⟨_, rfl⟩
  rw [← ec6, ← e6] at C1
  have E6 := hide e6.symm
  clear hl6 b1 CA ec6 e6
  obtain ⟨a7, n7, c7, p7, k7⟩ := C1.v.c.ms
  have p7 : cs6[7]? = some (.slice a7 n7 c7) := p7
  have m7 := k7.length
  obtain ⟨a7', c7', w7, u7, run7, e7, x7, y7, f7, C7⟩ := C1.list 23 Tryz.underlying23 hi7 hz7a hz7b hz7c (by rfl) (by omega) p7 k7 (by omega) (by omega) (fun w1 a' c' hl hv => StaV.put hv 7 _ (.inr (.inl ⟨rfl, _, _, _, rfl, hl⟩)))
  obtain ⟨cs7, ec7⟩ : ∃ c, c = cs6.setIfInBounds 7 (.slice a7' n7 c7') := ⟨_, rfl⟩
  rw [← ec7] at C7
  have E7 := hide e7.symm
  clear p7 k7 m7 C1 ec7 e7
  obtain ⟨a8, n8, c8, p8, k8⟩ := C7.v.c.ws
  have p8 : cs7[8]? = some (.slice a8 n8 c8) := p8
  have m8 := k8.length
  obtain ⟨a8', c8', w8, u8, run8, e8, x8, y8, f8, C8⟩ := C7.list 24 Tryz.underlying24 hi8 hz8a hz8b hz8c (by rfl) (by omega) p8 k8 (by omega) (by omega) (fun w1 a' c' hl hv => StaV.put hv 8 _ (.inr (.inr (.inl ⟨rfl, _, _, _, rfl, hl⟩))))
  obtain ⟨cs8, ec8⟩ : ∃ c, c = cs7.setIfInBounds 8 (.slice a8' n8 c8') := ⟨_, rfl⟩
  rw [← ec8] at C8
  have E8 := hide e8.symm
  clear p8 k8 m8 C7 ec8 e8
  obtain ⟨a9, n9, c9, p9, k9⟩ := C8.v.c.ds
  have p9 : cs8[9]? = some (.slice a9 n9 c9) := p9
  have m9 := k9.length
  obtain ⟨a9', c9', w9, u9, run9, e9, x9, y9, f9, C9⟩ := C8.list 25 Tryz.underlying25 hi9 hz9a hz9b hz9c (by rfl) (by omega) p9 k9 (by omega) (by omega) (fun w1 a' c' hl hv => StaV.put hv 9 _ (.inr (.inr (.inr (.inl ⟨rfl, _, _, _, rfl, hl⟩)))))
  obtain ⟨cs9, ec9⟩ : ∃ c, c = cs8.setIfInBounds 9 (.slice a9' n9 c9') := ⟨_, rfl⟩
  rw [← ec9] at C9
  have E9 := hide e9.symm
  clear p9 k9 m9 C8 ec9 e9
  obtain ⟨a10, n10, c10, p10, k10⟩ := C9.v.c.es
  have p10 : cs9[10]? = some (.slice a10 n10 c10) := p10
  have m10 := k10.length
  obtain ⟨a10', c10', w10, u10, run10, e10, x10, y10, f10, C10⟩ := C9.list 26 Tryz.underlying26 hi10 hz10a hz10b hz10c (by rfl) (by omega) p10 k10 (by omega) (by omega) (fun w1 a' c' hl hv => StaV.put hv 10 _ (.inr (.inr (.inr (.inr (.inl ⟨rfl, _, _, _, rfl, hl⟩))))))
  obtain ⟨cs10, ec10⟩ : ∃ c, c = cs9.setIfInBounds 10 (.slice a10' n10 c10') := ⟨_, rfl⟩
  rw [← ec10] at C10
  have E10 := hide e10.symm
  clear p10 k10 m10 C9 ec10 e10
  obtain ⟨y14, hy14⟩ : ∃ y, x.x1[14]? = some y := ⟨_, List.getElem?_eq_getElem (by rw [HK.out.l1]; omega)⟩
  have k14 : y14.k = 4 := by
    have := congrArg (fun l => l[14]?) HK.out.k1
    simp only [List.getElem?_map, hy14] at this
    simpa using this
  obtain ⟨v25, p25, av⟩ := C10.v.c.f1 14 y14 hy14
  have p25 : cs10[25]? = some v25 := p25
  obtain ⟨a25, n25, c25, rfl, sq, hn25, hp25⟩ : ∃ a n cp, v25 = .slice a n cp ∧ Sq u10 a n cp y14.bs ∧ n ≤ 140737488351232 ∧ ∀ b off, a = some ⟨b, off, none⟩ → 0 < n → Pc w u10 b := by
    rcases av with ⟨e, _⟩ | ⟨e, _⟩ | ⟨e, _⟩ | ⟨e, _⟩ | ⟨_, g⟩
    · rw [k14] at e; omega
    · rw [k14] at e; omega
    · rw [k14] at e; omega
    · rw [k14] at e; omega
    · exact g
  obtain ⟨a25', c25', w25, run25, b25, sq25, new25⟩ := copy_bytes 29 sq (by omega)
  have s25 := C10.s
  have C25 := C10.put b25 (StaV.put (C10.moved b25) 25 (.slice a25' n25 c25') (.inr (.inr (.inr (.inr (.inr ⟨rfl, fun y hy => by
    rw [hy14] at hy
    obtain rfl := Option.some.inj hy
    exact .inr (.inr (.inr (.inr ⟨k14, a25', n25, c25', rfl, sq25, hn25, fun b off e _ => ⟨.inr (by have := (new25 b off e).1; omega), (new25 b off e).2⟩⟩)))⟩))))))
  have x25 := C10.cell p25
  have y25 := (C10.cell1 b25 p25).1
  have f25 := (C10.cell1 b25 p25).2
  obtain ⟨cs25, ec25⟩ : ∃ c, c = cs10.setIfInBounds 25 (.slice a25' n25 c25') := ⟨_, rfl⟩
  obtain ⟨u25, e25⟩ : ∃ v, v = w25.setCell ⟨w.heap.size, 25, none⟩ (.slice a25' n25 c25') := ⟨_, rfl⟩
  rw [← ec25, ← e25] at C25
  have E25 := hide e25.symm
  have sz1 : cs25.size = 29 := C25.v.size
  have INF : Hid ((Tryz.prog.info? 31).map (·.size) = some cs25.size) := by show _ = _; rw [sz1]; exact cpinfo_state
  have SZC : Hid ((#[.int .i64 0, .int .i64 0, .bool false, .string ⟨#[]⟩, .string ⟨#[]⟩, .int .i64 0, .slice none 0 0, .slice none 0 0, .slice none 0 0, .slice none 0 0, .slice none 0 0, .int .i64 0, .int .i64 0, .int .i64 0, .string ⟨#[]⟩, .string ⟨#[]⟩, .int .i64 0, .int .i64 0, .int .i64 0, .int .i64 0, .int .i64 0, .string ⟨#[]⟩, .string ⟨#[]⟩, .int .i64 0, .int .i64 0, .slice none 0 0, .int .i64 0, .int .i64 0, .int .i64 0] : Array Value).size = cs25.size) := sz1.symm
  have ONE := hide C25.v.one
  have P0 := hide C25.r0
  have P1 := hide C25.r1
  have FIN : Hid ((u25.setRow (w.heap.size + 1) cs25).heap[w.heap.size + 1]? = some (.cells cs25 31) ∧ StaV (u25.setRow (w.heap.size + 1) cs25) (fun b => b < (u25.setRow (w.heap.size + 1) cs25).heap.size) cs25 x ∧ Below w.heap.size w (u25.setRow (w.heap.size + 1) cs25)) := by
    have hother : ∀ b, b ≠ w.heap.size + 1 → (u25.setRow (w.heap.size + 1) cs25).heap[b]? = u25.heap[b]? := fun b hb => by simp only [World.setRow, Array.getElem?_modify]; rw [if_neg (fun e => hb e.symm)]
    exact ⟨setRow_heap u25 _ _ _ _ _ C25.r1, C25.v.same fun b hl => ⟨by rw [size_setRow]; exact hl.2, hother b (by have := hl.1; omega)⟩, C25.b.os, C25.b.tape, C25.b.output, by rw [size_setRow]; exact C25.b.size, fun k hk => (hother k (by omega)).trans (C25.b.block k hk)⟩
  clear HC0 HK P6 LL l7 l8 l9 l10 s0 hy14 k14 p25 av sq hn25 hp25 b25 sq25 new25 s25 C25 C10 ec25 e25 sz1 hsz
  go_upto_region 2 with fail
  rw [E6.out]
  clear E6 x6 y6 f6
  go_upto_region 3 with (at_builtin; refine wp_append_run _ rfl (.const (.slice none 0 0)) (.tmp 8) 23 rfl _ _ run7 ?_)
  rw [E7.out]
  clear E7 run7 x7 y7 f7
  go_upto_region 4 with (at_builtin; refine wp_append_run _ rfl (.const (.slice none 0 0)) (.tmp 12) 24 rfl _ _ run8 ?_)
  rw [E8.out]
  clear E8 run8 x8 y8 f8
  go_upto_region 5 with (at_builtin; refine wp_append_run _ rfl (.const (.slice none 0 0)) (.tmp 16) 25 rfl _ _ run9 ?_)
  rw [E9.out]
  clear E9 run9 x9 y9 f9
  go_upto_region 6 with (at_builtin; refine wp_append_run _ rfl (.const (.slice none 0 0)) (.tmp 20) 26 rfl _ _ run10 ?_)
  rw [E10.out]
  clear E10 run10 x10 y10 f10
  go_upto_region 7 with (at_builtin; refine wp_append_run _ rfl (.const (.slice none 0 0)) (.tmp 24) 29 rfl _ _ run25 ?_)
  rw [E25.out]
  clear E25 run25 x25 y25 f25
  go_wp2_with (first | (refine wpList_load_row rfl 31 (.tmp 1) rfl w.heap.size rfl 31 cs25 (0, 0) _ P0.out Tryz.underlying31 rfl INF.out ?_) | (refine wpList_store_row rfl 31 (.tmp 2) (.tmp 27) rfl (w.heap.size + 1) cs25 rfl rfl 31 #[.int .i64 0, .int .i64 0, .bool false, .string ⟨#[]⟩, .string ⟨#[]⟩, .int .i64 0, .slice none 0 0, .slice none 0 0, .slice none 0 0, .slice none 0 0, .slice none 0 0, .int .i64 0, .int .i64 0, .int .i64 0, .string ⟨#[]⟩, .string ⟨#[]⟩, .int .i64 0, .int .i64 0, .int .i64 0, .int .i64 0, .int .i64 0, .string ⟨#[]⟩, .string ⟨#[]⟩, .int .i64 0, .int .i64 0, .slice none 0 0, .int .i64 0, .int .i64 0, .int .i64 0] P1.out INF.out SZC.out ONE.out ?_))
  refine bodyPost_ret (v := .agg cs25) ?r ?d ?_
  case r => exact results_cell_row rfl _ _ (w.heap.size + 1) 31 cs25 (0, 0) _ rfl FIN.out.1 Tryz.underlying31 rfl INF.out
  case d => rfl
  exact ⟨_, rfl, FIN.out.2.1, FIN.out.2.2⟩
end Go.Proofs.YthklpkmdmkgjiaaGreat
