/- The landed net's small functions: has, full, reach, Len, both, own, New. No condition but a size. -/
import Derived.Test.YtjbonklgklldmaaNetMem
import Derived.Test.YtjbonklgklldmaaWireRows
import Derived.Test.YtjbonklgklldmaaWireRow
namespace Go.Proofs.Ytjbonklgklldmaa
open Go.ChangeShapes Go.WideShapes Go.ChangeAt Go.RowKit B8 Nm
set_option linter.unusedVariables false

theorem has_net {w : World} {L : Lay} {kk : Nat} {s : Ns} (h : Nt w L kk s) (x : Int) :
    Calls Try.prog 27 #[.pointer (some ⟨L.N, 0, none⟩), .int .i64 x] w fun e w' => e = .returned (.bool (hasB s x)) ∧ w' = w := by
  have c0 := h.c0
  clear h
  unfold hasB
  by_cases h1 : (1 : Int) ≤ x
  · by_cases h2 : x ≤ (s.n : Int)
    · have e1 : (decide (1 ≤ x ∧ x ≤ (s.n : Int))) = true := by simp [h1, h2]
      rw [e1]
      go_enter Try.func27, Try.ntmps27
      go_wp2_with fail
      go_ret
      exact ⟨by simp, rfl⟩
    · have e1 : (decide (1 ≤ x ∧ x ≤ (s.n : Int))) = false := by simp [h2]
      rw [e1]
      go_enter Try.func27, Try.ntmps27
      go_wp2_with fail
      go_ret
      exact ⟨by simp, rfl⟩
  · have e1 : (decide (1 ≤ x ∧ x ≤ (s.n : Int))) = false := by simp [h1]
    rw [e1]
    go_enter Try.func27, Try.ntmps27
    go_wp2_with fail
    go_ret
    exact ⟨by simp, rfl⟩
theorem full_net {w : World} {L : Lay} {kk : Nat} {s : Ns} (h : Nt w L kk s) :
    Calls Try.prog 29 #[.pointer (some ⟨L.N, 0, none⟩)] w fun e w' => e = .returned (.bool (decide (256 ≤ s.ps.length))) ∧ w' = w := by
  have c1 := h.c1
  have hl : L.m = s.ps.length := by rw [h.ps, List.length_map]; exact h.len
  rw [hl] at c1
  clear h hl
  go_enter Try.func29, Try.ntmps29
  go_wp2_with fail
  go_ret
  refine ⟨?_, rfl⟩
  congr 2
  simp
  omega
theorem reach_net {w : World} {L : Lay} {kk : Nat} {s : Ns} (h : Nt w L kk s) (i : Int) :
    Calls Try.prog 25 #[.pointer (some ⟨L.N, 0, none⟩), .int .i64 i] w fun e w' => e = .returned (.int .i64 (reachE s i)) ∧ w' = w := by
  have c1 := h.c1
  have hl : L.m = s.ps.length := by rw [h.ps, List.length_map]; exact h.len
  rw [hl] at c1
  clear h hl
  unfold reachE
  generalize s.ps.length = q at c1 ⊢
  by_cases h1 : i < 0
  · rw [if_pos (.inl h1)]
    have h2 : (decide (i < 0)) = true := by simp [h1]
    go_enter Try.func25, Try.ntmps25
    go_wp2_with fail
    go_ret
    exact ⟨rfl, rfl⟩
  · by_cases h3 : (q : Int) ≤ i
    · rw [if_pos (.inr h3)]
      go_enter Try.func25, Try.ntmps25
      go_wp2_with fail
      go_ret
      exact ⟨rfl, rfl⟩
    · rw [if_neg (by omega)]
      go_enter Try.func25, Try.ntmps25
      go_wp2_with fail
      go_ret
      exact ⟨rfl, rfl⟩
theorem len_net {w : World} {L : Lay} {kk : Nat} {s : Ns} (h : Nt w L kk s) :
    Calls Try.prog 18 #[.pointer (some ⟨L.N, 0, none⟩)] w fun e w' => e = .returned (.int .i64 s.ps.length) ∧ w' = w := by
  have c1 := h.c1
  have hl : L.m = s.ps.length := by rw [h.ps, List.length_map]; exact h.len
  rw [hl] at c1
  clear h hl
  go_enter Try.func18, Try.ntmps18
  go_wp2_with fail
  go_ret
  exact ⟨rfl, rfl⟩
theorem both_any (a b : Int) (w : World) :
    Calls Try.prog 28 #[.int .i64 a, .int .i64 b] w fun e w' => e = .returned (.agg #[.int .i64 (min a b), .int .i64 (max a b)]) ∧ Below w.heap.size w w' := by
  have hb : Hid (Below w.heap.size w (w.alloc (.cells #[.int .i64 (min a b), .int .i64 (max a b)] 57))) := below_alloc (Below.refl _ _) _
  rcases Int.lt_trichotomy a b with h | h | h
  · rw [show min a b = a by omega, show max a b = b by omega] at hb ⊢
    go_enter Try.func28, Try.ntmps28
    go_wp2_with fail
    refine bodyPost_ret (v := .agg #[.int .i64 a, .int .i64 b]) ?r ?d ?_
    case r => exact results_cell_row rfl _ _ w.heap.size 57 #[.int .i64 a, .int .i64 b] (0, 0) _ rfl (heap_alloc_new w _) Try.underlying57 rfl (by kernel_rfl)
    case d => rfl
    exact ⟨rfl, hb.out⟩
  · subst h
    have hb := hb
    rw [show min a a = a by omega, show max a a = a by omega] at hb ⊢
    go_enter Try.func28, Try.ntmps28
    go_wp2_with fail
    refine bodyPost_ret (v := .agg #[.int .i64 a, .int .i64 a]) ?r ?d ?_
    case r => exact results_cell_row rfl _ _ w.heap.size 57 #[.int .i64 a, .int .i64 a] (0, 0) _ rfl (heap_alloc_new w _) Try.underlying57 rfl (by kernel_rfl)
    case d => rfl
    exact ⟨rfl, hb.out⟩
  · rw [show min a b = b by omega, show max a b = a by omega] at hb ⊢
    go_enter Try.func28, Try.ntmps28
    go_wp2_with fail
    refine bodyPost_ret (v := .agg #[.int .i64 b, .int .i64 a]) ?r ?d ?_
    case r => exact results_cell_row rfl _ _ w.heap.size 57 #[.int .i64 b, .int .i64 a] (0, 0) _ rfl (heap_alloc_new w _) Try.underlying57 rfl (by kernel_rfl)
    case d => rfl
    exact ⟨rfl, hb.out⟩

theorem make_bytes (w : World) (n : Nat) (hn : n ≤ 140737488351232) : (Instr.makeSlice 31 (.int .i64 n) (.int .i64 n)).run Try.prog w = .ok (.slice (some ⟨w.heap.size, 0, none⟩) n n) (w.alloc (.cells (vals (List.replicate n 0)).toArray 5)) := by
  obtain ⟨i0, hi, hz0, hz1, hz2⟩ := info_parts info
  have hr := run_make (P := Try.prog) w 31 5 i0 (.int .u8 0) Try.underlying31 hi hz0 .i64 .i64 (n : Int) (n : Int) (by omega) (by omega) (by rw [hz2]; omega) (by omega)
  rw [hr, hz1]
  have e : madeCells (Value.int IntKind.u8 0).cells (n * 1) = (vals (List.replicate n 0)).toArray := by
    apply Array.ext'
    show (madeCells #[Value.int .u8 0] (n * 1)).toList = _
    rw [toList_madeCells_one, Nat.mul_one]
    simp only [vals, List.map_replicate]
  rw [Int.toNat_natCast, e]
def zpk : Array Value := #[.int .i64 0, .int .i64 0, .slice none 0 0]
theorem pkinfo : (Try.prog.info? 33).map (fun i => (i.zero, i.size, i.bytes)) = some (some (.agg zpk), 3, 40) := by kernel_rfl
theorem pksize : (Try.prog.info? 33).map (·.size) = some 3 := by kernel_rfl
theorem setCell_row {w : World} {g : Nat} {x y z u : Value} {t : TypeId} (h : w.heap[g]? = some (.cells #[x, y, z] t)) : (w.setCell ⟨g, 2, none⟩ u).heap[g]? = some (.cells #[x, y, u] t) := by
  simp [World.setCell, Array.getElem?_modify, h]
theorem setCell_far {w : World} {g : Nat} {a : Addr} {u : Value} {o : Obj} (h : w.heap[g]? = some o) (hn : g ≠ a.block) : (w.setCell a u).heap[g]? = some o := (Below.heap_setCell _ _ _ _ hn).trans h
/-- a packet like p with a body of its own -/
structure Owned (w : World) (g : Nat) (n : Nat) (b : List Int) : Prop where
  row : w.heap[g]? = some (.cells (vals b).toArray 5 (0, 0))
  len : b.length = n
  wf : wfs b
theorem Owned.sq {w : World} {g n : Nat} {b : List Int} (h : Owned w g n b) : Sq w (some ⟨g, 0, none⟩) n n b := by
  refine ⟨h.len, Nat.le_refl _, (fun e => by cases e), fun h0 => ⟨g, 0, rfl, fun j hj => ?_⟩, h.wf⟩
  rw [Nat.zero_add, cell_of_row _ _ _ _ _ _ h.row]
  have hj' : j < b.length := by have := h.len; omega
  simp [vals, hj']
set_option maxRecDepth 100000 in
theorem own_any {w : World} {a : Option Addr} {n cp : Nat} {bs : List Int} (q : Sq w a n cp bs) (hn : n ≤ 140737488351232) (f t : Int) :
    Calls Try.prog 24 #[.agg #[.int .i64 f, .int .i64 t, .slice a n cp]] w fun e w' => ∃ g, e = .returned (.agg #[.int .i64 f, .int .i64 t, .slice (some ⟨g, 0, none⟩) n n]) ∧ w.heap.size ≤ g ∧ g < w'.heap.size ∧ Owned w' g n bs ∧ Below w.heap.size w w' := by
  obtain ⟨i0, hi, hz0, hz1, hz2⟩ := info_parts info
  obtain ⟨u0, e0⟩ : ∃ u0, u0 = (w.alloc (.cells #[.int .i64 f, .int .i64 t, .slice a n cp] 33)).alloc (.cells zpk 33) := ⟨_, rfl⟩
  have mk := make_bytes u0 n hn
  have s0 : u0.heap.size = w.heap.size + 2 := by rw [e0]; simp
  have b0 : Below w.heap.size w u0 := by rw [e0]; exact below_alloc (below_alloc (Below.refl _ _) _) _
  obtain ⟨u, eu⟩ : ∃ u, u = u0.alloc (.cells (vals (List.replicate n 0)).toArray 5) := ⟨_, rfl⟩
  rw [← eu, s0] at mk
  have hb0 : Below u0.heap.size u0 u := by rw [eu]; exact below_alloc (Below.refl _ _) _
  have r0 : u.heap[w.heap.size + 2]? = some (.cells (vals (List.replicate n 0)).toArray 5 (0, 0)) := by rw [eu, ← s0]; exact heap_alloc_new u0 _
  have qu := (q.below b0).below hb0
  have hl := q.length
  have mm : Nat.min n n = n := Nat.min_self n
  obtain ⟨w2, run2, h2, b2⟩ := copy_rows_ex (P := Try.prog) u 31 31 5 1 Try.underlying31 (by rw [hi]; simp [hz1]) (w.heap.size + 2) n n a n cp (vals (List.replicate n 0)) 5 r0 (vals bs) (by rw [mm]; simp [vals, hl]) (fun h0 => by
    cases a with
    | none => have := (qu.noAddr rfl).1; simp [vals] at h0; omega
    | some ad => exact ⟨ad, rfl, qu.news ad rfl⟩) (by omega) (by simp [vals, hl]) (vals_one _) (w.heap.size + 2) u0 (by rw [← s0]; exact hb0) (Nat.le_refl _)
  have e2 : (vals bs ++ (vals (List.replicate n 0)).drop (vals bs).length).toArray = (vals bs).toArray := by simp [vals, hl]
  rw [e2] at h2
  have run2' := run2 3
  rw [mm] at run2'
  have p0 : u0.heap[w.heap.size]? = some (.cells #[.int .i64 f, .int .i64 t, .slice a n cp] 33) := by
    rw [e0]
    exact (Below.heap_alloc _ _ _ (by simp)).trans (heap_alloc_new w _)
  have p1 : u0.heap[w.heap.size + 1]? = some (.cells zpk 33) := by
    rw [e0]
    have := heap_alloc_new (w.alloc (.cells #[.int .i64 f, .int .i64 t, .slice a n cp] 33)) (.cells zpk 33)
    simpa using this
  have q0 : w2.heap[w.heap.size]? = some (.cells #[.int .i64 f, .int .i64 t, .slice a n cp] 33) := (b2.block _ (by omega)).trans p0
  have q1 : w2.heap[w.heap.size + 1]? = some (.cells zpk 33) := (b2.block _ (by omega)).trans p1
  have u2 : u.cell? ⟨w.heap.size, 2, none⟩ = some (.slice a n cp) := by rw [cell_of_row u _ 2 _ _ _ ((hb0.block _ (by omega)).trans p0)]; rfl
  have c2 : w2.cell? ⟨w.heap.size, 2, none⟩ = some (.slice a n cp) := by rw [cell_of_row w2 _ 2 _ _ _ q0]; rfl
  have f2 : w2.frozen? ⟨w.heap.size, 2, none⟩ = false := by simp [World.frozen?, q0]
  have O := hide (Owned.mk h2 hl q.wf)
  have B2 : Hid (Below w.heap.size w w2) := b0.trans (b2.mono (by omega))
  have Q0 := hide q0
  have Q1 := hide q1
  have LT2 : Hid (w.heap.size + 2 < w2.heap.size) := by
    rcases Nat.lt_or_ge (w.heap.size + 2) w2.heap.size with h | h
    · exact h
    · rw [Array.getElem?_eq_none h] at h2; cases h2
  rw [show (zpk : Array Value) = #[.int .i64 0, .int .i64 0, .slice none 0 0] from rfl] at e0
  rw [e0] at mk
  have R0 := hide (setCell_row (u := .slice (some ⟨w.heap.size + 2, 0, none⟩) n n) q0)
  have R1 : Hid ((w2.setCell ⟨w.heap.size, 2, none⟩ (.slice (some ⟨w.heap.size + 2, 0, none⟩) n n)).heap[w.heap.size + 1]? = some (.cells zpk 33)) := setCell_far q1 (by simp)
  have SZ : Hid (zpk.size = (#[.int .i64 f, .int .i64 t, .slice (some ⟨w.heap.size + 2, 0, none⟩) n n] : Array Value).size) := rfl
  have ON : Hid ((#[.int .i64 f, .int .i64 t, .slice (some ⟨w.heap.size + 2, 0, none⟩) n n] : Array Value).all (·.oneCell') = true) := by show _ = _; simp [Value.oneCell']
  clear q qu hb0 r0 eu h2 b2 e2 hl run2 mm p0 p1 q0 q1 b0 s0 e0
  go_enter Try.func24, Try.ntmps24
  go_wp2_with (first | (refine wpList_load_row rfl 33 (.tmp 1) rfl w.heap.size rfl 33 #[.int .i64 f, .int .i64 t, .slice (some ⟨w.heap.size + 2, 0, none⟩) n n] (0, 0) _ R0.out Try.underlying33 rfl pksize ?_) | (refine wpList_store_row rfl 33 (.tmp 2) (.tmp 14) rfl (w.heap.size + 1) #[.int .i64 f, .int .i64 t, .slice (some ⟨w.heap.size + 2, 0, none⟩) n n] rfl rfl 33 zpk R1.out pksize SZ.out ON.out ?_))
  refine bodyPost_ret (v := .agg #[.int .i64 f, .int .i64 t, .slice (some ⟨w.heap.size + 2, 0, none⟩) n n]) ?r ?d ?_
  case r => exact results_cell_row rfl _ _ (w.heap.size + 1) 33 #[.int .i64 f, .int .i64 t, .slice (some ⟨w.heap.size + 2, 0, none⟩) n n] (0, 0) _ rfl (setRow_heap _ _ _ _ _ _ R1.out) Try.underlying33 rfl pksize
  case d => rfl
  refine ⟨w.heap.size + 2, rfl, by omega, by rw [size_setRow]; simp [World.setCell]; exact LT2.out, ⟨(setRow_other _ _ _ _ (by omega)).trans (setCell_far O.out.row (by simp)), O.out.len, O.out.wf⟩, below_setRow (B2.out.setCell (p := ⟨w.heap.size, 2, none⟩) (Nat.le_refl _) _) (by omega) _⟩

theorem cuts_new (w : World) : Cuts (w.alloc (.map #[] 0)) w.heap.size 0 [] := ⟨.map [], World.ownsMap_made w Try.prog 57 unitElem, fun lo hi _ _ => rfl⟩
def lay0 (N mb : Nat) : Lay := ⟨N, mb, none, 0, 0, []⟩
theorem nt_new (w : World) {n : Nat} (h1 : 1 ≤ n) (h2 : n ≤ 5) : Nt ((w.alloc (.map #[] 0)).alloc (.cells #[.int .i64 n, .slice none 0 0, .map (some w.heap.size)] 54)) (lay0 (w.heap.size + 1) w.heap.size) 0 (newS n) := by
  obtain ⟨u, eu⟩ : ∃ u, u = w.alloc (.map #[] 0) := ⟨_, rfl⟩
  have hc := cuts_new w
  rw [← eu] at hc ⊢
  have su : u.heap.size = w.heap.size + 1 := by rw [eu]; simp
  have g := heap_alloc_new u (.cells #[.int .i64 n, .slice none 0 0, .map (some w.heap.size)] 54)
  rw [su] at g
  refine ⟨?_, ?_, ?_, fun o => by simp [World.frozen?, lay0, g], World.ownsRow_nil _ _ _ _, rfl, rfl, by simp [lay0], hc.same (Below.heap_alloc _ _ _ (by omega)), by simp [lay0, Value.ownBlock], ?_, newS_ok h1 h2⟩
  · rw [show (lay0 (w.heap.size + 1) w.heap.size).N = w.heap.size + 1 from rfl, cell_of_row _ _ 0 _ _ _ g]; rfl
  · rw [show (lay0 (w.heap.size + 1) w.heap.size).N = w.heap.size + 1 from rfl, cell_of_row _ _ 1 _ _ _ g]; rfl
  · rw [show (lay0 (w.heap.size + 1) w.heap.size).N = w.heap.size + 1 from rfl, cell_of_row _ _ 2 _ _ _ g]; rfl
  · rintro k _ ⟨p, hp, _⟩
    simp [lay0] at hp
theorem new_yes (n : Nat) (h1 : 1 ≤ n) (h2 : n ≤ 5) (w : World) :
    Calls Try.prog 15 #[.int .i64 n] w fun e w' => ∃ L, e = .returned (.tuple #[.pointer (some ⟨L.N, 0, none⟩), .int .i64 0]) ∧ Below w.heap.size w w' ∧ Nt w' L 0 (newS n) ∧ ∀ k, L.M k → w.heap.size ≤ k := by
  have K := hide (nt_new w h1 h2)
  have b1 : (1 : Int) ≤ n := by omega
  have b2 : (n : Int) ≤ 5 := by omega
  have hmm := @run_makeMap Try.prog
  clear h1 h2
  go_enter Try.func15, Try.ntmps15
  go_wp2_with fail
  go_ret2
  refine ⟨_, rfl, below_alloc (below_alloc (Below.refl _ _) _) _, K.out, fun k hk => ?_⟩
  rcases hk with rfl | rfl | hk
  · simp [lay0]
  · simp [lay0]
  · simp [lay0, Lay.v, Value.ownBlock] at hk
theorem new_no (n : Int) (h : n < 1 ∨ 5 < n) (w : World) :
    Calls Try.prog 15 #[.int .i64 n] w fun e w' => e = .returned (.tuple #[.pointer none, .int .i64 1]) ∧ w' = w := by
  rcases h with h | h
  · go_enter Try.func15, Try.ntmps15
    go_wp2_with fail
    go_ret2
    exact ⟨rfl, rfl⟩
  · have b1 : (1 : Int) ≤ n := by omega
    go_enter Try.func15, Try.ntmps15
    go_wp2_with fail
    go_ret2
    exact ⟨rfl, rfl⟩
end Go.Proofs.Ytjbonklgklldmaa
