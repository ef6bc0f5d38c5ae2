/- A landed clock in memory; New, Now, Due, Stop. No condition. -/
import Derived.Test.YtoganfdpaagomaaClockTake
import Derived.Test.YtoganfdpaagomaaClockMath
namespace Go.Proofs.Ytoganfdpaagomaa
open Go.ChangeShapes Go.WideShapes Go.ChangeAt Go.RowKit Cm
set_option linter.unusedVariables false

/-- its blocks -/
def Cb (C : Nat) (L : Ql) (k : Nat) : Prop := k = C ∨ L.M k
structure Cl (w : World) (C : Nat) (L : Ql) (s : Cs) (B : Int) : Prop where
  c0 : w.cell? ⟨C, 0, none⟩ = some (.int .i64 s.now)
  c1 : w.cell? ⟨C, 1, none⟩ = some (.int .i64 s.sets)
  c2 : w.cell? ⟨C, 2, none⟩ = some (.pointer (some ⟨L.Q, 0, none⟩))
  f : ∀ o, w.frozen? ⟨C, o, none⟩ = false
  q : ∃ l, l.Perm s.r ∧ HeapN l l.length ∧ Qu w L l (names l)
  dis : ¬ L.M C
  ok : Ok s B
/-- what a call leaves -/
def CMv (w : World) (C : Nat) (L : Ql) (s : Cs) (B : Int) (w' : World) : Prop := Chg (Cb C L) w w' ∧ ∃ L', Cl w' C L' s B ∧ ∀ k, Cb C L' k → Cb C L k ∨ w.heap.size ≤ k
section
variable {w w' : World} {C : Nat} {L : Ql} {s : Cs} {B : Int}
theorem Cl.ltC (h : Cl w C L s B) : C < w.heap.size := World.block_lt_of_cell? w _ h.c0
theorem Cl.lt (h : Cl w C L s B) : ∀ k, Cb C L k → k < w.heap.size := fun k hk => by
  rcases hk with rfl | hk
  · exact h.ltC
  · obtain ⟨l, _, _, hq⟩ := h.q
    exact hq.lt k hk
theorem Cl.same (h : Cl w C L s B) (hb : ∀ k, Cb C L k → w'.heap[k]? = w.heap[k]?) : Cl w' C L s B := by
  have eC := hb C (.inl rfl)
  have c : ∀ o, w'.cell? ⟨C, o, none⟩ = w.cell? ⟨C, o, none⟩ := fun o => World.cell?_of_block (a := ⟨C, o, none⟩) eC
  obtain ⟨l, h1, h2, hq⟩ := h.q
  exact ⟨(c 0).trans h.c0, (c 1).trans h.c1, (c 2).trans h.c2, fun o => (World.frozen?_of_block (a := ⟨C, o, none⟩) eC).trans (h.f o), ⟨l, h1, h2, hq.same (fun k hk => hb k (.inr hk))⟩, h.dis, h.ok⟩
theorem Cl.below (h : Cl w C L s B) (hb : Below w.heap.size w w') : Cl w' C L s B := h.same (fun k hk => hb.block k (h.lt k hk))
theorem Cl.drew (h : Cl w C L s B) : Cl w.drew C L s B := h.same (fun _ _ => rfl)
theorem Cl.far {M' : Nat → Prop} (h : Cl w C L s B) (hc : Chg M' w w') (hd : ∀ k, Cb C L k → ¬ M' k) : Cl w' C L s B := h.same (fun k hk => hc.block k (h.lt k hk) (hd k hk))
theorem Cl.mono {B' : Int} (h : Cl w C L s B) (e : B ≤ B') : Cl w C L s B' := ⟨h.c0, h.c1, h.c2, h.f, h.q, h.dis, h.ok.mono e⟩
theorem CMv.stay (h : Cl w C L s B) : CMv w C L s B w := ⟨Chg.refl _ _, L, h, fun k hk => .inl hk⟩
theorem CMv.of_below (h : Cl w C L s B) (hb : Below w.heap.size w w') : CMv w C L s B w' := ⟨Chg.of_below hb _, L, h.below hb, fun k hk => .inl hk⟩
/-- the queue has turned, and the clock's own cells are there -/
theorem cl_of {w1 : World} {s' : Cs} {B' : Int} {r : List Tm} (h : Cl w C L s B) (hc : Chg (Cb C L) w w1) (k0 : w1.cell? ⟨C, 0, none⟩ = some (.int .i64 s'.now)) (k1 : w1.cell? ⟨C, 1, none⟩ = some (.int .i64 s'.sets)) (k2 : w1.cell? ⟨C, 2, none⟩ = some (.pointer (some ⟨L.Q, 0, none⟩)))
    (kf : ∀ o, w1.frozen? ⟨C, o, none⟩ = false) (hq : HP w1 L r names w') (hr : r.Perm s'.r) (ho : Ok s' B') : CMv w C L s' B' w' := by
  obtain ⟨l', h1, h2, hc2, L', q', eQ, m⟩ := hq
  have lc : C < w1.heap.size := World.block_lt_of_cell? w1 _ k0
  have eC := hc2.block C lc h.dis
  have c : ∀ o, w'.cell? ⟨C, o, none⟩ = w1.cell? ⟨C, o, none⟩ := fun o => World.cell?_of_block (a := ⟨C, o, none⟩) eC
  refine ⟨hc.trans hc2 (fun k _ hk => .inr hk), L', ⟨(c 0).trans k0, (c 1).trans k1, by rw [eQ]; exact (c 2).trans k2, fun o => (World.frozen?_of_block (a := ⟨C, o, none⟩) eC).trans (kf o), ⟨l', h1.trans hr, h2, q'⟩, fun hd => ?_, ho⟩, fun k hk => ?_⟩
  · rcases m C hd with h3 | h3
    · exact h.dis h3
    · omega
  · rcases hk with rfl | hk
    · exact .inl (.inl rfl)
    · rcases m k hk with h3 | h3
      · exact .inl (.inr h3)
      · exact .inr (Nat.le_trans hc.size h3)
end
/-! New -/
theorem newq_any (w : World) : Calls Try.prog 22 #[] w fun e w' => e = .returned (.pointer (some ⟨w.heap.size + 1, 0, none⟩)) ∧ w' = (w.alloc (.map #[] 0)).alloc (.cells #[.slice none 0 0, .map (some w.heap.size)] 57) := by
  have mk : ∀ W : World, (Instr.makeMap 55 none).run Try.prog W = .ok (.map (some W.heap.size)) (W.alloc (.map #[] 0)) := fun W => by first | exact run_makeMap W | (simp [Instr.makeMap]; done)
  go_enter Try.func22, Try.ntmps22
  go_wp2_with fail
  go_ret
  exact ⟨rfl, rfl⟩
theorem qu_new (w : World) : Qu ((w.alloc (.map #[] 0)).alloc (.cells #[.slice none 0 0, .map (some w.heap.size)] 57)) ⟨w.heap.size + 1, w.heap.size, none, 0, 0⟩ [] [] := by
  have N1 : ((w.alloc (.map #[] 0)).alloc (.cells #[.slice none 0 0, .map (some w.heap.size)] 57)).heap[w.heap.size + 1]? = some (.cells #[.slice none 0 0, .map (some w.heap.size)] 57) := by
    have := heap_alloc_new (w.alloc (.map #[] 0)) (.cells #[.slice none 0 0, .map (some w.heap.size)] 57)
    simpa using this
  refine ⟨by rw [cell_of_row _ _ 0 _ _ _ N1]; rfl, by rw [cell_of_row _ _ 1 _ _ _ N1]; rfl, fun o => by unfold World.frozen?; rw [N1]; simp, ⟨rfl, .inl ⟨rfl, rfl⟩⟩, rfl, ⟨fun _ => none, (mp_new w).same (Below.heap_alloc _ _ _ (by simp)), fun i s h => by simp at h, fun _ _ => rfl⟩, by simp [Value.ownBlock], fun s h => by simp at h, by simp⟩
theorem new_any (w : World) : Calls Try.prog 8 #[] w fun e w' => e = .returned (.pointer (some ⟨w.heap.size + 2, 0, none⟩)) ∧ Below w.heap.size w w' ∧ ∃ L, Cl w' (w.heap.size + 2) L newS 0 ∧ ∀ k, Cb (w.heap.size + 2) L k → w.heap.size ≤ k := by
  have C := hide (newq_any w)
  obtain ⟨w1, e1⟩ : ∃ w1, w1 = (w.alloc (.map #[] 0)).alloc (.cells #[.slice none 0 0, .map (some w.heap.size)] 57) := ⟨_, rfl⟩
  rw [← e1] at C
  have s1 : w1.heap.size = w.heap.size + 2 := by rw [e1]; simp
  have FIN : Hid (Below w.heap.size w (w1.alloc (.cells #[.int .i64 0, .int .i64 0, .pointer (some ⟨w.heap.size + 1, 0, none⟩)] 50)) ∧ ∃ L, Cl (w1.alloc (.cells #[.int .i64 0, .int .i64 0, .pointer (some ⟨w.heap.size + 1, 0, none⟩)] 50)) (w.heap.size + 2) L newS 0 ∧ ∀ k, Cb (w.heap.size + 2) L k → w.heap.size ≤ k) := by
    have N1 := heap_alloc_new w1 (.cells #[.int .i64 0, .int .i64 0, .pointer (some ⟨w.heap.size + 1, 0, none⟩)] 50)
    rw [s1] at N1
    have Q := qu_new w
    rw [← e1] at Q
    refine ⟨by rw [e1]; exact below_alloc (below_alloc (below_alloc (Below.refl _ _) _) _) _, ⟨w.heap.size + 1, w.heap.size, none, 0, 0⟩, ⟨by rw [cell_of_row _ _ 0 _ _ _ N1]; rfl, by rw [cell_of_row _ _ 1 _ _ _ N1]; rfl, by rw [cell_of_row _ _ 2 _ _ _ N1]; rfl, fun o => by simp [World.frozen?, N1], ⟨[], .refl _, heap_nil, Q.below (below_alloc (Below.refl _ _) _)⟩, fun h => ?_, ok_new⟩, fun k hk => ?_⟩
    · have := Q.lt _ h
      omega
    · rcases hk with rfl | rfl | rfl | hk
      · omega
      · show w.heap.size ≤ w.heap.size + 1; omega
      · exact Nat.le_refl _
      · simp [Ql.v, Value.ownBlock] at hk
  have S1 := hide s1
  clear e1 s1
  go_enter Try.func8, Try.ntmps8
  go_wp2_with fail
  refine C.out.mono ?_
  rintro e w2 ⟨rfl, rfl⟩
  go_wp2_with fail
  go_ret
  exact ⟨by rw [← S1.out]; rfl, FIN.out⟩
section
variable {w : World} {C : Nat} {L : Ql} {s : Cs} {B : Int}
theorem now_any (h : Cl w C L s B) : Calls Try.prog 11 #[.pointer (some ⟨C, 0, none⟩)] w fun e w' => e = .returned (.int .i64 s.now) ∧ w' = w := by
  have c0 := h.c0
  clear h
  go_enter Try.func11, Try.ntmps11
  go_wp2_with fail
  go_ret
  exact ⟨rfl, rfl⟩
/-- a name that is set, or not -/
theorem Cl.find (h : Cl w C L s B) (name : ByteArray) (hn : name.size ≤ maxLen) : ∃ (l : List Tm) (o : Option Nat), l.Perm s.r ∧ HeapN l l.length ∧ Qu w L l (names l) ∧ o.isSome = has s name ∧ (∀ i, o = some i → i < l.length ∧ (g l i).name = name ∧ (g l i).due = dueV s name ∧ has s name = true) ∧ (o = none → name ∉ names s.r ∧ has s name = false ∧ dueV s name = 0) ∧
    Calls Try.prog 29 #[.pointer (some ⟨L.Q, 0, none⟩), .string name] w fun e w' => e = .returned (.tuple #[.int .i64 ((o.getD 0 : Nat) : Int), .bool o.isSome]) ∧ w' = w := by
  obtain ⟨l, h1, h2, hq⟩ := h.q
  obtain ⟨o, ho, hc⟩ := find_any hq name hn
  have hm : ∀ x, x ∈ names l ↔ x ∈ names s.r := fun x => (h1.map Tm.name).mem_iff
  have key1 : ∀ i, o = some i → i < l.length ∧ (g l i).name = name ∧ (g l i).due = dueV s name ∧ has s name = true := fun i e => by
    rcases ho with ⟨j, ej, hj⟩ | ⟨ej, _⟩
    · rw [e] at ej
      obtain rfl : i = j := by simpa using ej
      have hl := (List.getElem?_eq_some_iff.1 hj).1
      rw [names_length] at hl
      rw [names_g hl] at hj
      have en : (g l i).name = name := by simpa using hj
      have mem : g l i ∈ s.r := h1.mem_iff.1 (g_mem hl)
      exact ⟨hl, en, by rw [← en]; exact (dueV_at h.ok mem).symm, (has_iff s name).2 (by rw [← en]; exact List.mem_map_of_mem mem)⟩
    · rw [e] at ej; cases ej
  have key2 : o = none → name ∉ names s.r ∧ has s name = false ∧ dueV s name = 0 := fun e => by
    rcases ho with ⟨j, ej, _⟩ | ⟨_, hj⟩
    · rw [e] at ej; cases ej
    · have hn2 : name ∉ names s.r := fun hx => hj ((hm name).2 hx)
      refine ⟨hn2, ?_, dueV_none hn2⟩
      cases hx : has s name
      · rfl
      · exact absurd ((has_iff s name).1 hx) hn2
  refine ⟨l, o, h1, h2, hq, ?_, key1, key2, hc⟩
  cases o with
  | none => rw [(key2 rfl).2.1]; rfl
  | some i => rw [(key1 i rfl).2.2.2]; rfl
set_option maxRecDepth 100000 in
theorem due_any (h : Cl w C L s B) (name : ByteArray) (hn : name.size ≤ maxLen) : Calls Try.prog 15 #[.pointer (some ⟨C, 0, none⟩), .string name] w fun e w' => e = .returned (.tuple #[.int .i64 (dueV s name), .bool (has s name)]) ∧ w' = w := by
  obtain ⟨l, o, h1, h2, hq, e0, k1, k2, hc⟩ := h.find name hn
  have c2 := h.c2
  have CF := hide hc
  cases o with
  | none =>
    obtain ⟨_, e1, e2⟩ := k2 rfl
    rw [e1, e2]
    clear h h1 h2 hq e0 k1 k2 hc e1 e2
    go_enter Try.func15, Try.ntmps15
    go_wp2_with fail
    refine CF.out.mono ?_
    rintro e w2 ⟨rfl, rfl⟩
    go_wp2_with fail
    go_ret2
    exact ⟨rfl, rfl⟩
  | some i =>
    obtain ⟨hi, e1, e2, e3⟩ := k1 i rfl
    obtain ⟨b, ea, eo, p0, p1, p2⟩ := hq.at hi
    have d0 := hq.c0
    rw [ea] at d0
    have hl := hq.len
    rw [e3]
    rw [e2] at p1
    have x1 : (0 : Int) ≤ (i : Int) := by omega
    have x2 : (i : Int) < (L.m : Int) := by omega
    clear h h1 h2 hq e0 k1 k2 hc e1 e2 e3 ea eo hl hi
    go_enter Try.func15, Try.ntmps15
    go_wp2_with fail
    refine CF.out.mono ?_
    rintro e w2 ⟨rfl, rfl⟩
    go_wp2_with fail
    go_ret2
    exact ⟨rfl, rfl⟩
set_option maxRecDepth 100000 in
theorem stop_any (h : Cl w C L s B) (name : ByteArray) (hn : name.size ≤ maxLen) : Calls Try.prog 21 #[.pointer (some ⟨C, 0, none⟩), .string name] w fun e w' => e = .returned (.bool (has s name)) ∧ CMv w C L (stopS s name) B w' := by
  obtain ⟨l, o, h1, h2, hq, e0, k1, k2, hc⟩ := h.find name hn
  have c2 := h.c2
  have CF := hide hc
  cases o with
  | none =>
    obtain ⟨e3, e1, e2⟩ := k2 rfl
    have es : stopS s name = s := by unfold stopS; rw [without_none e3]
    rw [e1, es]
    have H := hide h
    clear h h1 h2 hq e0 k1 k2 hc e1 e2 e3 es
    go_enter Try.func21, Try.ntmps21
    go_wp2_with fail
    refine CF.out.mono ?_
    rintro e w2 ⟨rfl, rfl⟩
    go_wp2_with fail
    go_ret
    exact ⟨rfl, CMv.stay H.out⟩
  | some i =>
    obtain ⟨hi, e1, e2, e3⟩ := k1 i rfl
    obtain ⟨n, en⟩ : ∃ n, l.length = n + 1 := ⟨l.length - 1, by omega⟩
    have CT := hide (take_any hq en (k := i) (by omega) h2)
    have FI : Hid (∀ w', HP w L (l.eraseIdx i) names w' → CMv w C L (stopS s name) B w') := fun w' hp => cl_of h (Chg.refl _ _) h.c0 h.c1 h.c2 h.f hp (take_perm h1 hi h.ok.nd e1) (h.ok.stop name)
    rw [e3]
    clear h h1 h2 hq e0 k1 k2 hc e1 e2 e3 en hi
    go_enter Try.func21, Try.ntmps21
    go_wp2_with fail
    refine CF.out.mono ?_
    rintro e w2 ⟨rfl, rfl⟩
    go_wp2_with fail
    refine CT.out.mono ?_
    rintro e w3 ⟨rfl, hp⟩
    have FIN := hide (FI.out _ hp)
    clear hp
    go_wp2_with fail
    go_ret
    exact ⟨rfl, FIN.out⟩
end
end Go.Proofs.Ytoganfdpaagomaa
