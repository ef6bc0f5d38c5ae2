/- The law folder's Letter of two letters that hold the same answers true. No condition. -/
import Derived.Test.YtghmgomlobddfaaFWireSameLists
import Derived.Test.YtghmgomlobddfaaFWireSamePiece
import Derived.Test.YtghmgomlobddfaaFWireLetterVal
import Derived.Deep.Cut
namespace Go.Proofs.Ytghmgomlobddfaa
open Go.ChangeShapes Go.WideShapes Go.ChangeAt Go.RowKit B8 Cm Wm
set_option linter.unusedVariables false

theorem Votes_same {w : World} {P P' : Nat → Prop} {a a' : Option Addr} {n cp cp' : Nat} {xss : List (List Atom)} (h : Ls w P a n cp 4 xss) (h' : Ls w P' a' n cp' 4 xss) (hP : ∀ b, P b → b < w.heap.size) (hP' : ∀ b, P' b → b < w.heap.size) (hk : ∀ xs ∈ xss, xs.map Atom.k = [0, 0, 0, 4]) (hn : n ≤ 140737488355328) :
    Calls Try.prog 26 #[.slice a n cp, .slice a' n cp'] w fun e w' => e = .returned (.bool true) ∧ Below w.heap.size w w' := by
  have C := hide (same_votes h h' hP hP' hk hn)
  clear h h' hP hP' hk
  go_enter Try.func26, Try.ntmps26
  go_wp2_with fail
  refine C.out.mono ?_
  rintro e w1 ⟨rfl, hb⟩
  go_wp2_with fail
  go_ret
  exact ⟨rfl, hb⟩
theorem Entries_same {w : World} {P P' : Nat → Prop} {a a' : Option Addr} {n cp cp' : Nat} {xss : List (List Atom)} (h : Ls w P a n cp 2 xss) (h' : Ls w P' a' n cp' 2 xss) (hP : ∀ b, P b → b < w.heap.size) (hP' : ∀ b, P' b → b < w.heap.size) (hk : ∀ xs ∈ xss, xs.map Atom.k = [0, 4]) (hn : n ≤ 140737488355328) :
    Calls Try.prog 27 #[.slice a n cp, .slice a' n cp'] w fun e w' => e = .returned (.bool true) ∧ Below w.heap.size w w' := by
  have C := hide (same_entries h h' hP hP' hk hn)
  clear h h' hP hP' hk
  go_enter Try.func27, Try.ntmps27
  go_wp2_with fail
  refine C.out.mono ?_
  rintro e w1 ⟨rfl, hb⟩
  go_wp2_with fail
  go_ret
  exact ⟨rfl, hb⟩
set_option maxRecDepth 100000 in
set_option maxHeartbeats 4000000 in
theorem same_letter_lit {w : World} {P P' : Nat → Prop} (z0 z1 z2 z3 z4 z5 z6 z9 z10 z11 : Int) {a7 b7 a8 b8 a12 b12 : Option Addr} {n7 c7 d7 n8 c8 d8 n12 c12 d12 : Nat} {vs es : List (List Atom)} {bs : List Int} (hv : Ls w P a7 n7 c7 4 vs) (hv' : Ls w P' b7 n7 d7 4 vs) (he : Ls w P a8 n8 c8 2 es) (he' : Ls w P' b8 n8 d8 2 es) (s12 : Sq w a12 n12 c12 bs) (t12 : Sq w b12 n12 d12 bs) (l12 : n12 ≤ 140737488351232) (hP : ∀ b, P b → b < w.heap.size) (hP' : ∀ b, P' b → b < w.heap.size) (kv : ∀ xs ∈ vs, xs.map Atom.k = [0, 0, 0, 4]) (ke : ∀ xs ∈ es, xs.map Atom.k = [0, 4]) (l7 : n7 ≤ 140737488355328) (l8 : n8 ≤ 140737488355328) :
    Calls Try.prog 13 #[.agg #[.int .i64 z0, .int .i64 z1, .int .i64 z2, .int .i64 z3, .int .i64 z4, .int .i64 z5, .int .i64 z6, .slice a7 n7 c7, .slice a8 n8 c8, .int .i64 z9, .int .i64 z10, .int .u32 z11, .slice a12 n12 c12], .agg #[.int .i64 z0, .int .i64 z1, .int .i64 z2, .int .i64 z3, .int .i64 z4, .int .i64 z5, .int .i64 z6, .slice b7 n7 d7, .slice b8 n8 d8, .int .i64 z9, .int .i64 z10, .int .u32 z11, .slice b12 n12 d12]] w fun e w' => e = .returned (.bool true) ∧ Below w.heap.size w w' := by
  obtain ⟨u, eu⟩ : ∃ u, u = (w.alloc (.cells #[.int .i64 z0, .int .i64 z1, .int .i64 z2, .int .i64 z3, .int .i64 z4, .int .i64 z5, .int .i64 z6, .slice a7 n7 c7, .slice a8 n8 c8, .int .i64 z9, .int .i64 z10, .int .u32 z11, .slice a12 n12 c12] 45)).alloc (.cells #[.int .i64 z0, .int .i64 z1, .int .i64 z2, .int .i64 z3, .int .i64 z4, .int .i64 z5, .int .i64 z6, .slice b7 n7 d7, .slice b8 n8 d8, .int .i64 z9, .int .i64 z10, .int .u32 z11, .slice b12 n12 d12] 45) := ⟨_, rfl⟩
  have hb : Below w.heap.size w u := by rw [eu]; exact below_alloc (below_alloc (Below.refl w.heap.size w) _) _
  have su : w.heap.size + 2 = u.heap.size := by rw [eu]; simp
  have r0 : u.heap[w.heap.size]? = some (.cells #[.int .i64 z0, .int .i64 z1, .int .i64 z2, .int .i64 z3, .int .i64 z4, .int .i64 z5, .int .i64 z6, .slice a7 n7 c7, .slice a8 n8 c8, .int .i64 z9, .int .i64 z10, .int .u32 z11, .slice a12 n12 c12] 45) := by rw [eu]; exact heap_alloc2_old w _ _
  have r1 : u.heap[w.heap.size + 1]? = some (.cells #[.int .i64 z0, .int .i64 z1, .int .i64 z2, .int .i64 z3, .int .i64 z4, .int .i64 z5, .int .i64 z6, .slice b7 n7 d7, .slice b8 n8 d8, .int .i64 z9, .int .i64 z10, .int .u32 z11, .slice b12 n12 d12] 45) := by rw [eu]; exact heap_alloc2_new w _ _
  -- what lies in w lies in what comes behind, and the two rows besides
  have s1 : ∀ v, Below u.heap.size u v → ∀ b, P b → P b ∧ v.heap[b]? = w.heap[b]? := fun v hv b h => ⟨h, (hv.block b (by have := hP b h; omega)).trans (hb.block b (hP b h))⟩
  have s2 : ∀ v, Below u.heap.size u v → ∀ b, P' b → P' b ∧ v.heap[b]? = w.heap[b]? := fun v hv b h => ⟨h, (hv.block b (by have := hP' b h; omega)).trans (hb.block b (hP' b h))⟩
  have lw : ∀ v, Below u.heap.size u v → w.heap.size ≤ v.heap.size := fun v hv => by have := hv.size; omega
  have CV : Hid (∀ v, Below u.heap.size u v → Calls Try.prog 26 #[.slice a7 n7 c7, .slice b7 n7 d7] v fun e w' => e = .returned (.bool true) ∧ Below v.heap.size v w') := fun v hq => Votes_same (hv.same (s1 v hq)) (hv'.same (s2 v hq)) (fun b h => Nat.lt_of_lt_of_le (hP b h) (lw v hq)) (fun b h => Nat.lt_of_lt_of_le (hP' b h) (lw v hq)) kv l7
  have CE : Hid (∀ v, Below u.heap.size u v → Calls Try.prog 27 #[.slice a8 n8 c8, .slice b8 n8 d8] v fun e w' => e = .returned (.bool true) ∧ Below v.heap.size v w') := fun v hq => Entries_same (he.same (s1 v hq)) (he'.same (s2 v hq)) (fun b h => Nat.lt_of_lt_of_le (hP b h) (lw v hq)) (fun b h => Nat.lt_of_lt_of_le (hP' b h) (lw v hq)) ke l8
  have CP : Hid (∀ v, Below u.heap.size u v → Calls Try.prog 28 #[.agg #[.int .i64 z9, .int .i64 z10, .int .u32 z11, .slice a12 n12 c12], .agg #[.int .i64 z9, .int .i64 z10, .int .u32 z11, .slice b12 n12 d12]] v fun e w' => e = .returned (.bool true) ∧ Below v.heap.size v w') := fun v hq => same_piece_lit z9 z10 z11 ((s12.below hb).below hq) ((t12.below hb).below hq) l12
  have BU := hide hb
  have kA : ∀ v, Below u.heap.size u v → ∀ j, v.cell? ⟨w.heap.size, j, none⟩ = (#[.int .i64 z0, .int .i64 z1, .int .i64 z2, .int .i64 z3, .int .i64 z4, .int .i64 z5, .int .i64 z6, .slice a7 n7 c7, .slice a8 n8 c8, .int .i64 z9, .int .i64 z10, .int .u32 z11, .slice a12 n12 c12] : Array Value)[j]? := fun v hv j => (hv.cell (p := ⟨w.heap.size, j, none⟩) (by show w.heap.size < _; omega)).trans (cell_of_row u w.heap.size j _ _ _ r0)
  have kB : ∀ v, Below u.heap.size u v → ∀ j, v.cell? ⟨w.heap.size + 1, j, none⟩ = (#[.int .i64 z0, .int .i64 z1, .int .i64 z2, .int .i64 z3, .int .i64 z4, .int .i64 z5, .int .i64 z6, .slice b7 n7 d7, .slice b8 n8 d8, .int .i64 z9, .int .i64 z10, .int .u32 z11, .slice b12 n12 d12] : Array Value)[j]? := fun v hv j => (hv.cell (p := ⟨w.heap.size + 1, j, none⟩) (by show w.heap.size + 1 < _; omega)).trans (cell_of_row u (w.heap.size + 1) j _ _ _ r1)
  have KA := hide kA
  have KB := hide kB
  have EU := hide eu.symm
  clear hv hv' he he' s12 t12 hP hP' kv ke hb s1 s2 eu r0 r1 kA kB lw su
  go_enter Try.func13, Try.ntmps13
  go_upto_region 1 with fail
  rw [EU.out]
  clear EU
  have x0 : u.cell? ⟨w.heap.size, 0, none⟩ = some (.int .i64 z0) := KA.out u (Below.refl _ _) 0
  have y0 : u.cell? ⟨w.heap.size + 1, 0, none⟩ = some (.int .i64 z0) := KB.out u (Below.refl _ _) 0
  have x1 : u.cell? ⟨w.heap.size, 1, none⟩ = some (.int .i64 z1) := KA.out u (Below.refl _ _) 1
  have y1 : u.cell? ⟨w.heap.size + 1, 1, none⟩ = some (.int .i64 z1) := KB.out u (Below.refl _ _) 1
  have x2 : u.cell? ⟨w.heap.size, 2, none⟩ = some (.int .i64 z2) := KA.out u (Below.refl _ _) 2
  have y2 : u.cell? ⟨w.heap.size + 1, 2, none⟩ = some (.int .i64 z2) := KB.out u (Below.refl _ _) 2
  have x3 : u.cell? ⟨w.heap.size, 3, none⟩ = some (.int .i64 z3) := KA.out u (Below.refl _ _) 3
  have y3 : u.cell? ⟨w.heap.size + 1, 3, none⟩ = some (.int .i64 z3) := KB.out u (Below.refl _ _) 3
  have x4 : u.cell? ⟨w.heap.size, 4, none⟩ = some (.int .i64 z4) := KA.out u (Below.refl _ _) 4
  have y4 : u.cell? ⟨w.heap.size + 1, 4, none⟩ = some (.int .i64 z4) := KB.out u (Below.refl _ _) 4
  have x5 : u.cell? ⟨w.heap.size, 5, none⟩ = some (.int .i64 z5) := KA.out u (Below.refl _ _) 5
  have y5 : u.cell? ⟨w.heap.size + 1, 5, none⟩ = some (.int .i64 z5) := KB.out u (Below.refl _ _) 5
  have x6 : u.cell? ⟨w.heap.size, 6, none⟩ = some (.int .i64 z6) := KA.out u (Below.refl _ _) 6
  have y6 : u.cell? ⟨w.heap.size + 1, 6, none⟩ = some (.int .i64 z6) := KB.out u (Below.refl _ _) 6
  have x7 : u.cell? ⟨w.heap.size, 7, none⟩ = some (.slice a7 n7 c7) := KA.out u (Below.refl _ _) 7
  have y7 : u.cell? ⟨w.heap.size + 1, 7, none⟩ = some (.slice b7 n7 d7) := KB.out u (Below.refl _ _) 7
  go_wp2_with fail
  refine (CV.out u (Below.refl _ _)).mono ?_
  rintro e w1 ⟨rfl, hq1⟩
  have Q1 := hide hq1
  have x8 : w1.cell? ⟨w.heap.size, 8, none⟩ = some (.slice a8 n8 c8) := KA.out w1 Q1.out 8
  have y8 : w1.cell? ⟨w.heap.size + 1, 8, none⟩ = some (.slice b8 n8 d8) := KB.out w1 Q1.out 8
  clear hq1
  go_wp2_with fail
  refine (CE.out w1 Q1.out).mono ?_
  rintro e w2 ⟨rfl, hq2⟩
  have Q2 := hide (Q1.out.trans (hq2.mono Q1.out.size))
  have x9 : w2.cell? ⟨w.heap.size, 9, none⟩ = some (.int .i64 z9) := KA.out w2 Q2.out 9
  have y9 : w2.cell? ⟨w.heap.size + 1, 9, none⟩ = some (.int .i64 z9) := KB.out w2 Q2.out 9
  have x10 : w2.cell? ⟨w.heap.size, 10, none⟩ = some (.int .i64 z10) := KA.out w2 Q2.out 10
  have y10 : w2.cell? ⟨w.heap.size + 1, 10, none⟩ = some (.int .i64 z10) := KB.out w2 Q2.out 10
  have x11 : w2.cell? ⟨w.heap.size, 11, none⟩ = some (.int .u32 z11) := KA.out w2 Q2.out 11
  have y11 : w2.cell? ⟨w.heap.size + 1, 11, none⟩ = some (.int .u32 z11) := KB.out w2 Q2.out 11
  have x12 : w2.cell? ⟨w.heap.size, 12, none⟩ = some (.slice a12 n12 c12) := KA.out w2 Q2.out 12
  have y12 : w2.cell? ⟨w.heap.size + 1, 12, none⟩ = some (.slice b12 n12 d12) := KB.out w2 Q2.out 12
  clear hq2
  go_wp2_with fail
  refine (CP.out w2 Q2.out).mono ?_
  rintro e w3 ⟨rfl, hq3⟩
  have D3 := hide (below_step BU.out (Q2.out.trans (hq3.mono Q2.out.size)))
  clear hq3
  go_wp2_with fail
  go_ret
  exact ⟨rfl, D3.out⟩
theorem lext {cs : Array Value} {lo hi j : Nat} {v : Value} (h : (cs.extract lo hi)[j]? = some v) : cs[lo + j]? = some v := by
  rw [Array.getElem?_extract] at h
  split at h
  · exact h
  · cases h
theorem LetV.vals0 {w : World} {P : Nat → Prop} {cs : Array Value} {x : Let} (h : LetV 7 w P cs x) : Vals w P (cs.extract 0 7) x.x0 := ⟨by rw [Array.size_extract, h.size, h.l0]; rfl, fun j y hy => by
  obtain ⟨v, e1, e2⟩ := h.f0 j y hy
  have hj : j < 7 := by have := (List.getElem?_eq_some_iff.1 hy).1; have := h.l0; omega
  refine ⟨v, ?_, e2⟩
  rw [Array.getElem?_extract, h.size, if_pos (by omega), Nat.zero_add]
  exact e1⟩
theorem LetV.vals1 {w : World} {P : Nat → Prop} {cs : Array Value} {x : Let} (h : LetV 7 w P cs x) : Vals w P (cs.extract 9 13) x.x1 := ⟨by rw [Array.size_extract, h.size, h.l1]; rfl, fun j y hy => by
  obtain ⟨v, e1, e2⟩ := h.f1 j y hy
  have hj : j < 4 := by have := (List.getElem?_eq_some_iff.1 hy).1; have := h.l1; omega
  refine ⟨v, ?_, e2⟩
  rw [Array.getElem?_extract, h.size, if_pos (by omega)]
  exact e1⟩
theorem same_letter {w : World} {P P' : Nat → Prop} {cs cs' : Array Value} {x : Let} (h : LetV 7 w P cs x) (h' : LetV 7 w P' cs' x) (hk : LetK 7 x) (hP : ∀ b, P b → b < w.heap.size) (hP' : ∀ b, P' b → b < w.heap.size) (l1 : x.vs.length ≤ 140737488355328) (l2 : x.es.length ≤ 140737488355328) :
    Calls Try.prog 13 #[.agg cs, .agg cs'] w fun e w' => e = .returned (.bool true) ∧ Below w.heap.size w w' := by
  obtain ⟨a7, n7, c7, p7, lv⟩ := h.vs
  obtain ⟨b7, n7', d7, q7, lv'⟩ := h'.vs
  obtain ⟨a8, n8, c8, p8, le⟩ := h.es
  obtain ⟨b8, n8', d8, q8, le'⟩ := h'.es
  obtain rfl : n7 = n7' := lv.length.symm.trans lv'.length
  obtain rfl : n8 = n8' := le.length.symm.trans le'.length
  have V0 := h.vals0
  have V0' := h'.vals0
  have V1 := h.vals1
  have V1' := h'.vals1
  obtain ⟨z0, p0, q0⟩ := pair_int V0 V0' hk.k0 0 rfl
  obtain ⟨z1, p1, q1⟩ := pair_int V0 V0' hk.k0 1 rfl
  obtain ⟨z2, p2, q2⟩ := pair_int V0 V0' hk.k0 2 rfl
  obtain ⟨z3, p3, q3⟩ := pair_int V0 V0' hk.k0 3 rfl
  obtain ⟨z4, p4, q4⟩ := pair_int V0 V0' hk.k0 4 rfl
  obtain ⟨z5, p5, q5⟩ := pair_int V0 V0' hk.k0 5 rfl
  obtain ⟨z6, p6, q6⟩ := pair_int V0 V0' hk.k0 6 rfl
  obtain ⟨z9, p9, q9⟩ := pair_int V1 V1' hk.k1 0 rfl
  obtain ⟨z10, p10, q10⟩ := pair_int V1 V1' hk.k1 1 rfl
  obtain ⟨z11, p11, q11⟩ := pair_u32 V1 V1' hk.k1 2 rfl
  obtain ⟨a12, n12, c12, b12, d12, bs, p12, q12, s12, t12, l12⟩ := pair_bytes V1 V1' hk.k1 3 rfl
  have e1 := h.size
  have e2 := h'.size
  obtain rfl : cs = #[.int .i64 z0, .int .i64 z1, .int .i64 z2, .int .i64 z3, .int .i64 z4, .int .i64 z5, .int .i64 z6, .slice a7 n7 c7, .slice a8 n8 c8, .int .i64 z9, .int .i64 z10, .int .u32 z11, .slice a12 n12 c12] := Array.ext_getElem? (fun j => match j with | 0 => (by have := lext p0; simpa using this) | 1 => (by have := lext p1; simpa using this) | 2 => (by have := lext p2; simpa using this) | 3 => (by have := lext p3; simpa using this) | 4 => (by have := lext p4; simpa using this) | 5 => (by have := lext p5; simpa using this) | 6 => (by have := lext p6; simpa using this) | 7 => p7 | 8 => p8 | 9 => lext p9 | 10 => lext p10 | 11 => lext p11 | 12 => lext p12 | j + 13 => by rw [Array.getElem?_eq_none (by omega), Array.getElem?_eq_none (by simp)])
  obtain rfl : cs' = #[.int .i64 z0, .int .i64 z1, .int .i64 z2, .int .i64 z3, .int .i64 z4, .int .i64 z5, .int .i64 z6, .slice b7 n7 d7, .slice b8 n8 d8, .int .i64 z9, .int .i64 z10, .int .u32 z11, .slice b12 n12 d12] := Array.ext_getElem? (fun j => match j with | 0 => (by have := lext q0; simpa using this) | 1 => (by have := lext q1; simpa using this) | 2 => (by have := lext q2; simpa using this) | 3 => (by have := lext q3; simpa using this) | 4 => (by have := lext q4; simpa using this) | 5 => (by have := lext q5; simpa using this) | 6 => (by have := lext q6; simpa using this) | 7 => q7 | 8 => q8 | 9 => lext q9 | 10 => lext q10 | 11 => lext q11 | 12 => lext q12 | j + 13 => by rw [Array.getElem?_eq_none (by omega), Array.getElem?_eq_none (by simp)])
  exact same_letter_lit z0 z1 z2 z3 z4 z5 z6 z9 z10 z11 lv lv' le le' s12 t12 l12 hP hP' hk.kv hk.ke (by rw [← lv.length]; exact l1) (by rw [← le.length]; exact l2)
end Go.Proofs.Ytghmgomlobddfaa
