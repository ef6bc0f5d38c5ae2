/- The law folder's Chart of two charts that hold the same answers true. No condition. -/
import Derived.Test.YtjhcedgncdcpjaaFWirePlPlace
import Derived.Test.YtjhcedgncdcpjaaFWirePlMark
import Derived.Test.YtjhcedgncdcpjaaFWireChartVal
import Derived.Deep.Cut
namespace Go.Proofs.Ytjhcedgncdcpjaa
open Go.ChangeShapes Go.WideShapes Go.ChangeAt Go.RowKit B8 Cm Wm
set_option linter.unusedVariables false

set_option maxRecDepth 100000 in
set_option maxHeartbeats 4000000 in
theorem same_chart_lit {w : World} {P P' : Nat → Prop} (z0 z2 z3 z4 z5 z6 : Int) (z7 z8 : ByteArray) (z9 z10 : Int) {a1 b1 a11 b11 : Option Addr} {n1 c1 d1 n11 c11 d11 : Nat} {ps ms : List (List Atom)} (hp : Ls w P a1 n1 c1 3 ps) (hp' : Ls w P' b1 n1 d1 3 ps) (hm : Ls w P a11 n11 c11 7 ms) (hm' : Ls w P' b11 n11 d11 7 ms) (hP : ∀ b, P b → b < w.heap.size) (hP' : ∀ b, P' b → b < w.heap.size) (kp : ∀ xs ∈ ps, xs.map Atom.k = [0, 3, 0]) (km : ∀ xs ∈ ms, xs.map Atom.k = [0, 0, 2, 0, 0, 0, 0]) (l1 : n1 ≤ 140737488355328) (l11 : n11 ≤ 140737488355328) :
    Calls Try.prog 11 #[.agg #[.int .i64 z0, .slice a1 n1 c1, .int .i64 z2, .int .i64 z3, .int .i64 z4, .int .i64 z5, .int .i64 z6, .string z7, .string z8, .int .i64 z9, .int .i64 z10, .slice a11 n11 c11], .agg #[.int .i64 z0, .slice b1 n1 d1, .int .i64 z2, .int .i64 z3, .int .i64 z4, .int .i64 z5, .int .i64 z6, .string z7, .string z8, .int .i64 z9, .int .i64 z10, .slice b11 n11 d11]] w fun e w' => e = .returned (.bool true) ∧ Below w.heap.size w w' := by
  obtain ⟨u, eu⟩ : ∃ u, u = (w.alloc (.cells #[.int .i64 z0, .slice a1 n1 c1, .int .i64 z2, .int .i64 z3, .int .i64 z4, .int .i64 z5, .int .i64 z6, .string z7, .string z8, .int .i64 z9, .int .i64 z10, .slice a11 n11 c11] 27)).alloc (.cells #[.int .i64 z0, .slice b1 n1 d1, .int .i64 z2, .int .i64 z3, .int .i64 z4, .int .i64 z5, .int .i64 z6, .string z7, .string z8, .int .i64 z9, .int .i64 z10, .slice b11 n11 d11] 27) := ⟨_, rfl⟩
  have hb : Below w.heap.size w u := by rw [eu]; exact below_alloc (below_alloc (Below.refl w.heap.size w) _) _
  have s1 : ∀ b, P b → P b ∧ u.heap[b]? = w.heap[b]? := fun b h => ⟨h, hb.block b (hP b h)⟩
  have s2 : ∀ b, P' b → P' b ∧ u.heap[b]? = w.heap[b]? := fun b h => ⟨h, hb.block b (hP' b h)⟩
  have CP := hide (plain_place (hp.same s1) (hp'.same s2) kp l1)
  have MM : Hid (∀ m, Ls (u.drewN m) P a11 n11 c11 7 ms ∧ Ls (u.drewN m) P' b11 n11 d11 7 ms) := fun m => ⟨(hm.same s1).same (fun b h => ⟨h, rfl⟩), (hm'.same s2).same (fun b h => ⟨h, rfl⟩)⟩
  have KM := hide km
  have BU := hide hb
  have r0 : u.heap[w.heap.size]? = some (.cells #[.int .i64 z0, .slice a1 n1 c1, .int .i64 z2, .int .i64 z3, .int .i64 z4, .int .i64 z5, .int .i64 z6, .string z7, .string z8, .int .i64 z9, .int .i64 z10, .slice a11 n11 c11] 27) := by rw [eu]; exact heap_alloc2_old w _ _
  have r1 : u.heap[w.heap.size + 1]? = some (.cells #[.int .i64 z0, .slice b1 n1 d1, .int .i64 z2, .int .i64 z3, .int .i64 z4, .int .i64 z5, .int .i64 z6, .string z7, .string z8, .int .i64 z9, .int .i64 z10, .slice b11 n11 d11] 27) := by rw [eu]; exact heap_alloc2_new w _ _
  have kA := fun j => cell_of_row u w.heap.size j _ _ _ r0
  have kB := fun j => cell_of_row u (w.heap.size + 1) j _ _ _ r1
  have kA0 : ∀ m, (u.drewN m).cell? ⟨w.heap.size, 0, none⟩ = some (.int .i64 z0) := fun m => kA 0
  have kB0 : ∀ m, (u.drewN m).cell? ⟨w.heap.size + 1, 0, none⟩ = some (.int .i64 z0) := fun m => kB 0
  have kA1 : ∀ m, (u.drewN m).cell? ⟨w.heap.size, 1, none⟩ = some (.slice a1 n1 c1) := fun m => kA 1
  have kB1 : ∀ m, (u.drewN m).cell? ⟨w.heap.size + 1, 1, none⟩ = some (.slice b1 n1 d1) := fun m => kB 1
  have kA2 : ∀ m, (u.drewN m).cell? ⟨w.heap.size, 2, none⟩ = some (.int .i64 z2) := fun m => kA 2
  have kB2 : ∀ m, (u.drewN m).cell? ⟨w.heap.size + 1, 2, none⟩ = some (.int .i64 z2) := fun m => kB 2
  have kA3 : ∀ m, (u.drewN m).cell? ⟨w.heap.size, 3, none⟩ = some (.int .i64 z3) := fun m => kA 3
  have kB3 : ∀ m, (u.drewN m).cell? ⟨w.heap.size + 1, 3, none⟩ = some (.int .i64 z3) := fun m => kB 3
  have kA4 : ∀ m, (u.drewN m).cell? ⟨w.heap.size, 4, none⟩ = some (.int .i64 z4) := fun m => kA 4
  have kB4 : ∀ m, (u.drewN m).cell? ⟨w.heap.size + 1, 4, none⟩ = some (.int .i64 z4) := fun m => kB 4
  have kA5 : ∀ m, (u.drewN m).cell? ⟨w.heap.size, 5, none⟩ = some (.int .i64 z5) := fun m => kA 5
  have kB5 : ∀ m, (u.drewN m).cell? ⟨w.heap.size + 1, 5, none⟩ = some (.int .i64 z5) := fun m => kB 5
  have kA6 : ∀ m, (u.drewN m).cell? ⟨w.heap.size, 6, none⟩ = some (.int .i64 z6) := fun m => kA 6
  have kB6 : ∀ m, (u.drewN m).cell? ⟨w.heap.size + 1, 6, none⟩ = some (.int .i64 z6) := fun m => kB 6
  have kA7 : ∀ m, (u.drewN m).cell? ⟨w.heap.size, 7, none⟩ = some (.string z7) := fun m => kA 7
  have kB7 : ∀ m, (u.drewN m).cell? ⟨w.heap.size + 1, 7, none⟩ = some (.string z7) := fun m => kB 7
  have kA8 : ∀ m, (u.drewN m).cell? ⟨w.heap.size, 8, none⟩ = some (.string z8) := fun m => kA 8
  have kB8 : ∀ m, (u.drewN m).cell? ⟨w.heap.size + 1, 8, none⟩ = some (.string z8) := fun m => kB 8
  have kA9 : ∀ m, (u.drewN m).cell? ⟨w.heap.size, 9, none⟩ = some (.int .i64 z9) := fun m => kA 9
  have kB9 : ∀ m, (u.drewN m).cell? ⟨w.heap.size + 1, 9, none⟩ = some (.int .i64 z9) := fun m => kB 9
  have kA10 : ∀ m, (u.drewN m).cell? ⟨w.heap.size, 10, none⟩ = some (.int .i64 z10) := fun m => kA 10
  have kB10 : ∀ m, (u.drewN m).cell? ⟨w.heap.size + 1, 10, none⟩ = some (.int .i64 z10) := fun m => kB 10
  have kA11 : ∀ m, (u.drewN m).cell? ⟨w.heap.size, 11, none⟩ = some (.slice a11 n11 c11) := fun m => kA 11
  have kB11 : ∀ m, (u.drewN m).cell? ⟨w.heap.size + 1, 11, none⟩ = some (.slice b11 n11 d11) := fun m => kB 11
  have EU := hide eu.symm
  clear hp hp' hm hm' hP hP' kp km hb s1 s2 eu r0 r1 kA kB
  go_enter Try.func11, Try.ntmps11
  go_upto_region 1 with fail
  rw [EU.out]
  clear EU
  have x0 : u.cell? ⟨w.heap.size, 0, none⟩ = some (.int .i64 z0) := kA0 0
  have y0 : u.cell? ⟨w.heap.size + 1, 0, none⟩ = some (.int .i64 z0) := kB0 0
  have x1 : u.cell? ⟨w.heap.size, 1, none⟩ = some (.slice a1 n1 c1) := kA1 0
  have y1 : u.cell? ⟨w.heap.size + 1, 1, none⟩ = some (.slice b1 n1 d1) := kB1 0
  go_wp2_with fail
  refine CP.out.mono ?_
  rintro e w1 ⟨rfl, m1, rfl⟩
  go_wp2_with fail
  refine (plain_mark (MM.out m1).1 (MM.out m1).2 KM.out l11).mono ?_
  rintro e w2 ⟨rfl, m2, e2⟩
  have D2 : Hid (Below w.heap.size w w2) := by rw [e2]; exact below_drewN (below_drewN BU.out m1) m2
  clear e2
  go_wp2_with fail
  go_ret
  exact ⟨rfl, D2.out⟩
theorem ext0 {cs : Array Value} {v : Value} (hs : cs.size = 12) (h : (cs.extract 0 1)[0]? = some v) : cs[0]? = some v := by
  rw [Array.getElem?_extract] at h
  simpa [hs] using h
theorem ext1 {cs : Array Value} {j : Nat} {v : Value} (hs : cs.size = 12) (h : (cs.extract 2 11)[j]? = some v) : cs[2 + j]? = some v := by
  rw [Array.getElem?_extract] at h
  split at h
  · exact h
  · cases h
theorem ChtV.vals0 {w : World} {P : Nat → Prop} {cs : Array Value} {x : Cht} (h : ChtV w P cs x) : Vals w P (cs.extract 0 1) x.x0 := ⟨by rw [Array.size_extract, h.size, h.l0]; rfl, fun j y hy => by
  obtain ⟨v, e1, e2⟩ := h.f0 j y hy
  have hj : j < 1 := by have := (List.getElem?_eq_some_iff.1 hy).1; have := h.l0; omega
  refine ⟨v, ?_, e2⟩
  rw [Array.getElem?_extract, h.size, if_pos (by omega), Nat.zero_add]
  exact e1⟩
theorem ChtV.vals1 {w : World} {P : Nat → Prop} {cs : Array Value} {x : Cht} (h : ChtV w P cs x) : Vals w P (cs.extract 2 11) x.x1 := ⟨by rw [Array.size_extract, h.size, h.l1]; rfl, fun j y hy => by
  obtain ⟨v, e1, e2⟩ := h.f1 j y hy
  have hj : j < 9 := by have := (List.getElem?_eq_some_iff.1 hy).1; have := h.l1; omega
  refine ⟨v, ?_, e2⟩
  rw [Array.getElem?_extract, h.size, if_pos (by omega)]
  exact e1⟩
theorem same_chart {w : World} {P P' : Nat → Prop} {cs cs' : Array Value} {x : Cht} (h : ChtV w P cs x) (h' : ChtV w P' cs' x) (hk : ChtK x) (hP : ∀ b, P b → b < w.heap.size) (hP' : ∀ b, P' b → b < w.heap.size) (l1 : x.ps.length ≤ 140737488355328) (l2 : x.ms.length ≤ 140737488355328) :
    Calls Try.prog 11 #[.agg cs, .agg cs'] w fun e w' => e = .returned (.bool true) ∧ Below w.heap.size w w' := by
  obtain ⟨a1, n1, c1, p1, lp⟩ := h.ps
  obtain ⟨b1, n1', d1, q1, lp'⟩ := h'.ps
  obtain ⟨a11, n11, c11, p11, lm⟩ := h.ms
  obtain ⟨b11, n11', d11, q11, lm'⟩ := h'.ms
  obtain rfl : n1 = n1' := lp.length.symm.trans lp'.length
  obtain rfl : n11 = n11' := lm.length.symm.trans lm'.length
  have V0 := h.vals0
  have V0' := h'.vals0
  have V1 := h.vals1
  have V1' := h'.vals1
  obtain ⟨z0, p0, q0⟩ := pair_int V0 V0' hk.k0 0 rfl
  obtain ⟨z2, p2, q2⟩ := pair_int V1 V1' hk.k1 0 rfl
  obtain ⟨z3, p3, q3⟩ := pair_int V1 V1' hk.k1 1 rfl
  obtain ⟨z4, p4, q4⟩ := pair_int V1 V1' hk.k1 2 rfl
  obtain ⟨z5, p5, q5⟩ := pair_int V1 V1' hk.k1 3 rfl
  obtain ⟨z6, p6, q6⟩ := pair_int V1 V1' hk.k1 4 rfl
  obtain ⟨z7, p7, q7⟩ := pair_str V1 V1' hk.k1 5 rfl
  obtain ⟨z8, p8, q8⟩ := pair_str V1 V1' hk.k1 6 rfl
  obtain ⟨z9, p9, q9⟩ := pair_int V1 V1' hk.k1 7 rfl
  obtain ⟨z10, p10, q10⟩ := pair_int V1 V1' hk.k1 8 rfl
  have s1 := h.size
  have s2 := h'.size
  obtain rfl : cs = #[.int .i64 z0, .slice a1 n1 c1, .int .i64 z2, .int .i64 z3, .int .i64 z4, .int .i64 z5, .int .i64 z6, .string z7, .string z8, .int .i64 z9, .int .i64 z10, .slice a11 n11 c11] := Array.ext_getElem? (fun j => match j with | 0 => ext0 s1 p0 | 1 => p1 | 2 => ext1 s1 p2 | 3 => ext1 s1 p3 | 4 => ext1 s1 p4 | 5 => ext1 s1 p5 | 6 => ext1 s1 p6 | 7 => ext1 s1 p7 | 8 => ext1 s1 p8 | 9 => ext1 s1 p9 | 10 => ext1 s1 p10 | 11 => p11 | j + 12 => by rw [Array.getElem?_eq_none (by omega), Array.getElem?_eq_none (by simp)])
  obtain rfl : cs' = #[.int .i64 z0, .slice b1 n1 d1, .int .i64 z2, .int .i64 z3, .int .i64 z4, .int .i64 z5, .int .i64 z6, .string z7, .string z8, .int .i64 z9, .int .i64 z10, .slice b11 n11 d11] := Array.ext_getElem? (fun j => match j with | 0 => ext0 s2 q0 | 1 => q1 | 2 => ext1 s2 q2 | 3 => ext1 s2 q3 | 4 => ext1 s2 q4 | 5 => ext1 s2 q5 | 6 => ext1 s2 q6 | 7 => ext1 s2 q7 | 8 => ext1 s2 q8 | 9 => ext1 s2 q9 | 10 => ext1 s2 q10 | 11 => q11 | j + 12 => by rw [Array.getElem?_eq_none (by omega), Array.getElem?_eq_none (by simp)])
  exact same_chart_lit z0 z2 z3 z4 z5 z6 z7 z8 z9 z10 lp lp' lm lm' hP hP' hk.kp hk.km (by rw [← lp.length]; exact l1) (by rw [← lm.length]; exact l2)
end Go.Proofs.Ytjhcedgncdcpjaa
