/- The law folder's Account and Accounts of two that hold the same answers true. No condition. -/
import Derived.Test.YthklpkmdmkgjiaaGreatJP
import Derived.Test.YthklpkmdmkgjiaaGreatFWireVLAccount
import Derived.Test.YthklpkmdmkgjiaaGreatJA
import Derived.Deep.RegionHeld3
import Derived.Deep.Cut
namespace Go.Proofs.YthklpkmdmkgjiaaGreat
open Go.ChangeShapes Go.WideShapes Go.ChangeAt Go.RowKit B8 Cm Wm
set_option linter.unusedVariables false

/-- cells as values -/
theorem cvals {w : World} {P : Nat → Prop} {c : Nat → Option Value} {o : Nat} {xs : List Atom} (h : ∀ (j : Nat) (y : Atom), xs[j]? = some y → ∃ v, c (o + j) = some v ∧ AtomV w P v y) : ∃ cs : Array Value, Vals w P cs xs ∧ ∀ j v, cs[j]? = some v → c (o + j) = some v := by
  have hget : ∀ j, j < xs.length → ((List.range xs.length).map fun j => (c (o + j)).getD undef).toArray[j]? = c (o + j) := fun j hj => by
    obtain ⟨v, h1, _⟩ := h j _ (List.getElem?_eq_getElem hj)
    rw [List.getElem?_toArray, List.getElem?_map, List.getElem?_range hj]
    simp [h1]
  refine ⟨((List.range xs.length).map fun j => (c (o + j)).getD undef).toArray, ⟨by simp, fun j y hy => ?_⟩, fun j v hv => ?_⟩
  · obtain ⟨v, h1, h2⟩ := h j y hy
    exact ⟨v, (hget j (List.getElem?_eq_some_iff.1 hy).1).trans h1, h2⟩
  · have hj : j < xs.length := by have := (Array.getElem?_eq_some_iff.1 hv).1; simpa using this
    rw [hget j hj] at hv
    exact hv
set_option maxRecDepth 100000 in
set_option maxHeartbeats 8000000 in
theorem same_account_lit {w : World} {P P' : Nat → Prop} (z0 : ByteArray) (z1 : Int) (z2 : Int) (z3 : Int) (z4 : Int) (z6 : Int) (z7 : Int) (z8 : Int) (z9 : Int) {a5 b5 : Option Addr} {n5 c5 d5 : Nat} {hs : List (List Atom)} (hh : Ls w P a5 n5 c5 4 hs) (hh' : Ls w P' b5 n5 d5 4 hs) (kh : ∀ xs ∈ hs, xs.map Atom.k = [0, 0, 0, 0]) (l5 : n5 ≤ 140737488355328) (hP : ∀ b, P b → b < w.heap.size) (hP' : ∀ b, P' b → b < w.heap.size) :
    Calls Tryz.prog 61 #[.agg #[.string z0, .int .i64 z1, .int .i64 z2, .int .i64 z3, .int .i64 z4, .slice a5 n5 c5, .int .i64 z6, .int .i64 z7, .int .i64 z8, .int .i64 z9], .agg #[.string z0, .int .i64 z1, .int .i64 z2, .int .i64 z3, .int .i64 z4, .slice b5 n5 d5, .int .i64 z6, .int .i64 z7, .int .i64 z8, .int .i64 z9]] w fun e w' => e = .returned (.bool true) ∧ Below w.heap.size w w' := by
  obtain ⟨u, eu⟩ : ∃ u, u = (w.alloc (.cells #[.string z0, .int .i64 z1, .int .i64 z2, .int .i64 z3, .int .i64 z4, .slice a5 n5 c5, .int .i64 z6, .int .i64 z7, .int .i64 z8, .int .i64 z9] 94)).alloc (.cells #[.string z0, .int .i64 z1, .int .i64 z2, .int .i64 z3, .int .i64 z4, .slice b5 n5 d5, .int .i64 z6, .int .i64 z7, .int .i64 z8, .int .i64 z9] 94) := ⟨_, rfl⟩
  have hb : Below w.heap.size w u := by rw [eu]; exact below_alloc (below_alloc (Below.refl w.heap.size w) _) _
  have su : w.heap.size + 2 = u.heap.size := by rw [eu]; simp
  have r0 : u.heap[w.heap.size]? = some (.cells #[.string z0, .int .i64 z1, .int .i64 z2, .int .i64 z3, .int .i64 z4, .slice a5 n5 c5, .int .i64 z6, .int .i64 z7, .int .i64 z8, .int .i64 z9] 94) := by rw [eu]; exact heap_alloc2_old w _ _
  have r1 : u.heap[w.heap.size + 1]? = some (.cells #[.string z0, .int .i64 z1, .int .i64 z2, .int .i64 z3, .int .i64 z4, .slice b5 n5 d5, .int .i64 z6, .int .i64 z7, .int .i64 z8, .int .i64 z9] 94) := by rw [eu]; exact heap_alloc2_new w _ _
  have s1 : ∀ v, Below u.heap.size u v → ∀ b, P b → P b ∧ v.heap[b]? = w.heap[b]? := fun v hv b h => ⟨h, (hv.block b (by have := hP b h; omega)).trans (hb.block b (hP b h))⟩
  have s2 : ∀ v, Below u.heap.size u v → ∀ b, P' b → P' b ∧ v.heap[b]? = w.heap[b]? := fun v hv b h => ⟨h, (hv.block b (by have := hP' b h; omega)).trans (hb.block b (hP' b h))⟩
  have lw : ∀ v, Below u.heap.size u v → w.heap.size ≤ v.heap.size := fun v hv => by have := hv.size; omega
  have C0 : Hid (∀ v, Below u.heap.size u v → Calls Tryz.prog 79 #[.slice a5 n5 c5, .slice b5 n5 d5] v fun e w' => e = .returned (.bool true) ∧ Below v.heap.size v w') := fun v hq => (plain_holder (hh.same (s1 v hq)) (hh'.same (s2 v hq)) kh l5).mono fun e w' ⟨h1, m, h2⟩ => ⟨h1, by rw [h2]; exact below_drewN (Below.refl _ _) m⟩
  have BU := hide hb
  have kA : ∀ v, Below u.heap.size u v → ∀ j, v.cell? ⟨w.heap.size, j, none⟩ = (#[.string z0, .int .i64 z1, .int .i64 z2, .int .i64 z3, .int .i64 z4, .slice a5 n5 c5, .int .i64 z6, .int .i64 z7, .int .i64 z8, .int .i64 z9] : Array Value)[j]? := fun v hv j => (hv.cell (p := ⟨w.heap.size, j, none⟩) (by show w.heap.size < _; omega)).trans (cell_of_row u w.heap.size j _ _ _ r0)
  have kB : ∀ v, Below u.heap.size u v → ∀ j, v.cell? ⟨w.heap.size + 1, j, none⟩ = (#[.string z0, .int .i64 z1, .int .i64 z2, .int .i64 z3, .int .i64 z4, .slice b5 n5 d5, .int .i64 z6, .int .i64 z7, .int .i64 z8, .int .i64 z9] : Array Value)[j]? := fun v hv j => (hv.cell (p := ⟨w.heap.size + 1, j, none⟩) (by show w.heap.size + 1 < _; omega)).trans (cell_of_row u (w.heap.size + 1) j _ _ _ r1)
  have KA := hide kA
  have KB := hide kB
  have EU := hide eu.symm
  clear hh hh' kh l5 hP hP' hb s1 s2 eu r0 r1 kA kB lw su
  go_enter Tryz.func61, Tryz.ntmps61
  go_upto_region 1 with fail
  rw [EU.out]
  clear EU
  have x0 : u.cell? ⟨w.heap.size, 0, none⟩ = some (.string z0) := KA.out u (Below.refl _ _) 0
  have y0 : u.cell? ⟨w.heap.size + 1, 0, none⟩ = some (.string z0) := KB.out u (Below.refl _ _) 0
  have x1 : u.cell? ⟨w.heap.size, 1, none⟩ = some (.int .i64 z1) := KA.out u (Below.refl _ _) 1
  have y1 : u.cell? ⟨w.heap.size + 1, 1, none⟩ = some (.int .i64 z1) := KB.out u (Below.refl _ _) 1
  have x2 : u.cell? ⟨w.heap.size, 2, none⟩ = some (.int .i64 z2) := KA.out u (Below.refl _ _) 2
  have y2 : u.cell? ⟨w.heap.size + 1, 2, none⟩ = some (.int .i64 z2) := KB.out u (Below.refl _ _) 2
  have x3 : u.cell? ⟨w.heap.size, 3, none⟩ = some (.int .i64 z3) := KA.out u (Below.refl _ _) 3
  have y3 : u.cell? ⟨w.heap.size + 1, 3, none⟩ = some (.int .i64 z3) := KB.out u (Below.refl _ _) 3
  have x4 : u.cell? ⟨w.heap.size, 4, none⟩ = some (.int .i64 z4) := KA.out u (Below.refl _ _) 4
  have y4 : u.cell? ⟨w.heap.size + 1, 4, none⟩ = some (.int .i64 z4) := KB.out u (Below.refl _ _) 4
  have x5 : u.cell? ⟨w.heap.size, 5, none⟩ = some (.slice a5 n5 c5) := KA.out u (Below.refl _ _) 5
  have y5 : u.cell? ⟨w.heap.size + 1, 5, none⟩ = some (.slice b5 n5 d5) := KB.out u (Below.refl _ _) 5
  go_wp2_with fail
  refine (C0.out u (Below.refl _ _)).mono ?_
  rintro e w1 ⟨rfl, hq1⟩
  have Q1 := hide hq1
  clear hq1 x0 y0 x1 y1 x2 y2 x3 y3 x4 y4 x5 y5
  have x6 : w1.cell? ⟨w.heap.size, 6, none⟩ = some (.int .i64 z6) := KA.out w1 Q1.out 6
  have y6 : w1.cell? ⟨w.heap.size + 1, 6, none⟩ = some (.int .i64 z6) := KB.out w1 Q1.out 6
  have x7 : w1.cell? ⟨w.heap.size, 7, none⟩ = some (.int .i64 z7) := KA.out w1 Q1.out 7
  have y7 : w1.cell? ⟨w.heap.size + 1, 7, none⟩ = some (.int .i64 z7) := KB.out w1 Q1.out 7
  have x8 : w1.cell? ⟨w.heap.size, 8, none⟩ = some (.int .i64 z8) := KA.out w1 Q1.out 8
  have y8 : w1.cell? ⟨w.heap.size + 1, 8, none⟩ = some (.int .i64 z8) := KB.out w1 Q1.out 8
  have x9 : w1.cell? ⟨w.heap.size, 9, none⟩ = some (.int .i64 z9) := KA.out w1 Q1.out 9
  have y9 : w1.cell? ⟨w.heap.size + 1, 9, none⟩ = some (.int .i64 z9) := KB.out w1 Q1.out 9
  go_wp2_with fail
  go_ret
  exact ⟨rfl, below_step BU.out Q1.out⟩
theorem same_account {w : World} {P P' : Nat → Prop} {cs cs' : Array Value} {x : Acc} (h : AccC w P (fun q => cs[q]?) x) (h' : AccC w P' (fun q => cs'[q]?) x) (hk : AccK x) (hs : cs.size = 10) (hs' : cs'.size = 10) (hP : ∀ b, P b → b < w.heap.size) (hP' : ∀ b, P' b → b < w.heap.size) (l1 : x.hs.length ≤ 140737488355328) :
    Calls Tryz.prog 61 #[.agg cs, .agg cs'] w fun e w' => e = .returned (.bool true) ∧ Below w.heap.size w w' := by
  obtain ⟨a5, n5, c5, p5, lv⟩ := h.hs
  obtain ⟨b5, n5', d5, q5, lv'⟩ := h'.hs
  obtain rfl : n5 = n5' := lv.length.symm.trans lv'.length
  have p5 : cs[5]? = _ := p5
  have q5 : cs'[5]? = _ := q5
  obtain ⟨u0, U0, eU0⟩ := cvals (o := 0) (fun j y hy => by rw [Nat.zero_add]; exact h.f0 j y hy)
  obtain ⟨v0, V0, eV0⟩ := cvals (o := 0) (fun j y hy => by rw [Nat.zero_add]; exact h'.f0 j y hy)
  obtain ⟨u1, U1, eU1⟩ := cvals (o := 6) h.f1
  obtain ⟨v1, V1, eV1⟩ := cvals (o := 6) h'.f1
  obtain ⟨z0, p0, q0⟩ := pair_str U0 V0 hk.k0 0 rfl
  have p0 : cs[0]? = _ := eU0 0 _ p0
  have q0 : cs'[0]? = _ := eV0 0 _ q0
  obtain ⟨z1, p1, q1⟩ := pair_int U0 V0 hk.k0 1 rfl
  have p1 : cs[1]? = _ := eU0 1 _ p1
  have q1 : cs'[1]? = _ := eV0 1 _ q1
  obtain ⟨z2, p2, q2⟩ := pair_int U0 V0 hk.k0 2 rfl
  have p2 : cs[2]? = _ := eU0 2 _ p2
  have q2 : cs'[2]? = _ := eV0 2 _ q2
  obtain ⟨z3, p3, q3⟩ := pair_int U0 V0 hk.k0 3 rfl
  have p3 : cs[3]? = _ := eU0 3 _ p3
  have q3 : cs'[3]? = _ := eV0 3 _ q3
  obtain ⟨z4, p4, q4⟩ := pair_int U0 V0 hk.k0 4 rfl
  have p4 : cs[4]? = _ := eU0 4 _ p4
  have q4 : cs'[4]? = _ := eV0 4 _ q4
  obtain ⟨z6, p6, q6⟩ := pair_int U1 V1 hk.k1 0 rfl
  have p6 : cs[6]? = _ := eU1 0 _ p6
  have q6 : cs'[6]? = _ := eV1 0 _ q6
  obtain ⟨z7, p7, q7⟩ := pair_int U1 V1 hk.k1 1 rfl
  have p7 : cs[7]? = _ := eU1 1 _ p7
  have q7 : cs'[7]? = _ := eV1 1 _ q7
  obtain ⟨z8, p8, q8⟩ := pair_int U1 V1 hk.k1 2 rfl
  have p8 : cs[8]? = _ := eU1 2 _ p8
  have q8 : cs'[8]? = _ := eV1 2 _ q8
  obtain ⟨z9, p9, q9⟩ := pair_int U1 V1 hk.k1 3 rfl
  have p9 : cs[9]? = _ := eU1 3 _ p9
  have q9 : cs'[9]? = _ := eV1 3 _ q9
  obtain rfl : cs = #[.string z0, .int .i64 z1, .int .i64 z2, .int .i64 z3, .int .i64 z4, .slice a5 n5 c5, .int .i64 z6, .int .i64 z7, .int .i64 z8, .int .i64 z9] := Array.ext_getElem? (fun j => match j with | 0 => p0 | 1 => p1 | 2 => p2 | 3 => p3 | 4 => p4 | 5 => p5 | 6 => p6 | 7 => p7 | 8 => p8 | 9 => p9 | j + 10 => by rw [Array.getElem?_eq_none (by omega), Array.getElem?_eq_none (by simp)])
  obtain rfl : cs' = #[.string z0, .int .i64 z1, .int .i64 z2, .int .i64 z3, .int .i64 z4, .slice b5 n5 d5, .int .i64 z6, .int .i64 z7, .int .i64 z8, .int .i64 z9] := Array.ext_getElem? (fun j => match j with | 0 => q0 | 1 => q1 | 2 => q2 | 3 => q3 | 4 => q4 | 5 => q5 | 6 => q6 | 7 => q7 | 8 => q8 | 9 => q9 | j + 10 => by rw [Array.getElem?_eq_none (by omega), Array.getElem?_eq_none (by simp)])
  exact same_account_lit z0 z1 z2 z3 z4 z6 z7 z8 z9 lv lv' hk.kh (by rw [← lv.length]; exact l1) hP hP'
theorem call_Account (args : Array Value) (w : World) : (callFunc 61 args).run Tryz.prog w = .ok (.enter 61 args) w := by kernel_rfl
theorem row_stays {w u : World} {b off d : Nat} {cs : List Value} {i : Nat} (hb : Below w.heap.size w u) (hlt : b < w.heap.size) (hc : ∀ j v, cs[j]? = some v → w.cell? ⟨b, off + i * d + j, none⟩ = some v) : ∀ j v, cs[j]? = some v → u.cell? ⟨b, off + i * d + j, none⟩ = some v := fun j v hv => (hb.cell (p := ⟨b, off + i * d + j, none⟩) hlt).trans (hc j v hv)

set_option maxRecDepth 100000 in
set_option maxHeartbeats 8000000 in
theorem same_accounts {w : World} {P P' : Nat → Prop} {a a' : Option Addr} {n cp cp' : Nat} {xss : List Acc} (h : La w P a n cp xss) (h' : La w P' a' n cp' xss) (hP : ∀ b, P b → b < w.heap.size) (hP' : ∀ b, P' b → b < w.heap.size) (hk : ∀ xs ∈ xss, AccK xs) (hl : ∀ xs ∈ xss, xs.hs.length ≤ 140737488355328) (hn : n ≤ 140737488355328) :
    Calls Tryz.prog 60 #[.slice a n cp, .slice a' n cp', .func (.func 61) #[] #[]] w fun e w' => e = .returned (.bool true) ∧ Below w.heap.size w w' := by
  have H := hide h
  have H' := hide h'
  have HP := hide hP
  have HP' := hide hP'
  have HK := hide hk
  have HLH := hide hl
  have HL := hide h.length
  have cc := call_Account
  clear h h' hk hP hP' hl
  go_enter Tryz.func60, Tryz.ntmps60
  go_wp2_with fail
  go_loopw [7] (fun i wr => ∃ k : Nat, k ≤ n ∧ i = .int .i64 k ∧ Hid (Below w.heap.size w wr)) (fun i _ => n - (intOf i).toNat)
  case atStart => exact ⟨0, Nat.zero_le _, rfl, Below.refl _ _⟩
  case round =>
    obtain ⟨k, hk, rfl, HW⟩ := hrel
    by_cases hlt : k < n
    · have i1 : (k : Int) < (n : Int) := by omega
      have i2 : (0 : Int) ≤ (k : Int) := by omega
      obtain ⟨xs, hx⟩ : ∃ xs, xss[k]? = some xs := ⟨_, List.getElem?_eq_getElem (by rw [HL.out]; exact hlt)⟩
      have hkx := HK.out xs (List.mem_of_getElem? hx)
      have hlx := HLH.out xs (List.mem_of_getElem? hx)
      obtain ⟨b, off, cs, rfl, hp, hcl, hc, hv⟩ := H.out.row HK.out hx (by omega)
      obtain ⟨b', off', cs', rfl, hp', hcl', hc', hv'⟩ := H'.out.row HK.out hx (by omega)
      have lb := HP.out b hp
      have lb' := HP'.out b' hp'
      obtain ⟨v0, v1, v2, v3, v4, v5, v6, v7, v8, v9, rfl⟩ : ∃ v0 v1 v2 v3 v4 v5 v6 v7 v8 v9, cs = [v0, v1, v2, v3, v4, v5, v6, v7, v8, v9] := by
        match cs, hcl with
        | [v0, v1, v2, v3, v4, v5, v6, v7, v8, v9], _ => exact ⟨_, _, _, _, _, _, _, _, _, _, rfl⟩
      obtain ⟨u0, u1, u2, u3, u4, u5, u6, u7, u8, u9, rfl⟩ : ∃ v0 v1 v2 v3 v4 v5 v6 v7 v8 v9, cs' = [v0, v1, v2, v3, v4, v5, v6, v7, v8, v9] := by
        match cs', hcl' with
        | [v0, v1, v2, v3, v4, v5, v6, v7, v8, v9], _ => exact ⟨_, _, _, _, _, _, _, _, _, _, rfl⟩
      have S : Hid (∀ u : World, Below w.heap.size w u → Calls Tryz.prog 61 #[.agg #[v0, v1, v2, v3, v4, v5, v6, v7, v8, v9], .agg #[u0, u1, u2, u3, u4, u5, u6, u7, u8, u9]] u fun e u' => e = .returned (.bool true) ∧ Below u.heap.size u u') := fun u hb =>
        same_account (P := fun b => b < w.heap.size) (P' := fun b => b < w.heap.size) (hv.same (fun q _ => by simp) hkx fun b h => ⟨HP.out b h, hb.block b (HP.out b h)⟩) (hv'.same (fun q _ => by simp) hkx fun b h => ⟨HP'.out b h, hb.block b (HP'.out b h)⟩) hkx rfl rfl (fun b h => Nat.lt_of_lt_of_le h hb.size) (fun b h => Nat.lt_of_lt_of_le h hb.size) hlx
      have K : ∀ u : World, Below w.heap.size w u → (u.cell? ⟨b, off + k * 10, none⟩ = some v0 ∧ u.cell? ⟨b, off + k * 10 + 1, none⟩ = some v1 ∧ u.cell? ⟨b, off + k * 10 + 2, none⟩ = some v2 ∧ u.cell? ⟨b, off + k * 10 + 3, none⟩ = some v3 ∧ u.cell? ⟨b, off + k * 10 + 4, none⟩ = some v4 ∧ u.cell? ⟨b, off + k * 10 + 5, none⟩ = some v5 ∧ u.cell? ⟨b, off + k * 10 + 6, none⟩ = some v6 ∧ u.cell? ⟨b, off + k * 10 + 7, none⟩ = some v7 ∧ u.cell? ⟨b, off + k * 10 + 8, none⟩ = some v8 ∧ u.cell? ⟨b, off + k * 10 + 9, none⟩ = some v9) ∧ (u.cell? ⟨b', off' + k * 10, none⟩ = some u0 ∧ u.cell? ⟨b', off' + k * 10 + 1, none⟩ = some u1 ∧ u.cell? ⟨b', off' + k * 10 + 2, none⟩ = some u2 ∧ u.cell? ⟨b', off' + k * 10 + 3, none⟩ = some u3 ∧ u.cell? ⟨b', off' + k * 10 + 4, none⟩ = some u4 ∧ u.cell? ⟨b', off' + k * 10 + 5, none⟩ = some u5 ∧ u.cell? ⟨b', off' + k * 10 + 6, none⟩ = some u6 ∧ u.cell? ⟨b', off' + k * 10 + 7, none⟩ = some u7 ∧ u.cell? ⟨b', off' + k * 10 + 8, none⟩ = some u8 ∧ u.cell? ⟨b', off' + k * 10 + 9, none⟩ = some u9) := fun u hb =>
        ⟨⟨row_stays hb lb hc 0 v0 rfl, row_stays hb lb hc 1 v1 rfl, row_stays hb lb hc 2 v2 rfl, row_stays hb lb hc 3 v3 rfl, row_stays hb lb hc 4 v4 rfl, row_stays hb lb hc 5 v5 rfl, row_stays hb lb hc 6 v6 rfl, row_stays hb lb hc 7 v7 rfl, row_stays hb lb hc 8 v8 rfl, row_stays hb lb hc 9 v9 rfl⟩, ⟨row_stays hb lb' hc' 0 u0 rfl, row_stays hb lb' hc' 1 u1 rfl, row_stays hb lb' hc' 2 u2 rfl, row_stays hb lb' hc' 3 u3 rfl, row_stays hb lb' hc' 4 u4 rfl, row_stays hb lb' hc' 5 u5 rfl, row_stays hb lb' hc' 6 u6 rfl, row_stays hb lb' hc' 7 u7 rfl, row_stays hb lb' hc' 8 u8 rfl, row_stays hb lb' hc' 9 u9 rfl⟩⟩
      obtain ⟨⟨c0, c1, c2, c3, c4, c5, c6, c7, c8, c9⟩, d0, d1, d2, d3, d4, d5, d6, d7, d8, d9⟩ := K wr HW.out
      clear hc hc' hv hv' hx hkx hlx hp hp' K lb lb' hcl hcl'
      go_wp2_with fail
      refine wp_region_cells w [(⟨b, off + k * 10, none⟩, v0), (⟨b, off + k * 10 + 1, none⟩, v1), (⟨b, off + k * 10 + 2, none⟩, v2), (⟨b, off + k * 10 + 3, none⟩, v3), (⟨b, off + k * 10 + 4, none⟩, v4), (⟨b, off + k * 10 + 5, none⟩, v5), (⟨b, off + k * 10 + 6, none⟩, v6), (⟨b, off + k * 10 + 7, none⟩, v7), (⟨b, off + k * 10 + 8, none⟩, v8), (⟨b, off + k * 10 + 9, none⟩, v9), (⟨b', off' + k * 10, none⟩, u0), (⟨b', off' + k * 10 + 1, none⟩, u1), (⟨b', off' + k * 10 + 2, none⟩, u2), (⟨b', off' + k * 10 + 3, none⟩, u3), (⟨b', off' + k * 10 + 4, none⟩, u4), (⟨b', off' + k * 10 + 5, none⟩, u5), (⟨b', off' + k * 10 + 6, none⟩, u6), (⟨b', off' + k * 10 + 7, none⟩, u7), (⟨b', off' + k * 10 + 8, none⟩, u8), (⟨b', off' + k * 10 + 9, none⟩, u9)] (by kernel_rfl) (by kernel_rfl) HW.out (by simp [AllCells, c0, c1, c2, c3, c4, c5, c6, c7, c8, c9, d0, d1, d2, d3, d4, d5, d6, d7, d8, d9]) ?_
      intro hne q
      simp only [AllCells, and_true] at q
      clear c0 c1 c2 c3 c4 c5 c6 c7 c8 c9 d0 d1 d2 d3 d4 d5 d6 d7 d8 d9
      repeat (go_big_quiet_step (first | (go_at_call 61; exact Held.call _ (S.out _ (Held.below _)))))
      refine wpQuiet_nil ?_
      rintro _ ⟨y, rfl⟩
      have BQ : Hid (Below w.heap.size w y.x) := y.below
      clear q hne
      go_wp2_with fail
      go_roundw
      case rel => exact ⟨k + 1, by omega, by go_num, BQ⟩
      case measure => simp [intOf]; omega
    · go_wp2_with fail
      go_ret
      exact ⟨rfl, HW.out⟩
theorem Accounts_same {w : World} {P P' : Nat → Prop} {a a' : Option Addr} {n cp cp' : Nat} {xss : List Acc} (h : La w P a n cp xss) (h' : La w P' a' n cp' xss) (hP : ∀ b, P b → b < w.heap.size) (hP' : ∀ b, P' b → b < w.heap.size) (hk : ∀ xs ∈ xss, AccK xs) (hl : ∀ xs ∈ xss, xs.hs.length ≤ 140737488355328) (hn : n ≤ 140737488355328) :
    Calls Tryz.prog 22 #[.slice a n cp, .slice a' n cp'] w fun e w' => e = .returned (.bool true) ∧ Below w.heap.size w w' := by
  have C := hide (same_accounts h h' hP hP' hk hl hn)
  clear h h' hP hP' hk hl
  go_enter Tryz.func22, Tryz.ntmps22
  go_wp2_with fail
  refine C.out.mono ?_
  rintro e w1 ⟨rfl, hb⟩
  go_wp2_with fail
  go_ret
  exact ⟨rfl, hb⟩
end Go.Proofs.YthklpkmdmkgjiaaGreat
