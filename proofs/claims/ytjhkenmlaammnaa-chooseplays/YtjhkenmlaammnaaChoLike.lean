/- The law folder's Votes and alike, of promises that are alike. No condition but a size. -/
import Derived.Test.YtjhkenmlaammnaaChoSame
import Derived.Test.YtjhkenmlaammnaaChoRight
namespace Go.Proofs.Ytjhkenmlaammnaa
open Go.ChangeShapes Go.WideShapes Go.ChangeAt Go.RowKit Go.Shelf B8 Am Cz
set_option linter.unusedVariables false

set_option maxRecDepth 100000 in
theorem vote_likes {w : World} {s r n : Int} {a a' : Option Addr} {m m' cp cp' : Nat} {b : List Int} (hp : Sq w a m cp b) (hq : Sq w a' m' cp' b) (hm : m ≤ 140737488351232) :
    Calls Try.prog 67 #[.agg #[.int .i64 s, .int .i64 r, .int .i64 n, .slice a m cp], .agg #[.int .i64 s, .int .i64 r, .int .i64 n, .slice a' m' cp']] w fun e w' => e = .returned (.bool true) ∧ Below w.heap.size w w' := by
  obtain ⟨u, eu⟩ : ∃ u, u = (w.alloc (.cells #[.int .i64 s, .int .i64 r, .int .i64 n, .slice a m cp] 45)).alloc (.cells #[.int .i64 s, .int .i64 r, .int .i64 n, .slice a' m' cp'] 45) := ⟨_, rfl⟩
  have BU : Hid (Below w.heap.size w u) := by rw [eu]; exact below_alloc (below_alloc (Below.refl _ _) _) _
  have C := hide (bytes_lit (hp.below BU.out) (hq.below BU.out) (by omega) (x := true) (by simp))
  rw [eu] at C BU
  clear hp hq eu
  go_enter Try.func67, Try.ntmps67
  go_wp2_with fail
  refine C.out.mono ?_
  rintro e w1 ⟨rfl, hb⟩
  have B1 := hide (below_step BU.out hb)
  clear hb
  go_wp2_with fail
  go_ret
  exact ⟨rfl, B1.out⟩
theorem call_Vote : ∀ (args : Array Value) (w : World), (callFunc 67 args).run Try.prog w = .ok (.enter 67 args) w := enters_of Try.func67 (by kernel_rfl) rfl
set_option maxRecDepth 100000 in
set_option maxHeartbeats 1000000 in
theorem same_votes {w : World} {a a' : Option Addr} {m c c' : Nat} {l l' : List Vv} (h : Vs w a m l) (h' : Vs w a' m l') (he : l.map Vv.vt = l'.map Vv.vt) :
    Calls Try.prog 66 #[.slice a m c, .slice a' m c', .func (.func 67) #[] #[]] w fun e w' => e = .returned (.bool true) ∧ Below w.heap.size w w' := by
  have H := hide h
  have H' := hide h'
  have HE := hide he
  have rm := h.room
  have cc := call_Vote
  clear h h' he
  go_enter Try.func66, Try.ntmps66
  go_wp2_with fail
  go_loopw [7] (fun i wr => ∃ k : Nat, k ≤ m ∧ i = .int .i64 k ∧ Hid (Below w.heap.size w wr)) (fun i _ => m - (intOf i).toNat)
  case atStart => exact ⟨0, Nat.zero_le _, rfl, Below.refl _ _⟩
  case round =>
    obtain ⟨k, hk, rfl, HW⟩ := hrel
    by_cases hlt : k < m
    · have i1 : (k : Int) < (m : Int) := by omega
      have i2 : (0 : Int) ≤ (k : Int) := by omega
      obtain ⟨g, o, p, rfl, _, hp, hpl, c0, c1, c2, c3⟩ := (H.out.below HW.out).at hlt
      obtain ⟨g', o', q, rfl, _, hq, hql, d0, d1, d2, d3⟩ := (H'.out.below HW.out).at hlt
      have OP := hide (H.out.each p hpl)
      have OQ := hide (H'.out.each q hql)
      obtain ⟨e1, e2, e3, e4⟩ : p.s = q.s ∧ p.r = q.r ∧ p.n = q.n ∧ p.b = q.b := by
        have e3 : (l.map Vv.vt)[k]? = (l'.map Vv.vt)[k]? := by rw [HE.out]
        simpa [hp, hq, Vv.vt] using e3
      have S0 : Hid (∀ y : World, Below w.heap.size w y → Calls Try.prog 67 #[.agg #[.int .i64 p.s, .int .i64 p.r, .int .i64 p.n, .slice p.a p.m p.cp], .agg #[.int .i64 q.s, .int .i64 q.r, .int .i64 q.n, .slice q.a q.m q.cp]] y fun e w' => e = .returned (.bool true) ∧ Below y.heap.size y w') := fun y hy => by
        have h1 := OP.out.1.below hy
        have h2 := OQ.out.1.below hy
        rw [← e1, ← e2, ← e3]
        rw [← e4] at h2
        exact vote_likes h1 h2 OP.out.2
      clear hp hq hpl hql e1 e2 e3 e4 OP OQ
      go_wp2_with fail
      refine wp_region_cells w [(⟨g, o + k * 4, none⟩, .int .i64 p.s), (⟨g, o + k * 4 + 1, none⟩, .int .i64 p.r), (⟨g, o + k * 4 + 2, none⟩, .int .i64 p.n), (⟨g, o + k * 4 + 3, none⟩, .slice p.a p.m p.cp), (⟨g', o' + k * 4, none⟩, .int .i64 q.s), (⟨g', o' + k * 4 + 1, none⟩, .int .i64 q.r), (⟨g', o' + k * 4 + 2, none⟩, .int .i64 q.n), (⟨g', o' + k * 4 + 3, none⟩, .slice q.a q.m q.cp)] (by kernel_rfl) (by kernel_rfl) HW.out (by simp [AllCells, c0, c1, c2, c3, d0, d1, d2, d3]) ?_
      intro hne qq
      simp only [AllCells, and_true] at qq
      clear c0 c1 c2 c3 d0 d1 d2 d3
      repeat (go_big_quiet_step (first | (go_at_call 67; exact Held.call _ (S0.out _ (Held.below _)))))
      refine wpQuiet_nil ?_
      rintro _ ⟨y, rfl⟩
      have BQ : Hid (Below w.heap.size w y.x) := y.below
      clear qq hne S0
      go_wp2_with fail
      go_roundw
      case rel => exact ⟨k + 1, by omega, by go_num, BQ⟩
      case measure => simp [intOf]; omega
    · go_wp2_with fail
      go_ret
      exact ⟨rfl, HW.out⟩
theorem votes_same {w : World} {a a' : Option Addr} {m m' c c' : Nat} {l l' : List Vv} (h : Vs w a m l) (h' : Vs w a' m' l') (he : l.map Vv.vt = l'.map Vv.vt) :
    Calls Try.prog 46 #[.slice a m c, .slice a' m' c'] w fun e w' => e = .returned (.bool true) ∧ Below w.heap.size w w' := by
  have h1 := h.len
  have h2 := h'.len
  have h3 : l.length = l'.length := by have := congrArg List.length he; simpa using this
  obtain rfl : m = m' := by omega
  have C := hide (same_votes (c := c) (c' := c') h h' he)
  clear h h' he
  go_enter Try.func46, Try.ntmps46
  go_wp2_with fail
  refine C.out.mono ?_
  rintro e w1 ⟨rfl, hb⟩
  have B1 := hide hb
  clear hb
  go_wp2_with fail
  go_ret
  exact ⟨rfl, B1.out⟩
set_option maxRecDepth 100000 in
theorem prom_like {w : World} {nd : Int} {a a' : Option Addr} {m m' c c' : Nat} {l l' : List Vv} (h : Vs w a m l) (h' : Vs w a' m' l') (he : l.map Vv.vt = l'.map Vv.vt) :
    Calls Try.prog 45 #[.agg #[.int .i64 nd, .slice a m c], .agg #[.int .i64 nd, .slice a' m' c']] w fun e w' => e = .returned (.bool true) ∧ Below w.heap.size w w' := by
  obtain ⟨u, eu⟩ : ∃ u, u = (w.alloc (.cells #[.int .i64 nd, .slice a m c] 36)).alloc (.cells #[.int .i64 nd, .slice a' m' c'] 36) := ⟨_, rfl⟩
  have BU : Hid (Below w.heap.size w u) := by rw [eu]; exact below_alloc (below_alloc (Below.refl _ _) _) _
  have C := hide (votes_same (c := c) (c' := c') (h.below BU.out) (h'.below BU.out) he)
  rw [eu] at C BU
  clear h h' he eu
  go_enter Try.func45, Try.ntmps45
  go_wp2_with fail
  refine C.out.mono ?_
  rintro e w1 ⟨rfl, hb⟩
  have B1 := hide (below_step BU.out hb)
  clear hb
  go_wp2_with fail
  go_ret
  exact ⟨rfl, B1.out⟩
theorem call_alike : ∀ (args : Array Value) (w : World), (callFunc 45 args).run Try.prog w = .ok (.enter 45 args) w := enters_of Try.func45 (by kernel_rfl) rfl
set_option maxRecDepth 100000 in
set_option maxHeartbeats 1000000 in
theorem same_proms {w : World} {a a' : Option Addr} {m c c' : Nat} {l l' : List Pp} (h : Ps w a m l) (h' : Ps w a' m l') (he : l.map Pp.pr = l'.map Pp.pr) :
    Calls Try.prog 44 #[.slice a m c, .slice a' m c', .func (.func 45) #[] #[]] w fun e w' => e = .returned (.bool true) ∧ Below w.heap.size w w' := by
  have H := hide h
  have H' := hide h'
  have HE := hide he
  have rm := h.room
  have cc := call_alike
  clear h h' he
  go_enter Try.func44, Try.ntmps44
  go_wp2_with fail
  go_loopw [7] (fun i wr => ∃ k : Nat, k ≤ m ∧ i = .int .i64 k ∧ Hid (Below w.heap.size w wr)) (fun i _ => m - (intOf i).toNat)
  case atStart => exact ⟨0, Nat.zero_le _, rfl, Below.refl _ _⟩
  case round =>
    obtain ⟨k, hk, rfl, HW⟩ := hrel
    by_cases hlt : k < m
    · have i1 : (k : Int) < (m : Int) := by omega
      have i2 : (0 : Int) ≤ (k : Int) := by omega
      obtain ⟨g, o, p, rfl, _, hp, hpl, c0, c1⟩ := (H.out.below HW.out).at hlt
      obtain ⟨g', o', q, rfl, _, hq, hql, d0, d1⟩ := (H'.out.below HW.out).at hlt
      have OP := hide (H.out.each p hpl).1
      have OQ := hide (H'.out.each q hql).1
      obtain ⟨e1, e2⟩ : p.nd = q.nd ∧ p.l.map Vv.vt = q.l.map Vv.vt := by
        have e3 : (l.map Pp.pr)[k]? = (l'.map Pp.pr)[k]? := by rw [HE.out]
        simpa [hp, hq, Pp.pr] using e3
      have S0 : Hid (∀ y : World, Below w.heap.size w y → Calls Try.prog 45 #[.agg #[.int .i64 p.nd, .slice p.a p.m p.c], .agg #[.int .i64 q.nd, .slice q.a q.m q.c]] y fun e w' => e = .returned (.bool true) ∧ Below y.heap.size y w') := fun y hy => by
        rw [← e1]
        exact prom_like (OP.out.below hy) (OQ.out.below hy) e2
      clear hp hq hpl hql e1 e2 OP OQ
      go_wp2_with fail
      refine wp_region_cells w [(⟨g, o + k * 2, none⟩, .int .i64 p.nd), (⟨g, o + k * 2 + 1, none⟩, .slice p.a p.m p.c), (⟨g', o' + k * 2, none⟩, .int .i64 q.nd), (⟨g', o' + k * 2 + 1, none⟩, .slice q.a q.m q.c)] (by kernel_rfl) (by kernel_rfl) HW.out (by simp [AllCells, c0, c1, d0, d1]) ?_
      intro hne qq
      simp only [AllCells, and_true] at qq
      clear c0 c1 d0 d1
      repeat (go_big_quiet_step (first | (go_at_call 45; exact Held.call _ (S0.out _ (Held.below _)))))
      refine wpQuiet_nil ?_
      rintro _ ⟨y, rfl⟩
      have BQ : Hid (Below w.heap.size w y.x) := y.below
      clear qq hne S0
      go_wp2_with fail
      go_roundw
      case rel => exact ⟨k + 1, by omega, by go_num, BQ⟩
      case measure => simp [intOf]; omega
    · go_wp2_with fail
      go_ret
      exact ⟨rfl, HW.out⟩
theorem proms_same {w : World} {a a' : Option Addr} {m m' c c' : Nat} {l l' : List Pp} (h : Ps w a m l) (h' : Ps w a' m' l') (he : l.map Pp.pr = l'.map Pp.pr) :
    Calls Try.prog 16 #[.slice a m c, .slice a' m' c'] w fun e w' => e = .returned (.bool true) ∧ Below w.heap.size w w' := by
  have h1 := h.len
  have h2 := h'.len
  have h3 : l.length = l'.length := by have := congrArg List.length he; simpa using this
  obtain rfl : m = m' := by omega
  have C := hide (same_proms (c := c) (c' := c') h h' he)
  clear h h' he
  go_enter Try.func16, Try.ntmps16
  go_wp2_with fail
  refine C.out.mono ?_
  rintro e w1 ⟨rfl, hb⟩
  have B1 := hide hb
  clear hb
  go_wp2_with fail
  go_ret
  exact ⟨rfl, B1.out⟩
end Go.Proofs.Ytjhkenmlaammnaa
