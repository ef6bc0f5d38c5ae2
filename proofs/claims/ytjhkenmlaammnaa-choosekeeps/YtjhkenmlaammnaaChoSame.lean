/- The law folder's helpers Bytes, Entry and Entries. No condition but a size. -/
import Derived.Test.YtjhkenmlaammnaaChoMem
import Derived.Test.YtjhkenmlaammnaaPl8
import Derived.BigQuiet
import Derived.Shelf.Abstract
namespace Go.Proofs.Ytjhkenmlaammnaa
open Go.ChangeShapes Go.WideShapes Go.ChangeAt Go.RowKit Go.Shelf B8 Am Cz
set_option linter.unusedVariables false

theorem plain_far (a a' : Option Addr) (len cap len' cap' : Nat) (w : World) (h : ¬ len = len') :
    Calls Try.prog 47 #[.slice a len cap, .slice a' len' cap'] w fun e w' => e = .returned (.bool false) ∧ ∃ n, w' = w.drewN n := by
  have h1 : ((len : Int) != (len' : Int)) = true := by simp; omega
  go_enter Try.func47, Try.ntmps47
  go_wp2_with fail
  go_ret
  exact ⟨rfl, 0, rfl⟩
theorem eq_of_at {zs ys : List Int} (hl : zs.length = ys.length) (h : ∀ j, j < zs.length → zs[j]?.getD 0 = ys[j]?.getD 0) : zs = ys := by
  apply List.ext_getElem hl
  intro j h1 h2
  have := h j h1
  rw [List.getElem?_eq_getElem h1, List.getElem?_eq_getElem h2] at this
  simpa using this
set_option maxRecDepth 100000 in
theorem plain_same {b off cap b' off' cap' len : Nat} {zs ys : List Int} {w : World} (hm : len ≤ 140737488355328) (hz : zs.length = len) (hy : ys.length = len)
    (hc : ∀ j, j < len → w.cell? ⟨b, off + j, none⟩ = some (.int .u8 (zs[j]?.getD 0))) (hc' : ∀ j, j < len → w.cell? ⟨b', off' + j, none⟩ = some (.int .u8 (ys[j]?.getD 0))) :
    Calls Try.prog 47 #[.slice (some ⟨b, off, none⟩) len cap, .slice (some ⟨b', off', none⟩) len cap'] w fun e w' => e = .returned (.bool (decide (zs = ys))) ∧ ∃ n, w' = w.drewN n := by
  have HC := hide hc
  have HC' := hide hc'
  have HZ := hide hz
  have HY := hide hy
  clear hc hc' hz hy
  go_enter Try.func47, Try.ntmps47
  go_wp2_with fail
  go_loopw [5] (fun i wr => ∃ k n : Nat, k ≤ len ∧ i = .int .i64 k ∧ wr = w.drewN n ∧ Hid (∀ j, j < k → zs[j]?.getD 0 = ys[j]?.getD 0)) (fun i _ => len - (intOf i).toNat)
  case atStart => exact ⟨0, 0, Nat.zero_le _, rfl, rfl, fun j hj => absurd hj (by omega)⟩
  case round =>
    obtain ⟨k, n, hk, rfl, rfl, HE⟩ := hrel
    by_cases hlt : k < len
    · have h1 := HC.out k hlt
      have h2 := HC'.out k hlt
      obtain ⟨x, ex⟩ : ∃ x, x = zs[k]?.getD 0 := ⟨_, rfl⟩
      obtain ⟨y, ey⟩ : ∃ y, y = ys[k]?.getD 0 := ⟨_, rfl⟩
      rw [← ex] at h1
      rw [← ey] at h2
      have EX := hide ex
      have EY := hide ey
      clear ex ey
      have hi : (k : Int) < (len : Int) := by omega
      by_cases hxy : x = y
      · subst hxy
        have E2 : Hid (∀ j, j < k + 1 → zs[j]?.getD 0 = ys[j]?.getD 0) := fun j hj => by
          by_cases e : j = k
          · subst e
            exact EX.out.symm.trans EY.out
          · exact HE.out j (by omega)
        go_wp2_with fail
        go_quiet (fail)
        go_wp2_with fail
        go_roundw
        case rel => exact ⟨k + 1, _, by omega, by go_num, rfl, E2⟩
        case measure => simp [intOf]; omega
      · have n2 : (x != y) = true := by simpa using hxy
        have NE : Hid (decide (zs = ys) = false) := decide_eq_false (fun e => hxy (by rw [EX.out, EY.out, e]))
        go_wp2_with fail
        go_quiet (fail)
        go_wp2_with fail
        go_ret
        exact ⟨congrArg (fun b => Ending.returned (.bool b)) NE.out.symm, _, World.drewN_drewN _ _ _⟩
    · have EE : Hid (decide (zs = ys) = true) := decide_eq_true (eq_of_at (by rw [HZ.out, HY.out]) (fun j hj => HE.out j (by rw [HZ.out] at hj; omega)))
      go_wp2_with fail
      go_ret
      exact ⟨congrArg (fun b => Ending.returned (.bool b)) EE.out.symm, n, rfl⟩
theorem plain_eq {a a' : Option Addr} {len cap len' cap' : Nat} {zs ys : List Int} {w : World} (h : Sq w a len cap zs) (h' : Sq w a' len' cap' ys) (hm : len ≤ 140737488355328) :
    Calls Try.prog 47 #[.slice a len cap, .slice a' len' cap'] w fun e w' => e = .returned (.bool (decide (zs = ys))) ∧ ∃ n, w' = w.drewN n := by
  by_cases hl : len = len'
  · subst hl
    rcases Nat.eq_zero_or_pos len with rfl | h0
    · obtain rfl : zs = [] := List.eq_nil_of_length_eq_zero h.length
      obtain rfl : ys = [] := List.eq_nil_of_length_eq_zero h'.length
      rw [decide_eq_true rfl]
      exact plain_sq h h' hm
    · obtain ⟨b, off, rfl, hc⟩ := h.cells h0
      obtain ⟨b', off', rfl, hc'⟩ := h'.cells h0
      exact plain_same hm h.length h'.length hc hc'
  · rw [decide_eq_false (fun e => hl (by rw [← h.length, ← h'.length, e]))]
    exact plain_far _ _ _ _ _ _ _ hl
theorem bytes_eq {a a' : Option Addr} {len cap len' cap' : Nat} {zs ys : List Int} {w : World} (h : Sq w a len cap zs) (h' : Sq w a' len' cap' ys) (hm : len ≤ 140737488355328) :
    Calls Try.prog 18 #[.slice a len cap, .slice a' len' cap'] w fun e w' => e = .returned (.bool (decide (zs = ys))) ∧ ∃ n, w' = w.drewN n := by
  have C := hide (plain_eq h h' hm)
  clear h h'
  generalize decide (zs = ys) = r at *
  go_enter Try.func18, Try.ntmps18
  go_wp2_with fail
  refine C.out.mono ?_
  rintro e w1 ⟨rfl, n1, rfl⟩
  go_wp2_with fail
  go_ret
  exact ⟨rfl, n1, rfl⟩
theorem bytes_lit {a a' : Option Addr} {len cap len' cap' : Nat} {zs ys : List Int} {w : World} (h : Sq w a len cap zs) (h' : Sq w a' len' cap' ys) (hm : len ≤ 140737488355328) {x : Bool} (e : decide (zs = ys) = x) :
    Calls Try.prog 18 #[.slice a len cap, .slice a' len' cap'] w fun e w' => e = .returned (.bool x) ∧ Below w.heap.size w w' := e ▸ (bytes_eq h h' hm).mono fun e w' ⟨he, n, hw⟩ => ⟨he, by rw [hw]; exact below_drewN (Below.refl _ _) n⟩
set_option maxRecDepth 100000 in
theorem entry_like {w : World} {s : Int} {a a' : Option Addr} {m m' cp cp' : Nat} {b : List Int} (hp : Sq w a m cp b) (hq : Sq w a' m' cp' b) (hm : m ≤ 140737488351232) :
    Calls Try.prog 43 #[.agg #[.int .i64 s, .slice a m cp], .agg #[.int .i64 s, .slice a' m' cp']] w fun e w' => e = .returned (.bool true) ∧ Below w.heap.size w w' := by
  obtain ⟨u, eu⟩ : ∃ u, u = (w.alloc (.cells #[.int .i64 s, .slice a m cp] 39)).alloc (.cells #[.int .i64 s, .slice a' m' cp'] 39) := ⟨_, rfl⟩
  have BU : Hid (Below w.heap.size w u) := by rw [eu]; exact below_alloc (below_alloc (Below.refl _ _) _) _
  have C := hide (bytes_lit (hp.below BU.out) (hq.below BU.out) (by omega) (x := true) (by simp))
  rw [eu] at C BU
  clear hp hq eu
  go_enter Try.func43, Try.ntmps43
  go_wp2_with fail
  refine C.out.mono ?_
  rintro e w1 ⟨rfl, hb⟩
  have B1 := hide (below_step BU.out hb)
  clear hb
  go_wp2_with fail
  go_ret
  exact ⟨rfl, B1.out⟩
theorem call_Entry : ∀ (args : Array Value) (w : World), (callFunc 43 args).run Try.prog w = .ok (.enter 43 args) w := enters_of Try.func43 (by kernel_rfl) rfl
set_option maxRecDepth 100000 in
set_option maxHeartbeats 1000000 in
theorem same_e {w : World} {B B' : Nat} {a a' : Option Addr} {m c c' : Nat} {l l' : List Ev} (h : Es w B a m c l) (h' : Es w B' a' m c' l') (hm : m ≤ 4000000) (he : l.map Ev.ev = l'.map Ev.ev) :
    Calls Try.prog 42 #[.slice a m c, .slice a' m c', .func (.func 43) #[] #[]] w fun e w' => e = .returned (.bool true) ∧ Below w.heap.size w w' := by
  have H := hide h
  have H' := hide h'
  have HE := hide he
  have cc := call_Entry
  clear h h' he
  go_enter Try.func42, Try.ntmps42
  go_wp2_with fail
  go_loopw [7] (fun i wr => ∃ k : Nat, k ≤ m ∧ i = .int .i64 k ∧ Hid (Below w.heap.size w wr)) (fun i _ => m - (intOf i).toNat)
  case atStart => exact ⟨0, Nat.zero_le _, rfl, Below.refl _ _⟩
  case round =>
    obtain ⟨k, hk, rfl, HW⟩ := hrel
    by_cases hlt : k < m
    · have i1 : (k : Int) < (m : Int) := by omega
      have i2 : (0 : Int) ≤ (k : Int) := by omega
      obtain ⟨p, hp⟩ : ∃ p, l[k]? = some p := ⟨_, List.getElem?_eq_getElem (by rw [H.out.len]; exact hlt)⟩
      obtain ⟨q, hq⟩ : ∃ q, l'[k]? = some q := ⟨_, List.getElem?_eq_getElem (by rw [H'.out.len]; exact hlt)⟩
      obtain ⟨g, rfl, _, _, c0, c1⟩ := (H.out.below HW.out).at hp
      obtain ⟨g', rfl, _, _, d0, d1⟩ := (H'.out.below HW.out).at hq
      have OP := hide (H.out.each p (List.mem_of_getElem? hp))
      have OQ := hide (H'.out.each q (List.mem_of_getElem? hq))
      obtain ⟨e1, e2⟩ : p.s = q.s ∧ p.b = q.b := by
        have e3 : (l.map Ev.ev)[k]? = (l'.map Ev.ev)[k]? := by rw [HE.out]
        simpa [hp, hq, Ev.ev] using e3
      have S0 : Hid (∀ y : World, Below w.heap.size w y → Calls Try.prog 43 #[.agg #[.int .i64 p.s, .slice p.a p.m p.cp], .agg #[.int .i64 q.s, .slice q.a q.m q.cp]] y fun e w' => e = .returned (.bool true) ∧ Below y.heap.size y w') := fun y hy => by
        have h1 := (OP.out.below hy).sq
        have h2 := (OQ.out.below hy).sq
        rw [← e1]
        rw [← e2] at h2
        exact entry_like h1 h2 OP.out.1.2.2
      clear hp hq e1 e2 OP OQ
      go_wp2_with fail
      refine wp_region_cells w [(⟨g, k * 2, none⟩, .int .i64 p.s), (⟨g, k * 2 + 1, none⟩, .slice p.a p.m p.cp), (⟨g', k * 2, none⟩, .int .i64 q.s), (⟨g', k * 2 + 1, none⟩, .slice q.a q.m q.cp)] (by kernel_rfl) (by kernel_rfl) HW.out (by simp [AllCells, c0, c1, d0, d1]) ?_
      intro hne qq
      simp only [AllCells, and_true] at qq
      clear c0 c1 d0 d1
      repeat (go_big_quiet_step (first | (go_at_call 43; exact Held.call _ (S0.out _ (Held.below _)))))
      refine wpQuiet_nil ?_
      rintro _ ⟨y, rfl⟩
      have BQ : Hid (Below w.heap.size w y.x) := y.below
      clear qq hne S0
      go_wp2_with fail
      go_roundw
      case rel => exact ⟨k + 1, by omega, by go_num, BQ⟩
      case measure => simp [intOf]; omega
    · go_wp2_with fail
      go_ret
      exact ⟨rfl, HW.out⟩
theorem entries_same {w : World} {B B' : Nat} {a a' : Option Addr} {m m' c c' : Nat} {l l' : List Ev} (h : Es w B a m c l) (h' : Es w B' a' m' c' l') (hm : m ≤ 4000000) (he : l.map Ev.ev = l'.map Ev.ev) :
    Calls Try.prog 15 #[.slice a m c, .slice a' m' c'] w fun e w' => e = .returned (.bool true) ∧ Below w.heap.size w w' := by
  have h1 := h.len
  have h2 := h'.len
  have h3 : l.length = l'.length := by have := congrArg List.length he; simpa using this
  obtain rfl : m = m' := by omega
  have C := hide (same_e (c := c) (c' := c') h h' hm he)
  clear h h' he
  go_enter Try.func15, Try.ntmps15
  go_wp2_with fail
  refine C.out.mono ?_
  rintro e w1 ⟨rfl, hb⟩
  have B1 := hide hb
  clear hb
  go_wp2_with fail
  go_ret
  exact ⟨rfl, B1.out⟩
end Go.Proofs.Ytjhkenmlaammnaa
