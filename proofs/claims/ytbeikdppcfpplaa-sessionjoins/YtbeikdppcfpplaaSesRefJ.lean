/- The document's answer: Join. Condition: the lists can be read. -/
import Derived.Test.YtbeikdppcfpplaaSesRef
import Derived.Deep.Cut
namespace Go.Proofs.Ytbeikdppcfpplaa
open Go.ChangeShapes Go.WideShapes Go.ChangeAt Go.RowKit Sn
set_option linter.unusedVariables false

set_option maxRecDepth 100000 in
set_option maxHeartbeats 1000000 in
theorem rjoin_no {w : World} {a a' : Option Addr} {n cp n' cp' : Nat} {l l' : List Mk} (h : Ms w a n l) (h' : Ms w a' n' l') (hn : (rightB 0 l && rightB 0 l') = false) :
    Calls Try.prog 24 #[.slice a n cp, .slice a' n' cp'] w fun e w' => e = .returned (.tuple #[.slice none 0 0, .int .i64 21]) ∧ Below w.heap.size w w' := by
  have CA := fun W => hide (fun hW : Below w.heap.size w W => rright_any (c := cp) (h.below hW))
  have CB := fun W => hide (fun hW : Below w.heap.size w W => rright_any (c := cp') (h'.below hW))
  clear h h'
  cases hq : rightB 0 l with
  | false =>
    rw [hq] at CA
    clear hn hq CB
    go_enter Try.func24, Try.ntmps24
    go_wp2_with fail
    refine ((CA _).out (Below.refl _ _)).mono ?_
    rintro e w1 ⟨rfl, hb1⟩
    have HB1 := hide hb1
    clear hb1 CA
    go_wp2_with fail
    go_returns
    exact ⟨rfl, HB1.out⟩
  | true =>
    rw [hq, Bool.true_and] at hn
    rw [hq] at CA
    rw [hn] at CB
    clear hn hq
    go_enter Try.func24, Try.ntmps24
    go_wp2_with fail
    refine ((CA _).out (Below.refl _ _)).mono ?_
    rintro e w1 ⟨rfl, hb1⟩
    have HB1 := hide hb1
    clear hb1 CA
    go_wp2_with fail
    refine ((CB _).out HB1.out).mono ?_
    rintro e w2 ⟨rfl, hb2⟩
    have HB2 : Hid (Below w.heap.size w w2) := HB1.out.trans (hb2.mono HB1.out.size)
    clear hb2 CB
    go_wp2_with fail
    go_returns
    exact ⟨rfl, HB2.out⟩
/-- the mark that is kept of two, and whether there is one -/
def takeB (f g : Option Mk) : Bool := g.isSome && (!f.isSome || decide ((f.getD mk0).s < (g.getD mk0).s) || (decide ((g.getD mk0).s = (f.getD mk0).s) && (f.getD mk0).o && !(g.getD mk0).o))
theorem pick_take (f g : Option Mk) : pick f g = if f.isSome || g.isSome then some (if takeB f g then g.getD mk0 else f.getD mk0) else none := by
  cases f with
  | none => cases g <;> rfl
  | some x =>
    cases g with
    | none => rfl
    | some y =>
      obtain ⟨xc, xs, xo, xa⟩ := x
      obtain ⟨yc, ys, yo, ya⟩ := y
      by_cases h : ys = xs
      · subst h
        cases xo <;> cases yo <;> simp [pick, takeB, aheadB]
      · by_cases h2 : xs < ys <;> simp [pick, takeB, aheadB, h, h2]
set_option maxRecDepth 100000 in
set_option maxHeartbeats 2000000 in
theorem rjoin_yes {w : World} {a a' : Option Addr} {n cp n' cp' : Nat} {l l' : List Mk} (h : Ms w a n l) (h' : Ms w a' n' l') (hr : Right l) (hr' : Right l') :
    Calls Try.prog 24 #[.slice a n cp, .slice a' n' cp'] w fun e w' => ∃ a2 n2 c2, e = .returned (.tuple #[.slice a2 n2 c2, .int .i64 0]) ∧ Ms w' a2 n2 (tab (joinF l l')) ∧ Below w.heap.size w w' := by
  have CA := fun W => hide (fun hW : Below w.heap.size w W => rright_any (c := cp) (h.below hW))
  have CB := fun W => hide (fun hW : Below w.heap.size w W => rright_any (c := cp') (h'.below hW))
  rw [show rightB 0 l = true from hr] at CA
  rw [show rightB 0 l' = true from hr'] at CB
  have FA := fun (c : Int) W => hide (fun hW : Below w.heap.size w W => rfind_any (cp := cp) (c := c) (h.below hW))
  have FB := fun (c : Int) W => hide (fun hW : Below w.heap.size w W => rfind_any (cp := cp') (c := c) (h'.below hW))
  have EA : Hid (∀ c, findM l c = lkM l c) := fun c => find_ok hr
  have EB : Hid (∀ c, findM l' c = lkM l' c) := fun c => find_ok hr'
  clear h h' hr hr'
  go_enter Try.func24, Try.ntmps24
  go_wp2_with fail
  refine ((CA _).out (Below.refl _ _)).mono ?_
  rintro e w1 ⟨rfl, hb1⟩
  have HB1 := hide hb1
  clear hb1 CA
  go_wp2_with fail
  refine ((CB _).out HB1.out).mono ?_
  rintro e w2 ⟨rfl, hb2⟩
  have HB2 : Hid (Below w.heap.size w w2) := HB1.out.trans (hb2.mono HB1.out.size)
  clear hb2 CB HB1
  go_wp2_with fail
  go_loopw [6, 7, 8, 9, 10, 11] (fun s6 s7 _ _ _ _ wr => ∃ (k : Nat) (a1 : Option Addr) (n1 c1 : Nat), k ≤ 8 ∧ s6 = .slice a1 n1 c1 ∧ s7 = .int .i64 (k + 1) ∧ Hid (Below w.heap.size w wr) ∧ Hid (n1 ≤ k) ∧ Hid (wr.ownsRow w.heap.size 29 7 (.slice a1 n1 c1) n1 (fcells menc (tabN (joinF l l') 0 k)))) (fun _ iv _ _ _ _ _ => 9 - (intOf iv).toNat)
  case atStart => exact ⟨0, none, 0, 0, by omega, rfl, rfl, HB2, Nat.le_refl _, World.ownsRow_nil _ _ _ _⟩
  case round =>
    clear HB2
    obtain ⟨k, a1, n1, c1, hk, rfl, rfl, HB, HNK, HO⟩ := hrel
    by_cases hlt : k < 8
    · have i1 : (k : Int) + 1 ≤ 8 := by omega
      obtain ⟨f, ef⟩ : ∃ f, f = lkM l ((k : Int) + 1) := ⟨_, rfl⟩
      obtain ⟨g, eg⟩ : ∃ g, g = lkM l' ((k : Int) + 1) := ⟨_, rfl⟩
      have FK := FA ((k : Int) + 1)
      have GK := FB ((k : Int) + 1)
      rw [EA.out, ← ef] at FK
      rw [EB.out, ← eg] at GK
      have HT : Hid (tabN (joinF l l') 0 (k + 1) = tabN (joinF l l') 0 k ++ (if f.isSome || g.isSome then some (if takeB f g then g.getD mk0 else f.getD mk0) else none).toList) := by
        show _ = _
        rw [tabN_snoc, ← pick_take, ef, eg]
        simp only [joinF, Int.zero_add]
      have HK : Hid (takeB f g = (g.isSome && (!f.isSome || decide ((f.getD mk0).s < (g.getD mk0).s) || (decide ((g.getD mk0).s = (f.getD mk0).s) && (f.getD mk0).o && !(g.getD mk0).o)))) := rfl
      obtain ⟨x, ex⟩ : ∃ x, x = f.getD mk0 := ⟨_, rfl⟩
      obtain ⟨y, ey⟩ : ∃ y, y = g.getD mk0 := ⟨_, rfl⟩
      obtain ⟨bf, ebf⟩ : ∃ b, b = f.isSome := ⟨_, rfl⟩
      obtain ⟨bg, ebg⟩ : ∃ b, b = g.isSome := ⟨_, rfl⟩
      obtain ⟨t, et⟩ : ∃ t, t = takeB f g := ⟨_, rfl⟩
      rw [← ex, ← ebf] at FK
      rw [← ey, ← ebg] at GK
      rw [← ebf, ← ebg, ← et, ← ex, ← ey] at HT
      rw [← ebf, ← ebg, ← et, ← ex, ← ey] at HK
      unfold mval at FK GK
      clear ex ey ebf ebg et ef eg FA FB EA EB
      obtain ⟨xc, xs, xo, ⟨xe, xv, xl, xh⟩⟩ := x
      obtain ⟨yc, ys, yo, ⟨ye, yv, yl, yh⟩⟩ := y
      simp only at FK GK HK
      have hn1 : n1 ≤ 8 := by have := HNK.out; omega
      go_wp2_with fail
      refine ((FK _).out HB.out).mono ?_
      rintro e w4 ⟨rfl, hb4⟩
      have HB4 : Hid (Below w.heap.size w w4) := HB.out.trans (hb4.mono HB.out.size)
      have HO4 := hide (row_keeps HO.out hb4)
      clear hb4 FK HO HB
      go_wp2_with fail
      refine ((GK _).out (HB4.out.alloc HB4.out.size _)).mono ?_
      rintro e w5 ⟨rfl, hb5⟩
      have HX5 : Hid (w5.heap[w4.heap.size]? = some (.cells #[.int .i64 xc, .int .i64 xs, .bool xo, .int .i64 xe, .int .i64 xv, .int .i64 xl, .int .i64 xh] 29 (0, 0))) := (hb5.block _ (by simp)).trans (heap_alloc_new w4 _)
      have HB5 : Hid (Below w.heap.size w w5) := (HB4.out.alloc HB4.out.size _).trans (hb5.mono (HB4.out.alloc HB4.out.size _).size)
      have HO5 := hide (row_keeps (HO4.out.alloc _) hb5)
      clear hb5 GK
      have HX6 : Hid ((w5.alloc (.cells #[.int .i64 yc, .int .i64 ys, .bool yo, .int .i64 ye, .int .i64 yv, .int .i64 yl, .int .i64 yh] 29)).heap[w4.heap.size]? = some (.cells #[.int .i64 xc, .int .i64 xs, .bool xo, .int .i64 xe, .int .i64 xv, .int .i64 xl, .int .i64 xh] 29 (0, 0))) := (Below.heap_alloc _ _ _ (Array.getElem?_eq_some_iff.1 HX5.out).1).trans HX5.out
      have HB6 : Hid (Below w.heap.size w (w5.alloc (.cells #[.int .i64 yc, .int .i64 ys, .bool yo, .int .i64 ye, .int .i64 yv, .int .i64 yl, .int .i64 yh] 29))) := HB5.out.alloc HB5.out.size _
      have HO6 := hide (HO5.out.alloc (.cells #[.int .i64 yc, .int .i64 ys, .bool yo, .int .i64 ye, .int .i64 yv, .int .i64 yl, .int .i64 yh] 29))
      have hl4 : w.heap.size ≤ w4.heap.size := HB4.out.size
      have es : (w5.alloc (.cells #[.int .i64 yc, .int .i64 ys, .bool yo, .int .i64 ye, .int .i64 yv, .int .i64 yl, .int .i64 yh] 29)).heap.size = w5.heap.size + 1 := by simp
      clear HX5 HB5 HO5 HB4
      obtain ⟨x0, x1, x2, x3, x4, x5, x6⟩ := mk_row ⟨xc, xs, xo, ⟨xe, xv, xl, xh⟩⟩ HX6.out
      simp only at x0 x1 x2 x3 x4 x5 x6
      have HNE : Hid (¬ (Value.slice a1 n1 c1).ownBlock = some w4.heap.size) := fun hq => by have := (HO4.out.lt _ hq).2; omega
      clear HO4
      cases bf
      · cases bg
        · obtain rfl : t = false := HK.out
          have HO7 : Hid ((w5.alloc (.cells #[.int .i64 yc, .int .i64 ys, .bool yo, .int .i64 ye, .int .i64 yv, .int .i64 yl, .int .i64 yh] 29)).ownsRow w.heap.size 29 7 (.slice a1 n1 c1) n1 (fcells menc (tabN (joinF l l') 0 (k + 1)))) := by
            show World.ownsRow _ _ _ _ _ _ _
            rw [HT.out]
            simp only [Bool.or_self, Bool.false_eq_true, if_false, Option.toList, List.append_nil]
            exact HO6.out
          have HN7 : Hid (n1 ≤ k + 1) := by show _ ≤ _; have := HNK.out; omega
          clear HT HK
          go_wp2_with fail
          go_roundw
          case rel => exact ⟨k + 1, _, _, _, by omega, rfl, by go_num, HB6, HN7, HO7⟩
          case measure => simp [intOf]; omega
        · obtain rfl : t = true := HK.out
          obtain ⟨w7, e7⟩ : ∃ w7, w7 = (w5.alloc (.cells #[.int .i64 yc, .int .i64 ys, .bool yo, .int .i64 ye, .int .i64 yv, .int .i64 yl, .int .i64 yh] 29)).setRow w4.heap.size #[.int .i64 yc, .int .i64 ys, .bool yo, .int .i64 ye, .int .i64 yv, .int .i64 yl, .int .i64 yh] := ⟨_, rfl⟩
          have HX7 : Hid (w7.heap[w4.heap.size]? = some (.cells #[.int .i64 yc, .int .i64 ys, .bool yo, .int .i64 ye, .int .i64 yv, .int .i64 yl, .int .i64 yh] 29 (0, 0))) := by show _ = _; rw [e7]; exact setRow_heap _ _ _ _ _ _ HX6.out
          have HB7 : Hid (Below w.heap.size w w7) := by rw [e7]; exact below_setRow HB6.out hl4 _
          have HO7 : Hid (w7.ownsRow w.heap.size 29 7 (.slice a1 n1 c1) n1 (fcells menc (tabN (joinF l l') 0 k))) := by
            refine row_same HO6.out fun q hq => ?_
            rw [e7]
            refine setRow_other _ _ _ _ fun e => ?_
            exact HNE.out (e ▸ hq)
          have E7 := hide e7
          clear e7
          obtain ⟨y0, y1, y2, y3, y4, y5, y6⟩ := mk_row ⟨yc, ys, yo, ⟨ye, yv, yl, yh⟩⟩ HX7.out
          simp only at y0 y1 y2 y3 y4 y5 y6
          have HT2 : Hid (tabN (joinF l l') 0 (k + 1) = tabN (joinF l l') 0 k ++ [⟨yc, ys, yo, ⟨ye, yv, yl, yh⟩⟩]) := by show _ = _; rw [HT.out, show (false || true) = true from rfl, if_pos rfl, if_pos rfl]; rfl
          obtain ⟨g, c8, w8, hr, ho, hch, hb⟩ := FnM.add_any HO7.out (by omega) (HB7.out.size) ⟨yc, ys, yo, ⟨ye, yv, yl, yh⟩⟩ 22
          simp only at hr

          have HO8 : Hid (w8.ownsRow w.heap.size 29 7 (.slice (some ⟨g, 0, none⟩) (n1 + 1) c8) (n1 + 1) (fcells menc (tabN (joinF l l') 0 (k + 1)))) := by show World.ownsRow _ _ _ _ _ _ _; rw [HT2.out]; exact ho
          have HB8 : Hid (Below w.heap.size w w8) := HB7.out.trans hb
          have HN8 : Hid (n1 + 1 ≤ k + 1) := by show _ ≤ _; have := HNK.out; omega
          clear ho hch hb HT HT2 HK
          go_upto_region 10 with fail
          go_wp2_with (first
            | (refine wpList_store_row rfl 29 (.tmp 8) (.tmp 64) rfl w4.heap.size #[.int .i64 yc, .int .i64 ys, .bool yo, .int .i64 ye, .int .i64 yv, .int .i64 yl, .int .i64 yh] rfl rfl 29 #[.int .i64 xc, .int .i64 xs, .bool xo, .int .i64 xe, .int .i64 xv, .int .i64 xl, .int .i64 xh] HX6.out FnM.size_info rfl (by simp [Value.oneCell']) ?_; rw [← E7.out])
            | (at_builtin; refine wp_append_run _ rfl _ _ 22 rfl _ _ hr ?_))
          go_roundw
          case rel => exact ⟨k + 1, _, _, _, by omega, rfl, by go_num, HB8, HN8, HO8⟩
          case measure => simp [intOf]; omega
      · cases bg
        · obtain rfl : t = false := HK.out
          have HT2 : Hid (tabN (joinF l l') 0 (k + 1) = tabN (joinF l l') 0 k ++ [⟨xc, xs, xo, ⟨xe, xv, xl, xh⟩⟩]) := by show _ = _; rw [HT.out, show (true || false) = true from rfl, if_pos rfl, if_neg (by decide)]; rfl
          obtain ⟨g, c8, w8, hr, ho, hch, hb⟩ := FnM.add_any HO6.out (by omega) (HB6.out.size) ⟨xc, xs, xo, ⟨xe, xv, xl, xh⟩⟩ 22
          simp only at hr
          rw [es] at hr
          have HO8 : Hid (w8.ownsRow w.heap.size 29 7 (.slice (some ⟨g, 0, none⟩) (n1 + 1) c8) (n1 + 1) (fcells menc (tabN (joinF l l') 0 (k + 1)))) := by show World.ownsRow _ _ _ _ _ _ _; rw [HT2.out]; exact ho
          have HB8 : Hid (Below w.heap.size w w8) := HB6.out.trans hb
          have HN8 : Hid (n1 + 1 ≤ k + 1) := by show _ ≤ _; have := HNK.out; omega
          clear ho hch hb HT HT2 HK
          go_wp2_with (first
            | (at_builtin; refine wp_append_run _ rfl _ _ 22 rfl _ _ hr ?_))
          go_roundw
          case rel => exact ⟨k + 1, _, _, _, by omega, rfl, by go_num, HB8, HN8, HO8⟩
          case measure => simp [intOf]; omega
        · simp only [Bool.not_true, Bool.false_or, Bool.true_and] at HK
          by_cases h1 : xs < ys
          · obtain rfl : t = true := by rw [HK.out, decide_eq_true h1]; rfl
            obtain ⟨w7, e7⟩ : ∃ w7, w7 = (w5.alloc (.cells #[.int .i64 yc, .int .i64 ys, .bool yo, .int .i64 ye, .int .i64 yv, .int .i64 yl, .int .i64 yh] 29)).setRow w4.heap.size #[.int .i64 yc, .int .i64 ys, .bool yo, .int .i64 ye, .int .i64 yv, .int .i64 yl, .int .i64 yh] := ⟨_, rfl⟩
            have HX7 : Hid (w7.heap[w4.heap.size]? = some (.cells #[.int .i64 yc, .int .i64 ys, .bool yo, .int .i64 ye, .int .i64 yv, .int .i64 yl, .int .i64 yh] 29 (0, 0))) := by show _ = _; rw [e7]; exact setRow_heap _ _ _ _ _ _ HX6.out
            have HB7 : Hid (Below w.heap.size w w7) := by rw [e7]; exact below_setRow HB6.out hl4 _
            have HO7 : Hid (w7.ownsRow w.heap.size 29 7 (.slice a1 n1 c1) n1 (fcells menc (tabN (joinF l l') 0 k))) := by
              refine row_same HO6.out fun q hq => ?_
              rw [e7]
              refine setRow_other _ _ _ _ fun e => ?_
              exact HNE.out (e ▸ hq)
            have E7 := hide e7
            clear e7
            obtain ⟨y0, y1, y2, y3, y4, y5, y6⟩ := mk_row ⟨yc, ys, yo, ⟨ye, yv, yl, yh⟩⟩ HX7.out
            simp only at y0 y1 y2 y3 y4 y5 y6
            have HT2 : Hid (tabN (joinF l l') 0 (k + 1) = tabN (joinF l l') 0 k ++ [⟨yc, ys, yo, ⟨ye, yv, yl, yh⟩⟩]) := by show _ = _; rw [HT.out, show (true || true) = true from rfl, if_pos rfl, if_pos rfl]; rfl
            obtain ⟨g, c8, w8, hr, ho, hch, hb⟩ := FnM.add_any HO7.out (by omega) (HB7.out.size) ⟨yc, ys, yo, ⟨ye, yv, yl, yh⟩⟩ 22
            simp only at hr

            have HO8 : Hid (w8.ownsRow w.heap.size 29 7 (.slice (some ⟨g, 0, none⟩) (n1 + 1) c8) (n1 + 1) (fcells menc (tabN (joinF l l') 0 (k + 1)))) := by show World.ownsRow _ _ _ _ _ _ _; rw [HT2.out]; exact ho
            have HB8 : Hid (Below w.heap.size w w8) := HB7.out.trans hb
            have HN8 : Hid (n1 + 1 ≤ k + 1) := by show _ ≤ _; have := HNK.out; omega
            clear ho hch hb HT HT2 HK
            go_upto_region 10 with fail
            go_wp2_with (first
              | (refine wpList_store_row rfl 29 (.tmp 8) (.tmp 64) rfl w4.heap.size #[.int .i64 yc, .int .i64 ys, .bool yo, .int .i64 ye, .int .i64 yv, .int .i64 yl, .int .i64 yh] rfl rfl 29 #[.int .i64 xc, .int .i64 xs, .bool xo, .int .i64 xe, .int .i64 xv, .int .i64 xl, .int .i64 xh] HX6.out FnM.size_info rfl (by simp [Value.oneCell']) ?_; rw [← E7.out])
              | (at_builtin; refine wp_append_run _ rfl _ _ 22 rfl _ _ hr ?_))
            go_roundw
            case rel => exact ⟨k + 1, _, _, _, by omega, rfl, by go_num, HB8, HN8, HO8⟩
            case measure => simp [intOf]; omega
          · by_cases h2 : ys = xs
            · subst h2
              rw [decide_eq_false h1, decide_eq_true rfl] at HK
              cases xo
              · obtain rfl : t = false := HK.out
                have HT2 : Hid (tabN (joinF l l') 0 (k + 1) = tabN (joinF l l') 0 k ++ [⟨xc, ys, false, ⟨xe, xv, xl, xh⟩⟩]) := by show _ = _; rw [HT.out, show (true || true) = true from rfl, if_pos rfl, if_neg (by decide)]; rfl
                obtain ⟨g, c8, w8, hr, ho, hch, hb⟩ := FnM.add_any HO6.out (by omega) (HB6.out.size) ⟨xc, ys, false, ⟨xe, xv, xl, xh⟩⟩ 22
                simp only at hr
                rw [es] at hr
                have HO8 : Hid (w8.ownsRow w.heap.size 29 7 (.slice (some ⟨g, 0, none⟩) (n1 + 1) c8) (n1 + 1) (fcells menc (tabN (joinF l l') 0 (k + 1)))) := by show World.ownsRow _ _ _ _ _ _ _; rw [HT2.out]; exact ho
                have HB8 : Hid (Below w.heap.size w w8) := HB6.out.trans hb
                have HN8 : Hid (n1 + 1 ≤ k + 1) := by show _ ≤ _; have := HNK.out; omega
                clear ho hch hb HT HT2 HK
                go_wp2_with (first
                  | (at_builtin; refine wp_append_run _ rfl _ _ 22 rfl _ _ hr ?_))
                go_roundw
                case rel => exact ⟨k + 1, _, _, _, by omega, rfl, by go_num, HB8, HN8, HO8⟩
                case measure => simp [intOf]; omega
              · cases yo
                · obtain rfl : t = true := HK.out
                  obtain ⟨w7, e7⟩ : ∃ w7, w7 = (w5.alloc (.cells #[.int .i64 yc, .int .i64 ys, .bool false, .int .i64 ye, .int .i64 yv, .int .i64 yl, .int .i64 yh] 29)).setRow w4.heap.size #[.int .i64 yc, .int .i64 ys, .bool false, .int .i64 ye, .int .i64 yv, .int .i64 yl, .int .i64 yh] := ⟨_, rfl⟩
                  have HX7 : Hid (w7.heap[w4.heap.size]? = some (.cells #[.int .i64 yc, .int .i64 ys, .bool false, .int .i64 ye, .int .i64 yv, .int .i64 yl, .int .i64 yh] 29 (0, 0))) := by show _ = _; rw [e7]; exact setRow_heap _ _ _ _ _ _ HX6.out
                  have HB7 : Hid (Below w.heap.size w w7) := by rw [e7]; exact below_setRow HB6.out hl4 _
                  have HO7 : Hid (w7.ownsRow w.heap.size 29 7 (.slice a1 n1 c1) n1 (fcells menc (tabN (joinF l l') 0 k))) := by
                    refine row_same HO6.out fun q hq => ?_
                    rw [e7]
                    refine setRow_other _ _ _ _ fun e => ?_
                    exact HNE.out (e ▸ hq)
                  have E7 := hide e7
                  clear e7
                  obtain ⟨y0, y1, y2, y3, y4, y5, y6⟩ := mk_row ⟨yc, ys, false, ⟨ye, yv, yl, yh⟩⟩ HX7.out
                  simp only at y0 y1 y2 y3 y4 y5 y6
                  have HT2 : Hid (tabN (joinF l l') 0 (k + 1) = tabN (joinF l l') 0 k ++ [⟨yc, ys, false, ⟨ye, yv, yl, yh⟩⟩]) := by show _ = _; rw [HT.out, show (true || true) = true from rfl, if_pos rfl, if_pos rfl]; rfl
                  obtain ⟨g, c8, w8, hr, ho, hch, hb⟩ := FnM.add_any HO7.out (by omega) (HB7.out.size) ⟨yc, ys, false, ⟨ye, yv, yl, yh⟩⟩ 22
                  simp only at hr

                  have HO8 : Hid (w8.ownsRow w.heap.size 29 7 (.slice (some ⟨g, 0, none⟩) (n1 + 1) c8) (n1 + 1) (fcells menc (tabN (joinF l l') 0 (k + 1)))) := by show World.ownsRow _ _ _ _ _ _ _; rw [HT2.out]; exact ho
                  have HB8 : Hid (Below w.heap.size w w8) := HB7.out.trans hb
                  have HN8 : Hid (n1 + 1 ≤ k + 1) := by show _ ≤ _; have := HNK.out; omega
                  clear ho hch hb HT HT2 HK
                  go_upto_region 10 with fail
                  go_wp2_with (first
                    | (refine wpList_store_row rfl 29 (.tmp 8) (.tmp 64) rfl w4.heap.size #[.int .i64 yc, .int .i64 ys, .bool false, .int .i64 ye, .int .i64 yv, .int .i64 yl, .int .i64 yh] rfl rfl 29 #[.int .i64 xc, .int .i64 ys, .bool true, .int .i64 xe, .int .i64 xv, .int .i64 xl, .int .i64 xh] HX6.out FnM.size_info rfl (by simp [Value.oneCell']) ?_; rw [← E7.out])
                    | (at_builtin; refine wp_append_run _ rfl _ _ 22 rfl _ _ hr ?_))
                  go_roundw
                  case rel => exact ⟨k + 1, _, _, _, by omega, rfl, by go_num, HB8, HN8, HO8⟩
                  case measure => simp [intOf]; omega
                · obtain rfl : t = false := HK.out
                  have HT2 : Hid (tabN (joinF l l') 0 (k + 1) = tabN (joinF l l') 0 k ++ [⟨xc, ys, true, ⟨xe, xv, xl, xh⟩⟩]) := by show _ = _; rw [HT.out, show (true || true) = true from rfl, if_pos rfl, if_neg (by decide)]; rfl
                  obtain ⟨g, c8, w8, hr, ho, hch, hb⟩ := FnM.add_any HO6.out (by omega) (HB6.out.size) ⟨xc, ys, true, ⟨xe, xv, xl, xh⟩⟩ 22
                  simp only at hr
                  rw [es] at hr
                  have HO8 : Hid (w8.ownsRow w.heap.size 29 7 (.slice (some ⟨g, 0, none⟩) (n1 + 1) c8) (n1 + 1) (fcells menc (tabN (joinF l l') 0 (k + 1)))) := by show World.ownsRow _ _ _ _ _ _ _; rw [HT2.out]; exact ho
                  have HB8 : Hid (Below w.heap.size w w8) := HB6.out.trans hb
                  have HN8 : Hid (n1 + 1 ≤ k + 1) := by show _ ≤ _; have := HNK.out; omega
                  clear ho hch hb HT HT2 HK
                  go_wp2_with (first
                    | (at_builtin; refine wp_append_run _ rfl _ _ 22 rfl _ _ hr ?_))
                  go_roundw
                  case rel => exact ⟨k + 1, _, _, _, by omega, rfl, by go_num, HB8, HN8, HO8⟩
                  case measure => simp [intOf]; omega
            · obtain rfl : t = false := by rw [HK.out, decide_eq_false h1, decide_eq_false h2]; rfl
              have HT2 : Hid (tabN (joinF l l') 0 (k + 1) = tabN (joinF l l') 0 k ++ [⟨xc, xs, xo, ⟨xe, xv, xl, xh⟩⟩]) := by show _ = _; rw [HT.out, show (true || true) = true from rfl, if_pos rfl, if_neg (by decide)]; rfl
              obtain ⟨g, c8, w8, hr, ho, hch, hb⟩ := FnM.add_any HO6.out (by omega) (HB6.out.size) ⟨xc, xs, xo, ⟨xe, xv, xl, xh⟩⟩ 22
              simp only at hr
              rw [es] at hr
              have HO8 : Hid (w8.ownsRow w.heap.size 29 7 (.slice (some ⟨g, 0, none⟩) (n1 + 1) c8) (n1 + 1) (fcells menc (tabN (joinF l l') 0 (k + 1)))) := by show World.ownsRow _ _ _ _ _ _ _; rw [HT2.out]; exact ho
              have HB8 : Hid (Below w.heap.size w w8) := HB6.out.trans hb
              have HN8 : Hid (n1 + 1 ≤ k + 1) := by show _ ≤ _; have := HNK.out; omega
              clear ho hch hb HT HT2 HK
              go_wp2_with (first
                | (at_builtin; refine wp_append_run _ rfl _ _ 22 rfl _ _ hr ?_))
              go_roundw
              case rel => exact ⟨k + 1, _, _, _, by omega, rfl, by go_num, HB8, HN8, HO8⟩
              case measure => simp [intOf]; omega
    · obtain rfl : k = 8 := by omega
      go_wp2_with fail
      go_returns
      refine ⟨_, _, _, rfl, ms_row HO.out (by have := HNK.out; omega), HB.out⟩
theorem rjoin_any {w : World} {a a' : Option Addr} {n cp n' cp' : Nat} {l l' : List Mk} (h : Ms w a n l) (h' : Ms w a' n' l') :
    Calls Try.prog 24 #[.slice a n cp, .slice a' n' cp'] w fun e w' => ∃ a2 n2 c2, e = .returned (.tuple #[.slice a2 n2 c2, .int .i64 (joinE l l')]) ∧ Ms w' a2 n2 (joinL l l') ∧ Below w.heap.size w w' := by
  cases hq : (rightB 0 l && rightB 0 l') with
  | false =>
    have e1 : joinE l l' = 21 := by unfold joinE; rw [hq]; rfl
    have e2 : joinL l l' = [] := by unfold joinL; rw [e1]; rfl
    rw [e1, e2]
    refine (rjoin_no h h' hq).mono ?_
    rintro e w1 ⟨rfl, hb⟩
    exact ⟨_, _, _, rfl, Rl.nil _, hb⟩
  | true =>
    have e1 : joinE l l' = 0 := by unfold joinE; rw [hq]; rfl
    have e2 : joinL l l' = tab (joinF l l') := by unfold joinL; rw [if_pos e1]
    simp only [Bool.and_eq_true] at hq
    rw [e1, e2]
    exact rjoin_yes h h' hq.1 hq.2
end Go.Proofs.Ytbeikdppcfpplaa
