/- What Report answers: the landed code. Condition: the account can be read. What Grant answers: the landed code. Condition: the account can be read. What Grant answers: the landed code. Condition: the account can be read. -/
import Derived.Deep.Cut
import Derived.Test.YtjcbhgkfbilifaaFAcoMade
import Derived.Test.YtjcbhgkfbilifaaJBB
import Derived.Test.YtjcbhgkfbilifaaFAcoFind
import Derived.Laws.Tables
import Derived.Deep.CutRange
import Derived.Deep.RegionWith
namespace Go.Proofs.Ytjcbhgkfbilifaa
open Go.ChangeShapes Go.WideShapes Go.ChangeAt Go.RowKit Ao
set_option linter.unusedVariables false

theorem without_made {w W : World} {A' : Ac} {a0 : Option Addr} {n0 c0 b off n cp p : Nat} {l : List Hd} (h : Hs w (some ⟨b, off, none⟩) n l) (hp : p < n) (hc : n ≤ cp) (hn : n ≤ 100) (hB : Below w.heap.size w W) (hA : Ab W w.heap.size A' a0 n0 c0) (hz : Zr W (w.heap.size + 1)) :
    Calls Try.prog 101 #[.slice (some ⟨b, off, none⟩) n cp, .int .i64 p] W fun e w' => ∃ a' c', e = .returned (.slice a' (n - 1) c') ∧ (∀ u cs, Hs ((w'.setCell ⟨w.heap.size, 5, none⟩ u).setRow (w.heap.size + 1) cs) a' (n - 1) (l.take p ++ l.drop (p + 1))) ∧ Below w.heap.size w w' ∧ Ab w' w.heap.size A' a0 n0 c0 ∧ Zr w' (w.heap.size + 1) ∧ Fr w.heap.size a' ∧ Cp a' (n - 1) c' := by
  refine (without_any (h.below hB) hp hc hn).mono ?_
  rintro e w' ⟨a', c', rfl, h1, h2, h3, h4⟩
  exact ⟨a', c', rfl, fun u cs => (h1.setCell fun ad e => by have := h3 ad e; have := hz.lt; omega).setRow fun ad e => by have := h3 ad e; have := hz.lt; omega, hB.trans (h2.mono hB.size), hA.below h2, hz.below h2, h3.mono hB.size, h4⟩
theorem findE_some {A : Ac} {node lease r net : Int} {x : Hd} (hr : rightB A = true) (hf : findH A.hs node = some x) : reportE A node lease r net = if x.ls = lease then (if A.rd = 0 ∨ ¬ A.rd = r then 152 else if x.up < net ∨ x.dn + net < 0 then 150 else 0) else 151 := by
  unfold reportE
  rw [if_pos hr, hf]
set_option maxRecDepth 100000 in
set_option maxHeartbeats 2000000 in
theorem report_any {w : World} {a : Option Addr} {n c : Nat} {A : Ac} {node lease r net : Int} (h : Hs w a n A.hs) (hw : AcW A) (hcp : Cp a n c) : Calls Try.prog 42 #[acval A a n c, .int .i64 node, .int .i64 lease, .int .i64 r, .int .i64 net] w fun e w' => Mad w (reportA A node lease r net) (reportE A node lease r net) e w' := by
  have H := hide h
  have CK := fun W => hide (fun hW : Below w.heap.size w W => check_any (c := c) (h.below hW) hw)
  by_cases hr : rightB A = true
  · have e4 : checkE A = 0 := by unfold checkE; rw [if_pos hr]
    rw [e4] at CK
    clear e4
    have hR := ((right_iff A).1 hr).hs
    have PL := fun W => hide (fun hW : Below w.heap.size w W => place_any (cp := c) (c := node) (h.below hW) hR)
    have hlen := hs_length hR
    have hl := h.len
    cases hf : findH A.hs node with
    | none =>
      have eE : reportE A node lease r net = 151 := by unfold reportE; rw [if_pos hr, hf]
      have eA : reportA A node lease r net = ac0 := by unfold reportA; rw [eE]; rfl
      rw [eE, eA]
      rw [hf] at PL
      generalize posL node A.hs = p at PL
      clear eE eA hf hr hR h hw hlen hl hcp
      unfold acval at *
      go_enter Try.func42, Try.ntmps42
      go_wp2_with fail
      obtain ⟨w1, ew, hb1, ha1, hz1⟩ := two_new w A a n c
      rw [← ew]
      have HB1 := hide hb1
      have HA1 := hide ha1
      have HZ1 := hide hz1
      clear hb1 ha1 hz1 ew
      obtain ⟨z0, z1, z2, z3, z4, z5, z6, z7, z8, z9⟩ := HA1.out.at_
      have hs1 : w.heap.size < w1.heap.size := HA1.out.lt
      have HZ1' : Hid (Zr w1 (w.heap.size + 1)) := HZ1.out.zr
      clear HZ1
      have HZ1 := HZ1'
      clear HZ1'
      refine ((CK _).out HB1.out).mono ?_
      rintro e w2 ⟨rfl, hb⟩
      have HB2 : Hid (Below w.heap.size w w2) := HB1.out.trans (hb.mono HB1.out.size)
      have HA2 := hide (HA1.out.below hb)
      have HZ2 := hide (HZ1.out.below hb)
      clear hb z0 z1 z2 z3 z4 z5 z6 z7 z8 z9
      obtain ⟨z0, z1, z2, z3, z4, z5, z6, z7, z8, z9⟩ := HA2.out.at_
      have hs2 : w.heap.size < w2.heap.size := HA2.out.lt
      have zf2 := HA2.out.fz
      go_wp2_with fail
      refine ((PL _).out HB2.out).mono ?_
      rintro e w3 ⟨rfl, hb⟩
      have HB3 : Hid (Below w.heap.size w w3) := HB2.out.trans (hb.mono HB2.out.size)
      have HA3 := hide (HA2.out.below hb)
      have HZ3 := hide (HZ2.out.below hb)
      clear hb z0 z1 z2 z3 z4 z5 z6 z7 z8 z9
      obtain ⟨z0, z1, z2, z3, z4, z5, z6, z7, z8, z9⟩ := HA3.out.at_
      have hs3 : w.heap.size < w3.heap.size := HA3.out.lt
      have zf3 := HA3.out.fz
      go_upto_region 5 with fail
      go_wp2_with (refine wpList_store_row rfl 28 (.tmp 10) (.tmp 38) rfl (w.heap.size + 1) #[.string ⟨#[]⟩, .int .i64 0, .int .i64 0, .int .i64 0, .int .i64 0, .slice none 0 0, .int .i64 0, .int .i64 0, .int .i64 0, .int .i64 0] rfl rfl 28 #[.string ⟨#[]⟩, .int .i64 0, .int .i64 0, .int .i64 0, .int .i64 0, .slice none 0 0, .int .i64 0, .int .i64 0, .int .i64 0, .int .i64 0] HZ3.out ac_info rfl (by simp [Value.oneCell']) ?_)
      refine bodyPost_ret (v := .tuple #[.agg #[.string ⟨#[]⟩, .int .i64 0, .int .i64 0, .int .i64 0, .int .i64 0, .slice none 0 0, .int .i64 0, .int .i64 0, .int .i64 0, .int .i64 0], .int .i64 151]) ?r ?d ?_
      case r => exact results_cell_tmp' rfl _ _ (w.heap.size + 1) 28 #[.string ⟨#[]⟩, .int .i64 0, .int .i64 0, .int .i64 0, .int .i64 0, .slice none 0 0, .int .i64 0, .int .i64 0, .int .i64 0, .int .i64 0] (0, 0) _ (.int .i64 151) rfl rfl (setRow_heap _ _ _ _ _ _ HZ3.out) Try.underlying28 rfl ac_info
      case d => rfl
      exact mad_none 151 (below_setRow HB3.out (by omega) _)
    | some x =>
      have hfe := findE_some (lease := lease) (r := r) (net := net) hr hf
      have hd := drop_at hR hf
      have hxp := hd_facts (hs_mem hR x (find_mem hf).1).2
      have hxw := hw.hs x (find_mem hf).1
      have hp : posL node A.hs < n := by rw [← hl]; exact hd.2.1
      rw [hf] at PL
      have HX := hide hd.2.2
      have HD := hide hd.1
      clear hf hR hd
      generalize posL node A.hs = p at *
      have i1 : (p : Int) < (n : Int) := by omega
      have i2 : (0 : Int) ≤ (p : Int) := by omega
      have kn : IntKind.i64.wrap (-x.dn) = -x.dn := by have := hxw.dn; rw [IntKind.wrap_i64]; unfold I64 at this; omega
      by_cases hls : x.ls = lease
      · by_cases hrd : A.rd = 0
        · have eE : reportE A node lease r net = 152 := by rw [hfe]; rw [if_pos hls, if_pos (Or.inl hrd)]
          have eA : reportA A node lease r net = ac0 := by unfold reportA; rw [eE]; rfl
          rw [eE, eA]
          have HLS := hide hls
          have HRD := hide hrd
          clear hls hrd
          clear eE eA hfe hr hlen hl hcp hxp hxw h hw HD
          unfold acval at *
          go_enter Try.func42, Try.ntmps42
          go_wp2_with fail
          obtain ⟨w1, ew, hb1, ha1, hz1⟩ := two_new w A a n c
          rw [← ew]
          have HB1 := hide hb1
          have HA1 := hide ha1
          have HZ1 := hide hz1
          clear hb1 ha1 hz1 ew
          obtain ⟨z0, z1, z2, z3, z4, z5, z6, z7, z8, z9⟩ := HA1.out.at_
          have hs1 : w.heap.size < w1.heap.size := HA1.out.lt
          have HZ1' : Hid (Zr w1 (w.heap.size + 1)) := HZ1.out.zr
          clear HZ1
          have HZ1 := HZ1'
          clear HZ1'
          refine ((CK _).out HB1.out).mono ?_
          rintro e w2 ⟨rfl, hb⟩
          have HB2 : Hid (Below w.heap.size w w2) := HB1.out.trans (hb.mono HB1.out.size)
          have HA2 := hide (HA1.out.below hb)
          have HZ2 := hide (HZ1.out.below hb)
          clear hb z0 z1 z2 z3 z4 z5 z6 z7 z8 z9
          obtain ⟨z0, z1, z2, z3, z4, z5, z6, z7, z8, z9⟩ := HA2.out.at_
          have hs2 : w.heap.size < w2.heap.size := HA2.out.lt
          have zf2 := HA2.out.fz
          go_wp2_with fail
          refine ((PL _).out HB2.out).mono ?_
          rintro e w3 ⟨rfl, hb⟩
          have HB3 : Hid (Below w.heap.size w w3) := HB2.out.trans (hb.mono HB2.out.size)
          have HA3 := hide (HA2.out.below hb)
          have HZ3 := hide (HZ2.out.below hb)
          clear hb z0 z1 z2 z3 z4 z5 z6 z7 z8 z9
          obtain ⟨z0, z1, z2, z3, z4, z5, z6, z7, z8, z9⟩ := HA3.out.at_
          have hs3 : w.heap.size < w3.heap.size := HA3.out.lt
          have zf3 := HA3.out.fz
          obtain ⟨b, off, x', rfl, hx, hbl, M⟩ := hs_at (H.out.below HB3.out) hp
          obtain rfl : x = x' := by rw [HX.out] at hx; exact Option.some.inj hx
          obtain ⟨c0, c1, c2, c3⟩ := M
          clear hx hbl CK PL
          have hls2 := HLS.out
          have hrd2 := HRD.out
          go_upto_region 7 with fail
          go_wp2_with (refine wpList_store_row rfl 28 (.tmp 10) (.tmp 49) rfl (w.heap.size + 1) #[.string ⟨#[]⟩, .int .i64 0, .int .i64 0, .int .i64 0, .int .i64 0, .slice none 0 0, .int .i64 0, .int .i64 0, .int .i64 0, .int .i64 0] rfl rfl 28 #[.string ⟨#[]⟩, .int .i64 0, .int .i64 0, .int .i64 0, .int .i64 0, .slice none 0 0, .int .i64 0, .int .i64 0, .int .i64 0, .int .i64 0] HZ3.out ac_info rfl (by simp [Value.oneCell']) ?_)
          refine bodyPost_ret (v := .tuple #[.agg #[.string ⟨#[]⟩, .int .i64 0, .int .i64 0, .int .i64 0, .int .i64 0, .slice none 0 0, .int .i64 0, .int .i64 0, .int .i64 0, .int .i64 0], .int .i64 152]) ?r ?d ?_
          case r => exact results_cell_tmp' rfl _ _ (w.heap.size + 1) 28 #[.string ⟨#[]⟩, .int .i64 0, .int .i64 0, .int .i64 0, .int .i64 0, .slice none 0 0, .int .i64 0, .int .i64 0, .int .i64 0, .int .i64 0] (0, 0) _ (.int .i64 152) rfl rfl (setRow_heap _ _ _ _ _ _ HZ3.out) Try.underlying28 rfl ac_info
          case d => rfl
          exact mad_none 152 (below_setRow HB3.out (by omega) _)
        · by_cases hr2 : A.rd = r
          · subst hr2
            subst hls
            by_cases hup : x.up < net
            · have eE : reportE A node x.ls A.rd net = 150 := by rw [hfe]; rw [if_pos rfl, if_neg (by simpa using hrd), if_pos (Or.inl hup)]
              have eA : reportA A node x.ls A.rd net = ac0 := by unfold reportA; rw [eE]; rfl
              rw [eE, eA]
              clear eE eA hfe hr hlen hl hcp hxp hxw h hw HD
              unfold acval at *
              go_enter Try.func42, Try.ntmps42
              go_wp2_with fail
              obtain ⟨w1, ew, hb1, ha1, hz1⟩ := two_new w A a n c
              rw [← ew]
              have HB1 := hide hb1
              have HA1 := hide ha1
              have HZ1 := hide hz1
              clear hb1 ha1 hz1 ew
              obtain ⟨z0, z1, z2, z3, z4, z5, z6, z7, z8, z9⟩ := HA1.out.at_
              have hs1 : w.heap.size < w1.heap.size := HA1.out.lt
              have HZ1' : Hid (Zr w1 (w.heap.size + 1)) := HZ1.out.zr
              clear HZ1
              have HZ1 := HZ1'
              clear HZ1'
              refine ((CK _).out HB1.out).mono ?_
              rintro e w2 ⟨rfl, hb⟩
              have HB2 : Hid (Below w.heap.size w w2) := HB1.out.trans (hb.mono HB1.out.size)
              have HA2 := hide (HA1.out.below hb)
              have HZ2 := hide (HZ1.out.below hb)
              clear hb z0 z1 z2 z3 z4 z5 z6 z7 z8 z9
              obtain ⟨z0, z1, z2, z3, z4, z5, z6, z7, z8, z9⟩ := HA2.out.at_
              have hs2 : w.heap.size < w2.heap.size := HA2.out.lt
              have zf2 := HA2.out.fz
              go_wp2_with fail
              refine ((PL _).out HB2.out).mono ?_
              rintro e w3 ⟨rfl, hb⟩
              have HB3 : Hid (Below w.heap.size w w3) := HB2.out.trans (hb.mono HB2.out.size)
              have HA3 := hide (HA2.out.below hb)
              have HZ3 := hide (HZ2.out.below hb)
              clear hb z0 z1 z2 z3 z4 z5 z6 z7 z8 z9
              obtain ⟨z0, z1, z2, z3, z4, z5, z6, z7, z8, z9⟩ := HA3.out.at_
              have hs3 : w.heap.size < w3.heap.size := HA3.out.lt
              have zf3 := HA3.out.fz
              obtain ⟨b, off, x', rfl, hx, hbl, M⟩ := hs_at (H.out.below HB3.out) hp
              obtain rfl : x = x' := by rw [HX.out] at hx; exact Option.some.inj hx
              obtain ⟨c0, c1, c2, c3⟩ := M
              clear hx hbl CK PL
              go_upto_region 9 with fail
              go_wp2_with (refine wpList_store_row rfl 28 (.tmp 10) (.tmp 70) rfl (w.heap.size + 1) #[.string ⟨#[]⟩, .int .i64 0, .int .i64 0, .int .i64 0, .int .i64 0, .slice none 0 0, .int .i64 0, .int .i64 0, .int .i64 0, .int .i64 0] rfl rfl 28 #[.string ⟨#[]⟩, .int .i64 0, .int .i64 0, .int .i64 0, .int .i64 0, .slice none 0 0, .int .i64 0, .int .i64 0, .int .i64 0, .int .i64 0] HZ3.out ac_info rfl (by simp [Value.oneCell']) ?_)
              refine bodyPost_ret (v := .tuple #[.agg #[.string ⟨#[]⟩, .int .i64 0, .int .i64 0, .int .i64 0, .int .i64 0, .slice none 0 0, .int .i64 0, .int .i64 0, .int .i64 0, .int .i64 0], .int .i64 150]) ?r ?d ?_
              case r => exact results_cell_tmp' rfl _ _ (w.heap.size + 1) 28 #[.string ⟨#[]⟩, .int .i64 0, .int .i64 0, .int .i64 0, .int .i64 0, .slice none 0 0, .int .i64 0, .int .i64 0, .int .i64 0, .int .i64 0] (0, 0) _ (.int .i64 150) rfl rfl (setRow_heap _ _ _ _ _ _ HZ3.out) Try.underlying28 rfl ac_info
              case d => rfl
              exact mad_none 150 (below_setRow HB3.out (by omega) _)
            · by_cases hdn : x.dn + net < 0
              · have hdn2 : net < -x.dn := by omega
                have eE : reportE A node x.ls A.rd net = 150 := by rw [hfe]; rw [if_pos rfl, if_neg (by simpa using hrd), if_pos (Or.inr hdn)]
                have eA : reportA A node x.ls A.rd net = ac0 := by unfold reportA; rw [eE]; rfl
                rw [eE, eA]
                clear hdn eE eA hfe hr hlen hl hcp hxp hxw h hw HD
                unfold acval at *
                go_enter Try.func42, Try.ntmps42
                go_wp2_with fail
                obtain ⟨w1, ew, hb1, ha1, hz1⟩ := two_new w A a n c
                rw [← ew]
                have HB1 := hide hb1
                have HA1 := hide ha1
                have HZ1 := hide hz1
                clear hb1 ha1 hz1 ew
                obtain ⟨z0, z1, z2, z3, z4, z5, z6, z7, z8, z9⟩ := HA1.out.at_
                have hs1 : w.heap.size < w1.heap.size := HA1.out.lt
                have HZ1' : Hid (Zr w1 (w.heap.size + 1)) := HZ1.out.zr
                clear HZ1
                have HZ1 := HZ1'
                clear HZ1'
                refine ((CK _).out HB1.out).mono ?_
                rintro e w2 ⟨rfl, hb⟩
                have HB2 : Hid (Below w.heap.size w w2) := HB1.out.trans (hb.mono HB1.out.size)
                have HA2 := hide (HA1.out.below hb)
                have HZ2 := hide (HZ1.out.below hb)
                clear hb z0 z1 z2 z3 z4 z5 z6 z7 z8 z9
                obtain ⟨z0, z1, z2, z3, z4, z5, z6, z7, z8, z9⟩ := HA2.out.at_
                have hs2 : w.heap.size < w2.heap.size := HA2.out.lt
                have zf2 := HA2.out.fz
                go_wp2_with fail
                refine ((PL _).out HB2.out).mono ?_
                rintro e w3 ⟨rfl, hb⟩
                have HB3 : Hid (Below w.heap.size w w3) := HB2.out.trans (hb.mono HB2.out.size)
                have HA3 := hide (HA2.out.below hb)
                have HZ3 := hide (HZ2.out.below hb)
                clear hb z0 z1 z2 z3 z4 z5 z6 z7 z8 z9
                obtain ⟨z0, z1, z2, z3, z4, z5, z6, z7, z8, z9⟩ := HA3.out.at_
                have hs3 : w.heap.size < w3.heap.size := HA3.out.lt
                have zf3 := HA3.out.fz
                obtain ⟨b, off, x', rfl, hx, hbl, M⟩ := hs_at (H.out.below HB3.out) hp
                obtain rfl : x = x' := by rw [HX.out] at hx; exact Option.some.inj hx
                obtain ⟨c0, c1, c2, c3⟩ := M
                clear hx hbl CK PL
                go_upto_region 9 with fail
                go_wp2_with (refine wpList_store_row rfl 28 (.tmp 10) (.tmp 70) rfl (w.heap.size + 1) #[.string ⟨#[]⟩, .int .i64 0, .int .i64 0, .int .i64 0, .int .i64 0, .slice none 0 0, .int .i64 0, .int .i64 0, .int .i64 0, .int .i64 0] rfl rfl 28 #[.string ⟨#[]⟩, .int .i64 0, .int .i64 0, .int .i64 0, .int .i64 0, .slice none 0 0, .int .i64 0, .int .i64 0, .int .i64 0, .int .i64 0] HZ3.out ac_info rfl (by simp [Value.oneCell']) ?_)
                refine bodyPost_ret (v := .tuple #[.agg #[.string ⟨#[]⟩, .int .i64 0, .int .i64 0, .int .i64 0, .int .i64 0, .slice none 0 0, .int .i64 0, .int .i64 0, .int .i64 0, .int .i64 0], .int .i64 150]) ?r ?d ?_
                case r => exact results_cell_tmp' rfl _ _ (w.heap.size + 1) 28 #[.string ⟨#[]⟩, .int .i64 0, .int .i64 0, .int .i64 0, .int .i64 0, .slice none 0 0, .int .i64 0, .int .i64 0, .int .i64 0, .int .i64 0] (0, 0) _ (.int .i64 150) rfl rfl (setRow_heap _ _ _ _ _ _ HZ3.out) Try.underlying28 rfl ac_info
                case d => rfl
                exact mad_none 150 (below_setRow HB3.out (by omega) _)
              · have hdn2 : ¬ net < -x.dn := by omega
                have eE : reportE A node x.ls A.rd net = 0 := by rw [hfe, if_pos rfl, if_neg (by simpa using hrd), if_neg (by omega)]
                have eA : reportA A node x.ls A.rd net = { A with base := A.base + net, hs := A.hs.take p ++ A.hs.drop (p + 1) } := by unfold reportA; rw [if_pos eE, HD.out]
                have hR2 := (right_report eE).base
                rw [eA] at hR2
                have kb : IntKind.i64.wrap (A.base + net) = A.base + net := by
                  have q4 := hw.lo
                  have q5 := hw.hi
                  have : A.lo ≤ A.base + net ∧ A.base + net ≤ A.hi := hR2
                  rw [IntKind.wrap_i64]; unfold I64 at *; omega
                rw [eE, eA]
                have hn100 : n ≤ 100 := by omega
                have hle := hcp.le
                clear eE eA hR2 hfe hr hlen hl hcp hxp hxw h hw HD hdn
                unfold acval at *
                go_enter Try.func42, Try.ntmps42
                go_wp2_with fail
                obtain ⟨w1, ew, hb1, ha1, hz1⟩ := two_new w A a n c
                rw [← ew]
                have HB1 := hide hb1
                have HA1 := hide ha1
                have HZ1 := hide hz1
                clear hb1 ha1 hz1 ew
                obtain ⟨z0, z1, z2, z3, z4, z5, z6, z7, z8, z9⟩ := HA1.out.at_
                have hs1 : w.heap.size < w1.heap.size := HA1.out.lt
                have HZ1' : Hid (Zr w1 (w.heap.size + 1)) := HZ1.out.zr
                clear HZ1
                have HZ1 := HZ1'
                clear HZ1'
                refine ((CK _).out HB1.out).mono ?_
                rintro e w2 ⟨rfl, hb⟩
                have HB2 : Hid (Below w.heap.size w w2) := HB1.out.trans (hb.mono HB1.out.size)
                have HA2 := hide (HA1.out.below hb)
                have HZ2 := hide (HZ1.out.below hb)
                clear hb z0 z1 z2 z3 z4 z5 z6 z7 z8 z9
                obtain ⟨z0, z1, z2, z3, z4, z5, z6, z7, z8, z9⟩ := HA2.out.at_
                have hs2 : w.heap.size < w2.heap.size := HA2.out.lt
                have zf2 := HA2.out.fz
                go_wp2_with fail
                refine ((PL _).out HB2.out).mono ?_
                rintro e w3 ⟨rfl, hb⟩
                have HB3 : Hid (Below w.heap.size w w3) := HB2.out.trans (hb.mono HB2.out.size)
                have HA3 := hide (HA2.out.below hb)
                have HZ3 := hide (HZ2.out.below hb)
                clear hb z0 z1 z2 z3 z4 z5 z6 z7 z8 z9
                obtain ⟨z0, z1, z2, z3, z4, z5, z6, z7, z8, z9⟩ := HA3.out.at_
                have hs3 : w.heap.size < w3.heap.size := HA3.out.lt
                have zf3 := HA3.out.fz
                obtain ⟨b, off, x', rfl, hx, hbl, M⟩ := hs_at (H.out.below HB3.out) hp
                obtain rfl : x = x' := by rw [HX.out] at hx; exact Option.some.inj hx
                obtain ⟨c0, c1, c2, c3⟩ := M
                clear hx hbl CK PL
                go_wp2_with fail
                refine (without_made (w := w) (A' := { A with base := A.base + net }) (a0 := some ⟨b, off, none⟩) (n0 := n) (c0 := c) H.out hp hle hn100 (by repeat (first | with_reducible exact HB3.out | refine b_set ?_)) ⟨put_row' HA3.out.row⟩ (by repeat (first | with_reducible exact HZ3.out | refine z_far ?_))).mono ?_
                rintro e w9 ⟨a', c', rfl, h5, hb5, ha5, hz5, hf5, hc5⟩
                have H5 := hide h5
                have B5 := hide hb5
                have F5 := hide hf5
                have C5 := hide hc5
                have Z5 := hide hz5
                clear h5 hb5 hz5 hf5 hc5 z0 z1 z2 z3 z4 z5 z6 z7 z8 z9 c0 c1 c2 c3
                obtain ⟨z0, z1, z2, z3, z4, z5, z6, z7, z8, z9⟩ := ha5.at_
                have hs9 : w.heap.size < w9.heap.size := ha5.lt
                have zf9 := ha5.fz
                clear ha5
                go_upto_region 12 with fail
                go_wp2_with (refine wpList_store_row rfl 28 (.tmp 10) (.tmp 81) rfl (w.heap.size + 1) #[.string A.key, .int .i64 (A.lo), .int .i64 (A.hi), .int .i64 (A.base + net), .int .i64 (A.rd), (.slice a' (n - 1) c'), .int .i64 (A.lk.c), .int .i64 (A.lk.s), .int .i64 (A.lk.h), .int .i64 (A.lk.n)] rfl rfl 28 #[.string ⟨#[]⟩, .int .i64 0, .int .i64 0, .int .i64 0, .int .i64 0, .slice none 0 0, .int .i64 0, .int .i64 0, .int .i64 0, .int .i64 0] (z_far Z5.out) ac_info rfl (by simp [Value.oneCell']) ?_)
                refine bodyPost_ret (v := .tuple #[.agg #[.string A.key, .int .i64 (A.lo), .int .i64 (A.hi), .int .i64 (A.base + net), .int .i64 (A.rd), (.slice a' (n - 1) c'), .int .i64 (A.lk.c), .int .i64 (A.lk.s), .int .i64 (A.lk.h), .int .i64 (A.lk.n)], .int .i64 0]) ?r ?d ?_
                case r => exact results_cell_tmp' rfl _ _ (w.heap.size + 1) 28 #[.string A.key, .int .i64 (A.lo), .int .i64 (A.hi), .int .i64 (A.base + net), .int .i64 (A.rd), (.slice a' (n - 1) c'), .int .i64 (A.lk.c), .int .i64 (A.lk.s), .int .i64 (A.lk.h), .int .i64 (A.lk.n)] (0, 0) _ (.int .i64 0) rfl rfl (setRow_heap _ _ _ _ _ _ (z_far Z5.out)) Try.underlying28 rfl ac_info
                case d => rfl
                exact ⟨a', n - 1, c', rfl, H5.out _ _, below_setRow (b_set B5.out) (by omega) _, F5.out, C5.out⟩
          · have eE : reportE A node lease r net = 152 := by rw [hfe]; rw [if_pos hls, if_pos (Or.inr hr2)]
            have eA : reportA A node lease r net = ac0 := by unfold reportA; rw [eE]; rfl
            rw [eE, eA]
            have HLS := hide hls
            clear hls
            clear eE eA hfe hr hlen hl hcp hxp hxw h hw HD
            unfold acval at *
            go_enter Try.func42, Try.ntmps42
            go_wp2_with fail
            obtain ⟨w1, ew, hb1, ha1, hz1⟩ := two_new w A a n c
            rw [← ew]
            have HB1 := hide hb1
            have HA1 := hide ha1
            have HZ1 := hide hz1
            clear hb1 ha1 hz1 ew
            obtain ⟨z0, z1, z2, z3, z4, z5, z6, z7, z8, z9⟩ := HA1.out.at_
            have hs1 : w.heap.size < w1.heap.size := HA1.out.lt
            have HZ1' : Hid (Zr w1 (w.heap.size + 1)) := HZ1.out.zr
            clear HZ1
            have HZ1 := HZ1'
            clear HZ1'
            refine ((CK _).out HB1.out).mono ?_
            rintro e w2 ⟨rfl, hb⟩
            have HB2 : Hid (Below w.heap.size w w2) := HB1.out.trans (hb.mono HB1.out.size)
            have HA2 := hide (HA1.out.below hb)
            have HZ2 := hide (HZ1.out.below hb)
            clear hb z0 z1 z2 z3 z4 z5 z6 z7 z8 z9
            obtain ⟨z0, z1, z2, z3, z4, z5, z6, z7, z8, z9⟩ := HA2.out.at_
            have hs2 : w.heap.size < w2.heap.size := HA2.out.lt
            have zf2 := HA2.out.fz
            go_wp2_with fail
            refine ((PL _).out HB2.out).mono ?_
            rintro e w3 ⟨rfl, hb⟩
            have HB3 : Hid (Below w.heap.size w w3) := HB2.out.trans (hb.mono HB2.out.size)
            have HA3 := hide (HA2.out.below hb)
            have HZ3 := hide (HZ2.out.below hb)
            clear hb z0 z1 z2 z3 z4 z5 z6 z7 z8 z9
            obtain ⟨z0, z1, z2, z3, z4, z5, z6, z7, z8, z9⟩ := HA3.out.at_
            have hs3 : w.heap.size < w3.heap.size := HA3.out.lt
            have zf3 := HA3.out.fz
            obtain ⟨b, off, x', rfl, hx, hbl, M⟩ := hs_at (H.out.below HB3.out) hp
            obtain rfl : x = x' := by rw [HX.out] at hx; exact Option.some.inj hx
            obtain ⟨c0, c1, c2, c3⟩ := M
            clear hx hbl CK PL
            have hls2 := HLS.out
            have hr3 : (A.rd == r) = false := by simpa using hr2
            have hr4 : (A.rd == 0) = false := by simpa using hrd
            go_upto_region 7 with fail
            go_wp2_with (refine wpList_store_row rfl 28 (.tmp 10) (.tmp 49) rfl (w.heap.size + 1) #[.string ⟨#[]⟩, .int .i64 0, .int .i64 0, .int .i64 0, .int .i64 0, .slice none 0 0, .int .i64 0, .int .i64 0, .int .i64 0, .int .i64 0] rfl rfl 28 #[.string ⟨#[]⟩, .int .i64 0, .int .i64 0, .int .i64 0, .int .i64 0, .slice none 0 0, .int .i64 0, .int .i64 0, .int .i64 0, .int .i64 0] HZ3.out ac_info rfl (by simp [Value.oneCell']) ?_)
            refine bodyPost_ret (v := .tuple #[.agg #[.string ⟨#[]⟩, .int .i64 0, .int .i64 0, .int .i64 0, .int .i64 0, .slice none 0 0, .int .i64 0, .int .i64 0, .int .i64 0, .int .i64 0], .int .i64 152]) ?r ?d ?_
            case r => exact results_cell_tmp' rfl _ _ (w.heap.size + 1) 28 #[.string ⟨#[]⟩, .int .i64 0, .int .i64 0, .int .i64 0, .int .i64 0, .slice none 0 0, .int .i64 0, .int .i64 0, .int .i64 0, .int .i64 0] (0, 0) _ (.int .i64 152) rfl rfl (setRow_heap _ _ _ _ _ _ HZ3.out) Try.underlying28 rfl ac_info
            case d => rfl
            exact mad_none 152 (below_setRow HB3.out (by omega) _)
      · have eE : reportE A node lease r net = 151 := by rw [hfe]; rw [if_neg hls]
        have eA : reportA A node lease r net = ac0 := by unfold reportA; rw [eE]; rfl
        rw [eE, eA]
        clear eE eA hfe hr hlen hl hcp hxp hxw h hw HD
        unfold acval at *
        go_enter Try.func42, Try.ntmps42
        go_wp2_with fail
        obtain ⟨w1, ew, hb1, ha1, hz1⟩ := two_new w A a n c
        rw [← ew]
        have HB1 := hide hb1
        have HA1 := hide ha1
        have HZ1 := hide hz1
        clear hb1 ha1 hz1 ew
        obtain ⟨z0, z1, z2, z3, z4, z5, z6, z7, z8, z9⟩ := HA1.out.at_
        have hs1 : w.heap.size < w1.heap.size := HA1.out.lt
        have HZ1' : Hid (Zr w1 (w.heap.size + 1)) := HZ1.out.zr
        clear HZ1
        have HZ1 := HZ1'
        clear HZ1'
        refine ((CK _).out HB1.out).mono ?_
        rintro e w2 ⟨rfl, hb⟩
        have HB2 : Hid (Below w.heap.size w w2) := HB1.out.trans (hb.mono HB1.out.size)
        have HA2 := hide (HA1.out.below hb)
        have HZ2 := hide (HZ1.out.below hb)
        clear hb z0 z1 z2 z3 z4 z5 z6 z7 z8 z9
        obtain ⟨z0, z1, z2, z3, z4, z5, z6, z7, z8, z9⟩ := HA2.out.at_
        have hs2 : w.heap.size < w2.heap.size := HA2.out.lt
        have zf2 := HA2.out.fz
        go_wp2_with fail
        refine ((PL _).out HB2.out).mono ?_
        rintro e w3 ⟨rfl, hb⟩
        have HB3 : Hid (Below w.heap.size w w3) := HB2.out.trans (hb.mono HB2.out.size)
        have HA3 := hide (HA2.out.below hb)
        have HZ3 := hide (HZ2.out.below hb)
        clear hb z0 z1 z2 z3 z4 z5 z6 z7 z8 z9
        obtain ⟨z0, z1, z2, z3, z4, z5, z6, z7, z8, z9⟩ := HA3.out.at_
        have hs3 : w.heap.size < w3.heap.size := HA3.out.lt
        have zf3 := HA3.out.fz
        obtain ⟨b, off, x', rfl, hx, hbl, M⟩ := hs_at (H.out.below HB3.out) hp
        obtain rfl : x = x' := by rw [HX.out] at hx; exact Option.some.inj hx
        obtain ⟨c0, c1, c2, c3⟩ := M
        clear hx hbl CK PL
        go_upto_region 5 with fail
        go_wp2_with (refine wpList_store_row rfl 28 (.tmp 10) (.tmp 38) rfl (w.heap.size + 1) #[.string ⟨#[]⟩, .int .i64 0, .int .i64 0, .int .i64 0, .int .i64 0, .slice none 0 0, .int .i64 0, .int .i64 0, .int .i64 0, .int .i64 0] rfl rfl 28 #[.string ⟨#[]⟩, .int .i64 0, .int .i64 0, .int .i64 0, .int .i64 0, .slice none 0 0, .int .i64 0, .int .i64 0, .int .i64 0, .int .i64 0] HZ3.out ac_info rfl (by simp [Value.oneCell']) ?_)
        refine bodyPost_ret (v := .tuple #[.agg #[.string ⟨#[]⟩, .int .i64 0, .int .i64 0, .int .i64 0, .int .i64 0, .slice none 0 0, .int .i64 0, .int .i64 0, .int .i64 0, .int .i64 0], .int .i64 151]) ?r ?d ?_
        case r => exact results_cell_tmp' rfl _ _ (w.heap.size + 1) 28 #[.string ⟨#[]⟩, .int .i64 0, .int .i64 0, .int .i64 0, .int .i64 0, .slice none 0 0, .int .i64 0, .int .i64 0, .int .i64 0, .int .i64 0] (0, 0) _ (.int .i64 151) rfl rfl (setRow_heap _ _ _ _ _ _ HZ3.out) Try.underlying28 rfl ac_info
        case d => rfl
        exact mad_none 151 (below_setRow HB3.out (by omega) _)
  · have e4 : checkE A = 21 := by unfold checkE; rw [if_neg hr]
    rw [e4] at CK
    clear e4
    have eE : reportE A node lease r net = 21 := by unfold reportE; rw [if_neg hr]
    have eA : reportA A node lease r net = ac0 := by unfold reportA; rw [eE]; rfl
    rw [eE, eA]
    clear eE eA
    clear hr h hw hcp
    unfold acval at *
    go_enter Try.func42, Try.ntmps42
    go_wp2_with fail
    obtain ⟨w1, ew, hb1, ha1, hz1⟩ := two_new w A a n c
    rw [← ew]
    have HB1 := hide hb1
    have HA1 := hide ha1
    have HZ1 := hide hz1
    clear hb1 ha1 hz1 ew
    obtain ⟨z0, z1, z2, z3, z4, z5, z6, z7, z8, z9⟩ := HA1.out.at_
    have hs1 : w.heap.size < w1.heap.size := HA1.out.lt
    have HZ1' : Hid (Zr w1 (w.heap.size + 1)) := HZ1.out.zr
    clear HZ1
    have HZ1 := HZ1'
    clear HZ1'
    refine ((CK _).out HB1.out).mono ?_
    rintro e w2 ⟨rfl, hb⟩
    have HB2 : Hid (Below w.heap.size w w2) := HB1.out.trans (hb.mono HB1.out.size)
    have HA2 := hide (HA1.out.below hb)
    have HZ2 := hide (HZ1.out.below hb)
    clear hb z0 z1 z2 z3 z4 z5 z6 z7 z8 z9
    obtain ⟨z0, z1, z2, z3, z4, z5, z6, z7, z8, z9⟩ := HA2.out.at_
    have hs2 : w.heap.size < w2.heap.size := HA2.out.lt
    have zf2 := HA2.out.fz
    go_upto_region 2 with fail
    go_wp2_with (refine wpList_store_row rfl 28 (.tmp 10) (.tmp 17) rfl (w.heap.size + 1) #[.string ⟨#[]⟩, .int .i64 0, .int .i64 0, .int .i64 0, .int .i64 0, .slice none 0 0, .int .i64 0, .int .i64 0, .int .i64 0, .int .i64 0] rfl rfl 28 #[.string ⟨#[]⟩, .int .i64 0, .int .i64 0, .int .i64 0, .int .i64 0, .slice none 0 0, .int .i64 0, .int .i64 0, .int .i64 0, .int .i64 0] HZ2.out ac_info rfl (by simp [Value.oneCell']) ?_)
    refine bodyPost_ret (v := .tuple #[.agg #[.string ⟨#[]⟩, .int .i64 0, .int .i64 0, .int .i64 0, .int .i64 0, .slice none 0 0, .int .i64 0, .int .i64 0, .int .i64 0, .int .i64 0], .int .i64 21]) ?r ?d ?_
    case r => exact results_cell_tmp' rfl _ _ (w.heap.size + 1) 28 #[.string ⟨#[]⟩, .int .i64 0, .int .i64 0, .int .i64 0, .int .i64 0, .slice none 0 0, .int .i64 0, .int .i64 0, .int .i64 0, .int .i64 0] (0, 0) _ (.int .i64 21) rfl rfl (setRow_heap _ _ _ _ _ _ HZ2.out) Try.underlying28 rfl ac_info
    case d => rfl
    exact mad_none 21 (below_setRow HB2.out (by omega) _)
end Go.Proofs.Ytjcbhgkfbilifaa

namespace Go.Proofs.Ytjcbhgkfbilifaa
open Go.ChangeShapes Go.WideShapes Go.ChangeAt Go.RowKit Ao
set_option linter.unusedVariables false

/-- under way: an account's block, its result's place, a holder's block -/
structure Gr (w W : World) (q : Nat) (A : Ac) (a : Option Addr) (n c : Nat) (y : Hd) : Prop where
  b : Below w.heap.size w W
  ab : Ab W w.heap.size A a n c
  zr : Zr W (w.heap.size + 1)
  row : W.heap[q]? = some (.cells #[.int .i64 y.nd, .int .i64 y.ls, .int .i64 y.up, .int .i64 y.dn] 33 (0, 0))
  q : w.heap.size + 1 < q
section
variable {w W : World} {q : Nat} {A : Ac} {a : Option Addr} {n c : Nat} {y : Hd}
theorem Gr.lt (h : Gr w W q A a n c y) : q < W.heap.size := (Array.getElem?_eq_some_iff.1 h.row).1
theorem Gr.below {W' : World} (h : Gr w W q A a n c y) (hb : Below W.heap.size W W') : Gr w W' q A a n c y := ⟨h.b.trans (hb.mono h.b.size), h.ab.below hb, h.zr.below hb, (hb.block _ h.lt).trans h.row, h.q⟩
theorem Gr.drew (h : Gr w W q A a n c y) : Gr w W.drew q A a n c y := h.below ⟨rfl, rfl, rfl, Nat.le_refl _, fun _ _ => rfl⟩
theorem Gr.fz (h : Gr w W q A a n c y) : ∀ o, W.frozen? ⟨q, o, none⟩ = false := fun o => frozen_of_row _ _ _ _ _ h.row
theorem Gr.at_ (h : Gr w W q A a n c y) : HdAt W q 0 y := hd_row y h.row
theorem Gr.two (h : Gr w W q A a n c y) (o o' : Nat) (u v : Value) : Below w.heap.size w ((W.setCell ⟨q, o, none⟩ u).setCell ⟨q, o', none⟩ v) ∧ Ab ((W.setCell ⟨q, o, none⟩ u).setCell ⟨q, o', none⟩ v) w.heap.size A a n c ∧ Zr ((W.setCell ⟨q, o, none⟩ u).setCell ⟨q, o', none⟩ v) (w.heap.size + 1) := by
  have hq := h.q
  exact ⟨(h.b.setCell (p := ⟨q, o, none⟩) (show w.heap.size ≤ q by omega) _).setCell (p := ⟨q, o', none⟩) (show w.heap.size ≤ q by omega) _, ⟨((put_far (by omega)).trans (put_far (by omega))).trans h.ab.row⟩, ((put_far (by omega)).trans (put_far (by omega))).trans h.zr⟩
theorem Gr.put (h : Gr w W q A a n c y) (u v : Int) : Gr w ((W.setCell ⟨q, 2, none⟩ (.int .i64 u)).setCell ⟨q, 3, none⟩ (.int .i64 v)) q A a n c ⟨y.nd, y.ls, u, v⟩ :=
  ⟨(h.two 2 3 _ _).1, (h.two 2 3 _ _).2.1, (h.two 2 3 _ _).2.2, put_row' (put_row' h.row), h.q⟩
theorem Gr.put' (h : Gr w W q A a n c y) (u v : Int) : Gr w ((W.setCell ⟨q, 3, none⟩ (.int .i64 v)).setCell ⟨q, 2, none⟩ (.int .i64 u)) q A a n c ⟨y.nd, y.ls, u, v⟩ :=
  ⟨(h.two 3 2 _ _).1, (h.two 3 2 _ _).2.1, (h.two 3 2 _ _).2.2, put_row' (put_row' h.row), h.q⟩
theorem gr_new (hb : Below w.heap.size w W) (ha : Ab W w.heap.size A a n c) (hz : Zr W (w.heap.size + 1)) (y : Hd) : ∃ W', W' = W.alloc (.cells #[.int .i64 y.nd, .int .i64 y.ls, .int .i64 y.up, .int .i64 y.dn] 33) ∧ Gr w W' W.heap.size A a n c y := by
  have X : Below W.heap.size W (W.alloc (.cells #[.int .i64 y.nd, .int .i64 y.ls, .int .i64 y.up, .int .i64 y.dn] 33)) := Below.alloc (Below.refl _ _) (Nat.le_refl _) _
  exact ⟨_, rfl, hb.trans (X.mono hb.size), ha.below X, hz.below X, heap_alloc_new W _, hz.lt⟩
theorem with_made {l : List Hd} {m : Hd} (h : Hs w a n l) (hr : hsB 0 l = true) (G : Gr w W q A a n c y) : Calls Try.prog 98 #[.slice a n c, hval m] W fun e w' => ∃ a' n' c', e = .returned (.slice a' n' c') ∧ (∀ u cs, Hs ((w'.setCell ⟨w.heap.size, 5, none⟩ u).setRow (w.heap.size + 1) cs) a' n' (insH m l)) ∧ Below w.heap.size w w' ∧ Ab w' w.heap.size A a n c ∧ Zr w' (w.heap.size + 1) ∧ Fr w.heap.size a' ∧ Cp a' n' c' := by
  refine (with_any (m := m) (cp := c) (h.below G.b) hr).mono ?_
  rintro e w' ⟨a', n', c', rfl, h1, h2, h3, h4⟩
  have hz := G.zr.lt
  exact ⟨a', n', c', rfl, fun u cs => (h1.setCell fun ad e => by have := h3 ad e; omega).setRow fun ad e => by have := h3 ad e; omega, G.b.trans (h2.mono G.b.size), G.ab.below h2, G.zr.below h2, h3.mono G.b.size, h4⟩
end
set_option maxRecDepth 100000 in
set_option maxHeartbeats 2000000 in
theorem grant_good {w : World} {a : Option Addr} {n c : Nat} {A : Ac} {node lease nodes : Int} (h : Hs w a n A.hs) (hw : AcW A) (he : grantE A node lease nodes = 0) : Calls Try.prog 39 #[acval A a n c, .int .i64 node, .int .i64 lease, .int .i64 nodes] w fun e w' => Mad w (grantA A node lease nodes) (grantE A node lease nodes) e w' := by
  have H := hide h
  have CK := fun W => hide (fun hW : Below w.heap.size w W => check_any (c := c) (h.below hW) hw)
  have LC := fun W => hide (locked_any A a n c W)
  have NU := fun W => hide (number_any lease W)
  have RM := fun W => hide (fun hW : Below w.heap.size w W => room_any (c := c) (h.below hW) hw)
  have FD := fun W => hide (fun hW : Below w.heap.size w W => find_any (c := c) (node := node) (h.below hW) hw)
  obtain ⟨hR, h1, h2, h3, h4, h5, h6, h7⟩ := grant_ok he
  have hr := (right_iff A).2 hR
  have e4 : checkE A = 0 := by unfold checkE; rw [if_pos hr]
  have e3 : lockedB A = false := by unfold lockedB; rw [h7]; rfl
  have eA : grantA A node lease nodes = { A with hs := insH (grantH A node lease nodes) A.hs } := by unfold grantA; rw [if_pos he]
  have eF : findF A node = findH A.hs node := by unfold findF; rw [if_pos hr]
  rw [e4] at CK
  rw [e3] at LC
  rw [h5] at NU
  rw [eF] at FD
  rw [he, eA]
  have hk1 := room_nonneg A
  have ru : upR A ≤ 18446744073709551615 := by
    have q4 := hw.lo
    have q5 := hw.hi
    have e1 : upR A = A.hi - (A.base + ups A.hs) := by unfold upR; rw [if_pos ⟨hr, h7⟩]
    have := hR.base
    have := (ups_nonneg hR.hs).1
    unfold I64 at *; omega
  have rd_ : downR A ≤ 18446744073709551615 := by
    have q4 := hw.lo
    have q5 := hw.hi
    have e1 : downR A = A.base - downs A.hs - A.lo := by unfold downR; rw [if_pos ⟨hr, h7⟩]
    have := hR.base
    have := (ups_nonneg hR.hs).2
    unfold I64 at *; omega
  have MM := fun (W : World) (l r : Int) (q1 : 0 ≤ l) (q2 : l ≤ 9223372036854775807) (q3 : 0 ≤ r) (q4 : r ≤ 18446744073709551615) => more_any W q1 q2 q3 q4 h1 h2
  have HRH := hide hR.hs
  have hsm := of_small hw.small node
  have hnn := of_nonneg hR node
  have hmem : ∀ x, findH A.hs node = some x → x.nd = node := fun x hx => (find_mem hx).2
  clear he eA e4 e3 eF hr hR h5
  cases hf : findH A.hs node with
  | none =>
    have EM : grantH A node lease nodes = ⟨node, lease, moreI 0 (shareI (upR A) nodes), moreI 0 (shareI (downR A) nodes)⟩ := by unfold grantH; rw [hf]; rfl
    rw [EM]
    rw [hf] at FD
    rw [show (none : Option Hd).getD hd0 = hd0 from rfl, show (none : Option Hd).isSome = false from rfl] at FD
    have MU := fun W => hide (MM W 0 (upR A) (by omega) (by omega) hk1.2 ru)
    have MD := fun W => hide (MM W 0 (downR A) (by omega) (by omega) hk1.1 rd_)
    generalize moreI 0 (shareI (upR A) nodes) = mu at MU ⊢
    generalize moreI 0 (shareI (downR A) nodes) = md at MD ⊢
    clear EM hf MM hk1 ru rd_ hsm hnn hmem hw h
    generalize upR A = u at *
    generalize downR A = d at *
    have k6 : ¬ node < 1 := by omega
    have k7 : ¬ nodes < node := by omega
    have k8 : ¬ 5 < nodes := by omega
    clear h1 h2 h3 h4
    obtain ⟨ak, alo, ahi, ab, ard, ahs, alk⟩ := A
    obtain rfl : ard = 0 := h6
    clear h7
    unfold acval at CK LC RM FD ⊢
    unfold hval at FD
    unfold hd0 at FD
    go_enter Try.func39, Try.ntmps39
    go_wp2_with fail
    obtain ⟨w1, ew, hb1, ha1, hz1⟩ := two_new w ⟨ak, alo, ahi, ab, 0, ahs, alk⟩ a n c
    rw [← ew]
    have HB1 := hide hb1
    have HA1 := hide ha1
    have HZ1 := hide hz1
    clear hb1 ha1 hz1 ew
    obtain ⟨z0, z1, z2, z3, z4, z5, z6, z7, z8, z9⟩ := HA1.out.at_
    have hs1 : w.heap.size < w1.heap.size := HA1.out.lt
    have HZ1' : Hid (Zr w1 (w.heap.size + 1)) := HZ1.out.zr
    clear HZ1
    have HZ1 := HZ1'
    clear HZ1'
    refine ((CK _).out HB1.out).mono ?_
    rintro e w2 ⟨rfl, hb⟩
    have HB2 : Hid (Below w.heap.size w w2) := HB1.out.trans (hb.mono HB1.out.size)
    have HA2 := hide (HA1.out.below hb)
    have HZ2 := hide (HZ1.out.below hb)
    clear hb z0 z1 z2 z3 z4 z5 z6 z7 z8 z9
    obtain ⟨z0, z1, z2, z3, z4, z5, z6, z7, z8, z9⟩ := HA2.out.at_
    have hs2 : w.heap.size < w2.heap.size := HA2.out.lt
    have zf2 := HA2.out.fz
    go_wp2_with (go_at_call 93; refine ((NU _).out).mono ?_; rintro e w' ⟨rfl, hw⟩; rw [hw]; clear hw)
    refine ((LC _).out).mono ?_
    rintro e w3 ⟨rfl, hb⟩
    have HB3 : Hid (Below w.heap.size w w3) := HB2.out.trans (hb.mono HB2.out.size)
    have HA3 := hide (HA2.out.below hb)
    have HZ3 := hide (HZ2.out.below hb)
    clear hb z0 z1 z2 z3 z4 z5 z6 z7 z8 z9
    obtain ⟨z0, z1, z2, z3, z4, z5, z6, z7, z8, z9⟩ := HA3.out.at_
    have hs3 : w.heap.size < w3.heap.size := HA3.out.lt
    have zf3 := HA3.out.fz
    go_wp2_with fail
    refine ((FD _).out HB3.out).mono ?_
    rintro e w4 ⟨rfl, hb⟩
    have HB4 : Hid (Below w.heap.size w w4) := HB3.out.trans (hb.mono HB3.out.size)
    have HA4 := hide (HA3.out.below hb)
    have HZ4 := hide (HZ3.out.below hb)
    clear hb z0 z1 z2 z3 z4 z5 z6 z7 z8 z9
    obtain ⟨z0, z1, z2, z3, z4, z5, z6, z7, z8, z9⟩ := HA4.out.at_
    have hs4 : w.heap.size < w4.heap.size := HA4.out.lt
    have zf4 := HA4.out.fz
    go_upto_region 10 with fail
    obtain ⟨w5, e5, g5⟩ := gr_new HB4.out HA4.out HZ4.out ⟨node, lease, 0, 0⟩
    rw [← e5]
    obtain ⟨q, eq⟩ : ∃ q, q = w4.heap.size := ⟨_, rfl⟩
    rw [← eq] at g5
    try rw [← eq]
    have G5 := hide g5
    clear z0 z1 z2 z3 z4 z5 z6 z7 z8 z9 e5 eq g5 HB4 HA4 HZ4 hs4 zf4
    obtain ⟨z0, z1, z2, z3, z4, z5, z6, z7, z8, z9⟩ := G5.out.ab.at_
    have hs5 : w.heap.size < w5.heap.size := G5.out.ab.lt
    have hq5 : w.heap.size + 1 < q := G5.out.q
    go_wp2_with fail
    refine ((RM _).out G5.out.b).mono ?_
    rintro e w6 ⟨rfl, hb⟩
    have G6 := hide (G5.out.below hb)
    clear hb G5 z0 z1 z2 z3 z4 z5 z6 z7 z8 z9
    go_upto_region 11 with fail
    go_cut [] from 62 to 73 (fun wc => Hid (Gr w wc q ⟨ak, alo, ahi, ab, 0, ahs, alk⟩ a n c ⟨node, lease, mu, md⟩))
    case first =>
      obtain ⟨k0, k1, k2, k3⟩ := G6.out.at_
      have kl := G6.out.lt
      go_region_with ((first | (go_at_call_of 97 (Value.int IntKind.u64 u); refine (MU _).out.mono ?_; rintro e w7 ⟨rfl, hb⟩; have G7 : Hid (Gr w w7 q ⟨ak, alo, ahi, ab, 0, ahs, alk⟩ a n c ⟨node, lease, 0, 0⟩) := (by first | exact hide (G7.out.below hb) | exact hide (G6.out.drew.below hb)); obtain ⟨j0, j1, j2, j3⟩ := G7.out.at_; have jz := G7.out.fz; have jl := G7.out.lt; clear hb) | (go_at_call_of 97 (Value.int IntKind.u64 d); refine (MD _).out.mono ?_; rintro e w7 ⟨rfl, hb⟩; have G7 : Hid (Gr w w7 q ⟨ak, alo, ahi, ab, 0, ahs, alk⟩ a n c ⟨node, lease, 0, 0⟩) := (by first | exact hide (G7.out.below hb) | exact hide (G6.out.drew.below hb)); obtain ⟨j0, j1, j2, j3⟩ := G7.out.at_; have jz := G7.out.fz; have jl := G7.out.lt; clear hb)))
      all_goals (go_wp2_with fail; go_meet; case rel => first | exact hide (G7.out.put _ _) | exact hide (G7.out.put' _ _))
    case rest =>
      have G8 := hcut
      clear hcut
      obtain ⟨z0, z1, z2, z3, z4, z5, z6, z7, z8, z9⟩ := G8.out.ab.at_
      have hs8 := G8.out.ab.lt
      obtain ⟨k0, k1, k2, k3⟩ := G8.out.at_
      have kl := G8.out.lt
      go_wp2_with fail
      refine (with_made (m := ⟨node, lease, mu, md⟩) H.out HRH.out G8.out).mono ?_
      rintro e w9 ⟨a', n', c', rfl, h5, hb5, ha5, hz5, hf5, hc5⟩
      have H5 := hide h5
      have B5 := hide hb5
      have F5 := hide hf5
      have C5 := hide hc5
      have Z5 := hide hz5
      clear h5 hb5 hz5 hf5 hc5 z0 z1 z2 z3 z4 z5 z6 z7 z8 z9 k0 k1 k2 k3
      obtain ⟨z0, z1, z2, z3, z4, z5, z6, z7, z8, z9⟩ := ha5.at_
      have hs9 : w.heap.size < w9.heap.size := ha5.lt
      have zf9 := ha5.fz
      clear ha5
      go_upto_region 13 with fail
      go_wp2_with (refine wpList_store_row rfl 28 (.tmp 8) (.tmp 79) rfl (w.heap.size + 1) #[.string ak, .int .i64 (alo), .int .i64 (ahi), .int .i64 (ab), .int .i64 (0), (.slice a' n' c'), .int .i64 (alk.c), .int .i64 (alk.s), .int .i64 (alk.h), .int .i64 (alk.n)] rfl rfl 28 #[.string ⟨#[]⟩, .int .i64 0, .int .i64 0, .int .i64 0, .int .i64 0, .slice none 0 0, .int .i64 0, .int .i64 0, .int .i64 0, .int .i64 0] (z_far Z5.out) ac_info rfl (by simp [Value.oneCell']) ?_)
      refine bodyPost_ret (v := .tuple #[.agg #[.string ak, .int .i64 (alo), .int .i64 (ahi), .int .i64 (ab), .int .i64 (0), (.slice a' n' c'), .int .i64 (alk.c), .int .i64 (alk.s), .int .i64 (alk.h), .int .i64 (alk.n)], .int .i64 0]) ?r ?d ?_
      case r => exact results_cell_tmp' rfl _ _ (w.heap.size + 1) 28 #[.string ak, .int .i64 (alo), .int .i64 (ahi), .int .i64 (ab), .int .i64 (0), (.slice a' n' c'), .int .i64 (alk.c), .int .i64 (alk.s), .int .i64 (alk.h), .int .i64 (alk.n)] (0, 0) _ (.int .i64 0) rfl rfl (setRow_heap _ _ _ _ _ _ (z_far Z5.out)) Try.underlying28 rfl ac_info
      case d => rfl
      exact ⟨a', n', c', rfl, H5.out _ _, below_setRow (b_set B5.out) (by omega) _, F5.out, C5.out⟩
  | some x =>
    have EM : grantH A node lease nodes = ⟨node, x.ls, moreI x.up (shareI (upR A) nodes), moreI x.dn (shareI (downR A) nodes)⟩ := by unfold grantH; rw [hf]; rfl
    rw [EM]
    rw [hf] at FD hsm hnn
    rw [show (some x).getD hd0 = x from rfl, show (some x).isSome = true from rfl] at FD
    obtain rfl := hmem x hf
    have MU := fun W => hide (MM W x.up (upR A) hnn.1 hsm.1 hk1.2 ru)
    have MD := fun W => hide (MM W x.dn (downR A) hnn.2 hsm.2 hk1.1 rd_)
    generalize moreI x.up (shareI (upR A) nodes) = mu at MU ⊢
    generalize moreI x.dn (shareI (downR A) nodes) = md at MD ⊢
    clear EM hf MM hk1 ru rd_ hsm hnn hmem hw h
    generalize upR A = u at *
    generalize downR A = d at *
    have k6 : ¬ x.nd < 1 := by omega
    have k7 : ¬ nodes < x.nd := by omega
    have k8 : ¬ 5 < nodes := by omega
    clear h1 h2 h3 h4
    obtain ⟨ak, alo, ahi, ab, ard, ahs, alk⟩ := A
    obtain rfl : ard = 0 := h6
    clear h7
    unfold acval at CK LC RM FD ⊢
    unfold hval at FD
    go_enter Try.func39, Try.ntmps39
    go_wp2_with fail
    obtain ⟨w1, ew, hb1, ha1, hz1⟩ := two_new w ⟨ak, alo, ahi, ab, 0, ahs, alk⟩ a n c
    rw [← ew]
    have HB1 := hide hb1
    have HA1 := hide ha1
    have HZ1 := hide hz1
    clear hb1 ha1 hz1 ew
    obtain ⟨z0, z1, z2, z3, z4, z5, z6, z7, z8, z9⟩ := HA1.out.at_
    have hs1 : w.heap.size < w1.heap.size := HA1.out.lt
    have HZ1' : Hid (Zr w1 (w.heap.size + 1)) := HZ1.out.zr
    clear HZ1
    have HZ1 := HZ1'
    clear HZ1'
    refine ((CK _).out HB1.out).mono ?_
    rintro e w2 ⟨rfl, hb⟩
    have HB2 : Hid (Below w.heap.size w w2) := HB1.out.trans (hb.mono HB1.out.size)
    have HA2 := hide (HA1.out.below hb)
    have HZ2 := hide (HZ1.out.below hb)
    clear hb z0 z1 z2 z3 z4 z5 z6 z7 z8 z9
    obtain ⟨z0, z1, z2, z3, z4, z5, z6, z7, z8, z9⟩ := HA2.out.at_
    have hs2 : w.heap.size < w2.heap.size := HA2.out.lt
    have zf2 := HA2.out.fz
    go_wp2_with (go_at_call 93; refine ((NU _).out).mono ?_; rintro e w' ⟨rfl, hw⟩; rw [hw]; clear hw)
    refine ((LC _).out).mono ?_
    rintro e w3 ⟨rfl, hb⟩
    have HB3 : Hid (Below w.heap.size w w3) := HB2.out.trans (hb.mono HB2.out.size)
    have HA3 := hide (HA2.out.below hb)
    have HZ3 := hide (HZ2.out.below hb)
    clear hb z0 z1 z2 z3 z4 z5 z6 z7 z8 z9
    obtain ⟨z0, z1, z2, z3, z4, z5, z6, z7, z8, z9⟩ := HA3.out.at_
    have hs3 : w.heap.size < w3.heap.size := HA3.out.lt
    have zf3 := HA3.out.fz
    go_wp2_with fail
    refine ((FD _).out HB3.out).mono ?_
    rintro e w4 ⟨rfl, hb⟩
    have HB4 : Hid (Below w.heap.size w w4) := HB3.out.trans (hb.mono HB3.out.size)
    have HA4 := hide (HA3.out.below hb)
    have HZ4 := hide (HZ3.out.below hb)
    clear hb z0 z1 z2 z3 z4 z5 z6 z7 z8 z9
    obtain ⟨z0, z1, z2, z3, z4, z5, z6, z7, z8, z9⟩ := HA4.out.at_
    have hs4 : w.heap.size < w4.heap.size := HA4.out.lt
    have zf4 := HA4.out.fz
    go_upto_region 10 with fail
    obtain ⟨w5, e5, g5⟩ := gr_new HB4.out HA4.out HZ4.out x
    rw [← e5]
    obtain ⟨q, eq⟩ : ∃ q, q = w4.heap.size := ⟨_, rfl⟩
    rw [← eq] at g5
    try rw [← eq]
    have G5 := hide g5
    clear z0 z1 z2 z3 z4 z5 z6 z7 z8 z9 e5 eq g5 HB4 HA4 HZ4 hs4 zf4
    obtain ⟨z0, z1, z2, z3, z4, z5, z6, z7, z8, z9⟩ := G5.out.ab.at_
    have hs5 : w.heap.size < w5.heap.size := G5.out.ab.lt
    have hq5 : w.heap.size + 1 < q := G5.out.q
    go_wp2_with fail
    refine ((RM _).out G5.out.b).mono ?_
    rintro e w6 ⟨rfl, hb⟩
    have G6 := hide (G5.out.below hb)
    clear hb G5 z0 z1 z2 z3 z4 z5 z6 z7 z8 z9
    go_upto_region 11 with fail
    go_cut [] from 62 to 73 (fun wc => Hid (Gr w wc q ⟨ak, alo, ahi, ab, 0, ahs, alk⟩ a n c ⟨x.nd, x.ls, mu, md⟩))
    case first =>
      obtain ⟨k0, k1, k2, k3⟩ := G6.out.at_
      have kl := G6.out.lt
      go_region_with ((first | (go_at_call_of 97 (Value.int IntKind.u64 u); refine (MU _).out.mono ?_; rintro e w7 ⟨rfl, hb⟩; have G7 : Hid (Gr w w7 q ⟨ak, alo, ahi, ab, 0, ahs, alk⟩ a n c x) := (by first | exact hide (G7.out.below hb) | exact hide (G6.out.drew.below hb)); obtain ⟨j0, j1, j2, j3⟩ := G7.out.at_; have jz := G7.out.fz; have jl := G7.out.lt; clear hb) | (go_at_call_of 97 (Value.int IntKind.u64 d); refine (MD _).out.mono ?_; rintro e w7 ⟨rfl, hb⟩; have G7 : Hid (Gr w w7 q ⟨ak, alo, ahi, ab, 0, ahs, alk⟩ a n c x) := (by first | exact hide (G7.out.below hb) | exact hide (G6.out.drew.below hb)); obtain ⟨j0, j1, j2, j3⟩ := G7.out.at_; have jz := G7.out.fz; have jl := G7.out.lt; clear hb)))
      all_goals (go_wp2_with fail; go_meet; case rel => first | exact hide (G7.out.put _ _) | exact hide (G7.out.put' _ _))
    case rest =>
      have G8 := hcut
      clear hcut
      obtain ⟨z0, z1, z2, z3, z4, z5, z6, z7, z8, z9⟩ := G8.out.ab.at_
      have hs8 := G8.out.ab.lt
      obtain ⟨k0, k1, k2, k3⟩ := G8.out.at_
      have kl := G8.out.lt
      go_wp2_with fail
      refine (with_made (m := ⟨x.nd, x.ls, mu, md⟩) H.out HRH.out G8.out).mono ?_
      rintro e w9 ⟨a', n', c', rfl, h5, hb5, ha5, hz5, hf5, hc5⟩
      have H5 := hide h5
      have B5 := hide hb5
      have F5 := hide hf5
      have C5 := hide hc5
      have Z5 := hide hz5
      clear h5 hb5 hz5 hf5 hc5 z0 z1 z2 z3 z4 z5 z6 z7 z8 z9 k0 k1 k2 k3
      obtain ⟨z0, z1, z2, z3, z4, z5, z6, z7, z8, z9⟩ := ha5.at_
      have hs9 : w.heap.size < w9.heap.size := ha5.lt
      have zf9 := ha5.fz
      clear ha5
      go_upto_region 13 with fail
      go_wp2_with (refine wpList_store_row rfl 28 (.tmp 8) (.tmp 79) rfl (w.heap.size + 1) #[.string ak, .int .i64 (alo), .int .i64 (ahi), .int .i64 (ab), .int .i64 (0), (.slice a' n' c'), .int .i64 (alk.c), .int .i64 (alk.s), .int .i64 (alk.h), .int .i64 (alk.n)] rfl rfl 28 #[.string ⟨#[]⟩, .int .i64 0, .int .i64 0, .int .i64 0, .int .i64 0, .slice none 0 0, .int .i64 0, .int .i64 0, .int .i64 0, .int .i64 0] (z_far Z5.out) ac_info rfl (by simp [Value.oneCell']) ?_)
      refine bodyPost_ret (v := .tuple #[.agg #[.string ak, .int .i64 (alo), .int .i64 (ahi), .int .i64 (ab), .int .i64 (0), (.slice a' n' c'), .int .i64 (alk.c), .int .i64 (alk.s), .int .i64 (alk.h), .int .i64 (alk.n)], .int .i64 0]) ?r ?d ?_
      case r => exact results_cell_tmp' rfl _ _ (w.heap.size + 1) 28 #[.string ak, .int .i64 (alo), .int .i64 (ahi), .int .i64 (ab), .int .i64 (0), (.slice a' n' c'), .int .i64 (alk.c), .int .i64 (alk.s), .int .i64 (alk.h), .int .i64 (alk.n)] (0, 0) _ (.int .i64 0) rfl rfl (setRow_heap _ _ _ _ _ _ (z_far Z5.out)) Try.underlying28 rfl ac_info
      case d => rfl
      exact ⟨a', n', c', rfl, H5.out _ _, below_setRow (b_set B5.out) (by omega) _, F5.out, C5.out⟩
end Go.Proofs.Ytjcbhgkfbilifaa

namespace Go.Proofs.Ytjcbhgkfbilifaa
open Go.ChangeShapes Go.WideShapes Go.ChangeAt Go.RowKit Ao
set_option linter.unusedVariables false

set_option maxRecDepth 100000 in
set_option maxHeartbeats 2000000 in
theorem grant_bad {w : World} {a : Option Addr} {n c : Nat} {A : Ac} {node lease nodes : Int} (h : Hs w a n A.hs) (hw : AcW A) (he : ¬ grantE A node lease nodes = 0) : Calls Try.prog 39 #[acval A a n c, .int .i64 node, .int .i64 lease, .int .i64 nodes] w fun e w' => Mad w (grantA A node lease nodes) (grantE A node lease nodes) e w' := by
  have H := hide h
  have CK := fun W => hide (fun hW : Below w.heap.size w W => check_any (c := c) (h.below hW) hw)
  have LC := fun W => hide (locked_any A a n c W)
  have NU := fun W => hide (number_any lease W)
  by_cases hr : rightB A = true
  · have e4 : checkE A = 0 := by unfold checkE; rw [if_pos hr]
    rw [e4] at CK
    clear e4
    by_cases h1 : 1 ≤ node ∧ node ≤ nodes ∧ nodes ≤ 5
    · obtain ⟨g1, g2, g3⟩ := h1
      cases hn : numB lease
      · rw [hn] at NU
        have eE : grantE A node lease nodes = 1 := by unfold grantE; rw [if_pos hr, if_neg (by rw [hn]; simp)]
        have eA : grantA A node lease nodes = ac0 := by unfold grantA; rw [eE]; rfl
        rw [eE, eA]
        clear eE eA
        clear h hw he hr hn LC
        unfold acval at *
        go_enter Try.func39, Try.ntmps39
        go_wp2_with fail
        obtain ⟨w1, ew, hb1, ha1, hz1⟩ := two_new w A a n c
        rw [← ew]
        have HB1 := hide hb1
        have HA1 := hide ha1
        have HZ1 := hide hz1
        clear hb1 ha1 hz1 ew
        obtain ⟨z0, z1, z2, z3, z4, z5, z6, z7, z8, z9⟩ := HA1.out.at_
        have hs1 : w.heap.size < w1.heap.size := HA1.out.lt
        have HZ1' : Hid (Zr w1 (w.heap.size + 1)) := HZ1.out.zr
        clear HZ1
        have HZ1 := HZ1'
        clear HZ1'
        refine ((CK _).out HB1.out).mono ?_
        rintro e w2 ⟨rfl, hb⟩
        have HB2 : Hid (Below w.heap.size w w2) := HB1.out.trans (hb.mono HB1.out.size)
        have HA2 := hide (HA1.out.below hb)
        have HZ2 := hide (HZ1.out.below hb)
        clear hb z0 z1 z2 z3 z4 z5 z6 z7 z8 z9
        obtain ⟨z0, z1, z2, z3, z4, z5, z6, z7, z8, z9⟩ := HA2.out.at_
        have hs2 : w.heap.size < w2.heap.size := HA2.out.lt
        have zf2 := HA2.out.fz
        go_upto_region 4 with (go_at_call 93; refine ((NU _).out).mono ?_; rintro e w' ⟨rfl, hw⟩; rw [hw]; clear hw)
        go_wp2_with (refine wpList_store_row rfl 28 (.tmp 8) (.tmp 36) rfl (w.heap.size + 1) #[.string ⟨#[]⟩, .int .i64 0, .int .i64 0, .int .i64 0, .int .i64 0, .slice none 0 0, .int .i64 0, .int .i64 0, .int .i64 0, .int .i64 0] rfl rfl 28 #[.string ⟨#[]⟩, .int .i64 0, .int .i64 0, .int .i64 0, .int .i64 0, .slice none 0 0, .int .i64 0, .int .i64 0, .int .i64 0, .int .i64 0] HZ2.out ac_info rfl (by simp [Value.oneCell']) ?_)
        refine bodyPost_ret (v := .tuple #[.agg #[.string ⟨#[]⟩, .int .i64 0, .int .i64 0, .int .i64 0, .int .i64 0, .slice none 0 0, .int .i64 0, .int .i64 0, .int .i64 0, .int .i64 0], .int .i64 1]) ?r ?d ?_
        case r => exact results_cell_tmp' rfl _ _ (w.heap.size + 1) 28 #[.string ⟨#[]⟩, .int .i64 0, .int .i64 0, .int .i64 0, .int .i64 0, .slice none 0 0, .int .i64 0, .int .i64 0, .int .i64 0, .int .i64 0] (0, 0) _ (.int .i64 1) rfl rfl (setRow_heap _ _ _ _ _ _ HZ2.out) Try.underlying28 rfl ac_info
        case d => rfl
        exact mad_none 1 (below_setRow HB2.out (by omega) _)
      · rw [hn] at NU
        have hok : 1 ≤ nodes ∧ nodes ≤ 5 ∧ 1 ≤ node ∧ node ≤ nodes ∧ numB lease = true := ⟨by omega, g3, g1, g2, hn⟩
        by_cases hrd : A.rd = 0
        · by_cases hl : A.lk.c = 0
          · exact absurd (by unfold grantE; rw [if_pos hr, if_pos hok, if_pos ⟨hrd, hl⟩]) he
          · have e3 : lockedB A = true := by unfold lockedB; rw [decide_eq_false hl]; rfl
            rw [e3] at LC
            have eE : grantE A node lease nodes = 152 := by unfold grantE; rw [if_pos hr, if_pos hok, if_neg fun h => hl h.2]
            have eA : grantA A node lease nodes = ac0 := by unfold grantA; rw [eE]; rfl
            rw [eE, eA]
            clear eE eA h hw he hr hn hok e3
            obtain ⟨ak, alo, ahi, ab, ard, ahs, alk⟩ := A
            obtain rfl : ard = 0 := hrd
            unfold acval at *
            go_enter Try.func39, Try.ntmps39
            go_wp2_with fail
            obtain ⟨w1, ew, hb1, ha1, hz1⟩ := two_new w ⟨ak, alo, ahi, ab, 0, ahs, alk⟩ a n c
            rw [← ew]
            have HB1 := hide hb1
            have HA1 := hide ha1
            have HZ1 := hide hz1
            clear hb1 ha1 hz1 ew
            obtain ⟨z0, z1, z2, z3, z4, z5, z6, z7, z8, z9⟩ := HA1.out.at_
            have hs1 : w.heap.size < w1.heap.size := HA1.out.lt
            have HZ1' : Hid (Zr w1 (w.heap.size + 1)) := HZ1.out.zr
            clear HZ1
            have HZ1 := HZ1'
            clear HZ1'
            refine ((CK _).out HB1.out).mono ?_
            rintro e w2 ⟨rfl, hb⟩
            have HB2 : Hid (Below w.heap.size w w2) := HB1.out.trans (hb.mono HB1.out.size)
            have HA2 := hide (HA1.out.below hb)
            have HZ2 := hide (HZ1.out.below hb)
            clear hb z0 z1 z2 z3 z4 z5 z6 z7 z8 z9
            obtain ⟨z0, z1, z2, z3, z4, z5, z6, z7, z8, z9⟩ := HA2.out.at_
            have hs2 : w.heap.size < w2.heap.size := HA2.out.lt
            have zf2 := HA2.out.fz
            go_wp2_with (go_at_call 93; refine ((NU _).out).mono ?_; rintro e w' ⟨rfl, hw⟩; rw [hw]; clear hw)
            refine ((LC _).out).mono ?_
            rintro e w3 ⟨rfl, hb⟩
            have HB3 : Hid (Below w.heap.size w w3) := HB2.out.trans (hb.mono HB2.out.size)
            have HA3 := hide (HA2.out.below hb)
            have HZ3 := hide (HZ2.out.below hb)
            clear hb z0 z1 z2 z3 z4 z5 z6 z7 z8 z9
            obtain ⟨z0, z1, z2, z3, z4, z5, z6, z7, z8, z9⟩ := HA3.out.at_
            have hs3 : w.heap.size < w3.heap.size := HA3.out.lt
            have zf3 := HA3.out.fz
            go_upto_region 6 with fail
            go_wp2_with (refine wpList_store_row rfl 28 (.tmp 8) (.tmp 45) rfl (w.heap.size + 1) #[.string ⟨#[]⟩, .int .i64 0, .int .i64 0, .int .i64 0, .int .i64 0, .slice none 0 0, .int .i64 0, .int .i64 0, .int .i64 0, .int .i64 0] rfl rfl 28 #[.string ⟨#[]⟩, .int .i64 0, .int .i64 0, .int .i64 0, .int .i64 0, .slice none 0 0, .int .i64 0, .int .i64 0, .int .i64 0, .int .i64 0] HZ3.out ac_info rfl (by simp [Value.oneCell']) ?_)
            refine bodyPost_ret (v := .tuple #[.agg #[.string ⟨#[]⟩, .int .i64 0, .int .i64 0, .int .i64 0, .int .i64 0, .slice none 0 0, .int .i64 0, .int .i64 0, .int .i64 0, .int .i64 0], .int .i64 152]) ?r ?d ?_
            case r => exact results_cell_tmp' rfl _ _ (w.heap.size + 1) 28 #[.string ⟨#[]⟩, .int .i64 0, .int .i64 0, .int .i64 0, .int .i64 0, .slice none 0 0, .int .i64 0, .int .i64 0, .int .i64 0, .int .i64 0] (0, 0) _ (.int .i64 152) rfl rfl (setRow_heap _ _ _ _ _ _ HZ3.out) Try.underlying28 rfl ac_info
            case d => rfl
            exact mad_none 152 (below_setRow HB3.out (by omega) _)
        · have eE : grantE A node lease nodes = 152 := by unfold grantE; rw [if_pos hr, if_pos hok, if_neg fun h => hrd h.1]
          have eA : grantA A node lease nodes = ac0 := by unfold grantA; rw [eE]; rfl
          rw [eE, eA]
          clear eE eA
          clear h hw he hr hn hok LC
          unfold acval at *
          go_enter Try.func39, Try.ntmps39
          go_wp2_with fail
          obtain ⟨w1, ew, hb1, ha1, hz1⟩ := two_new w A a n c
          rw [← ew]
          have HB1 := hide hb1
          have HA1 := hide ha1
          have HZ1 := hide hz1
          clear hb1 ha1 hz1 ew
          obtain ⟨z0, z1, z2, z3, z4, z5, z6, z7, z8, z9⟩ := HA1.out.at_
          have hs1 : w.heap.size < w1.heap.size := HA1.out.lt
          have HZ1' : Hid (Zr w1 (w.heap.size + 1)) := HZ1.out.zr
          clear HZ1
          have HZ1 := HZ1'
          clear HZ1'
          refine ((CK _).out HB1.out).mono ?_
          rintro e w2 ⟨rfl, hb⟩
          have HB2 : Hid (Below w.heap.size w w2) := HB1.out.trans (hb.mono HB1.out.size)
          have HA2 := hide (HA1.out.below hb)
          have HZ2 := hide (HZ1.out.below hb)
          clear hb z0 z1 z2 z3 z4 z5 z6 z7 z8 z9
          obtain ⟨z0, z1, z2, z3, z4, z5, z6, z7, z8, z9⟩ := HA2.out.at_
          have hs2 : w.heap.size < w2.heap.size := HA2.out.lt
          have zf2 := HA2.out.fz
          go_upto_region 6 with (go_at_call 93; refine ((NU _).out).mono ?_; rintro e w' ⟨rfl, hw⟩; rw [hw]; clear hw)
          go_wp2_with (refine wpList_store_row rfl 28 (.tmp 8) (.tmp 45) rfl (w.heap.size + 1) #[.string ⟨#[]⟩, .int .i64 0, .int .i64 0, .int .i64 0, .int .i64 0, .slice none 0 0, .int .i64 0, .int .i64 0, .int .i64 0, .int .i64 0] rfl rfl 28 #[.string ⟨#[]⟩, .int .i64 0, .int .i64 0, .int .i64 0, .int .i64 0, .slice none 0 0, .int .i64 0, .int .i64 0, .int .i64 0, .int .i64 0] HZ2.out ac_info rfl (by simp [Value.oneCell']) ?_)
          refine bodyPost_ret (v := .tuple #[.agg #[.string ⟨#[]⟩, .int .i64 0, .int .i64 0, .int .i64 0, .int .i64 0, .slice none 0 0, .int .i64 0, .int .i64 0, .int .i64 0, .int .i64 0], .int .i64 152]) ?r ?d ?_
          case r => exact results_cell_tmp' rfl _ _ (w.heap.size + 1) 28 #[.string ⟨#[]⟩, .int .i64 0, .int .i64 0, .int .i64 0, .int .i64 0, .slice none 0 0, .int .i64 0, .int .i64 0, .int .i64 0, .int .i64 0] (0, 0) _ (.int .i64 152) rfl rfl (setRow_heap _ _ _ _ _ _ HZ2.out) Try.underlying28 rfl ac_info
          case d => rfl
          exact mad_none 152 (below_setRow HB2.out (by omega) _)
    · have hok : ¬ (1 ≤ nodes ∧ nodes ≤ 5 ∧ 1 ≤ node ∧ node ≤ nodes ∧ numB lease = true) := fun x => h1 ⟨x.2.2.1, x.2.2.2.1, x.2.1⟩
      by_cases g1 : node < 1
      · have eE : grantE A node lease nodes = 1 := by unfold grantE; rw [if_pos hr, if_neg hok]
        have eA : grantA A node lease nodes = ac0 := by unfold grantA; rw [eE]; rfl
        rw [eE, eA]
        clear eE eA
        clear h hw he hr hok h1 LC NU
        unfold acval at *
        go_enter Try.func39, Try.ntmps39
        go_wp2_with fail
        obtain ⟨w1, ew, hb1, ha1, hz1⟩ := two_new w A a n c
        rw [← ew]
        have HB1 := hide hb1
        have HA1 := hide ha1
        have HZ1 := hide hz1
        clear hb1 ha1 hz1 ew
        obtain ⟨z0, z1, z2, z3, z4, z5, z6, z7, z8, z9⟩ := HA1.out.at_
        have hs1 : w.heap.size < w1.heap.size := HA1.out.lt
        have HZ1' : Hid (Zr w1 (w.heap.size + 1)) := HZ1.out.zr
        clear HZ1
        have HZ1 := HZ1'
        clear HZ1'
        refine ((CK _).out HB1.out).mono ?_
        rintro e w2 ⟨rfl, hb⟩
        have HB2 : Hid (Below w.heap.size w w2) := HB1.out.trans (hb.mono HB1.out.size)
        have HA2 := hide (HA1.out.below hb)
        have HZ2 := hide (HZ1.out.below hb)
        clear hb z0 z1 z2 z3 z4 z5 z6 z7 z8 z9
        obtain ⟨z0, z1, z2, z3, z4, z5, z6, z7, z8, z9⟩ := HA2.out.at_
        have hs2 : w.heap.size < w2.heap.size := HA2.out.lt
        have zf2 := HA2.out.fz
        go_upto_region 4 with fail
        go_wp2_with (refine wpList_store_row rfl 28 (.tmp 8) (.tmp 36) rfl (w.heap.size + 1) #[.string ⟨#[]⟩, .int .i64 0, .int .i64 0, .int .i64 0, .int .i64 0, .slice none 0 0, .int .i64 0, .int .i64 0, .int .i64 0, .int .i64 0] rfl rfl 28 #[.string ⟨#[]⟩, .int .i64 0, .int .i64 0, .int .i64 0, .int .i64 0, .slice none 0 0, .int .i64 0, .int .i64 0, .int .i64 0, .int .i64 0] HZ2.out ac_info rfl (by simp [Value.oneCell']) ?_)
        refine bodyPost_ret (v := .tuple #[.agg #[.string ⟨#[]⟩, .int .i64 0, .int .i64 0, .int .i64 0, .int .i64 0, .slice none 0 0, .int .i64 0, .int .i64 0, .int .i64 0, .int .i64 0], .int .i64 1]) ?r ?d ?_
        case r => exact results_cell_tmp' rfl _ _ (w.heap.size + 1) 28 #[.string ⟨#[]⟩, .int .i64 0, .int .i64 0, .int .i64 0, .int .i64 0, .slice none 0 0, .int .i64 0, .int .i64 0, .int .i64 0, .int .i64 0] (0, 0) _ (.int .i64 1) rfl rfl (setRow_heap _ _ _ _ _ _ HZ2.out) Try.underlying28 rfl ac_info
        case d => rfl
        exact mad_none 1 (below_setRow HB2.out (by omega) _)
      by_cases g2 : nodes < node
      · have eE : grantE A node lease nodes = 1 := by unfold grantE; rw [if_pos hr, if_neg hok]
        have eA : grantA A node lease nodes = ac0 := by unfold grantA; rw [eE]; rfl
        rw [eE, eA]
        clear eE eA
        clear h hw he hr hok h1 LC NU
        unfold acval at *
        go_enter Try.func39, Try.ntmps39
        go_wp2_with fail
        obtain ⟨w1, ew, hb1, ha1, hz1⟩ := two_new w A a n c
        rw [← ew]
        have HB1 := hide hb1
        have HA1 := hide ha1
        have HZ1 := hide hz1
        clear hb1 ha1 hz1 ew
        obtain ⟨z0, z1, z2, z3, z4, z5, z6, z7, z8, z9⟩ := HA1.out.at_
        have hs1 : w.heap.size < w1.heap.size := HA1.out.lt
        have HZ1' : Hid (Zr w1 (w.heap.size + 1)) := HZ1.out.zr
        clear HZ1
        have HZ1 := HZ1'
        clear HZ1'
        refine ((CK _).out HB1.out).mono ?_
        rintro e w2 ⟨rfl, hb⟩
        have HB2 : Hid (Below w.heap.size w w2) := HB1.out.trans (hb.mono HB1.out.size)
        have HA2 := hide (HA1.out.below hb)
        have HZ2 := hide (HZ1.out.below hb)
        clear hb z0 z1 z2 z3 z4 z5 z6 z7 z8 z9
        obtain ⟨z0, z1, z2, z3, z4, z5, z6, z7, z8, z9⟩ := HA2.out.at_
        have hs2 : w.heap.size < w2.heap.size := HA2.out.lt
        have zf2 := HA2.out.fz
        go_upto_region 4 with fail
        go_wp2_with (refine wpList_store_row rfl 28 (.tmp 8) (.tmp 36) rfl (w.heap.size + 1) #[.string ⟨#[]⟩, .int .i64 0, .int .i64 0, .int .i64 0, .int .i64 0, .slice none 0 0, .int .i64 0, .int .i64 0, .int .i64 0, .int .i64 0] rfl rfl 28 #[.string ⟨#[]⟩, .int .i64 0, .int .i64 0, .int .i64 0, .int .i64 0, .slice none 0 0, .int .i64 0, .int .i64 0, .int .i64 0, .int .i64 0] HZ2.out ac_info rfl (by simp [Value.oneCell']) ?_)
        refine bodyPost_ret (v := .tuple #[.agg #[.string ⟨#[]⟩, .int .i64 0, .int .i64 0, .int .i64 0, .int .i64 0, .slice none 0 0, .int .i64 0, .int .i64 0, .int .i64 0, .int .i64 0], .int .i64 1]) ?r ?d ?_
        case r => exact results_cell_tmp' rfl _ _ (w.heap.size + 1) 28 #[.string ⟨#[]⟩, .int .i64 0, .int .i64 0, .int .i64 0, .int .i64 0, .slice none 0 0, .int .i64 0, .int .i64 0, .int .i64 0, .int .i64 0] (0, 0) _ (.int .i64 1) rfl rfl (setRow_heap _ _ _ _ _ _ HZ2.out) Try.underlying28 rfl ac_info
        case d => rfl
        exact mad_none 1 (below_setRow HB2.out (by omega) _)
      have g3 : 5 < nodes := by omega
      have eE : grantE A node lease nodes = 1 := by unfold grantE; rw [if_pos hr, if_neg hok]
      have eA : grantA A node lease nodes = ac0 := by unfold grantA; rw [eE]; rfl
      rw [eE, eA]
      clear eE eA
      clear h hw he hr hok h1 LC NU
      unfold acval at *
      go_enter Try.func39, Try.ntmps39
      go_wp2_with fail
      obtain ⟨w1, ew, hb1, ha1, hz1⟩ := two_new w A a n c
      rw [← ew]
      have HB1 := hide hb1
      have HA1 := hide ha1
      have HZ1 := hide hz1
      clear hb1 ha1 hz1 ew
      obtain ⟨z0, z1, z2, z3, z4, z5, z6, z7, z8, z9⟩ := HA1.out.at_
      have hs1 : w.heap.size < w1.heap.size := HA1.out.lt
      have HZ1' : Hid (Zr w1 (w.heap.size + 1)) := HZ1.out.zr
      clear HZ1
      have HZ1 := HZ1'
      clear HZ1'
      refine ((CK _).out HB1.out).mono ?_
      rintro e w2 ⟨rfl, hb⟩
      have HB2 : Hid (Below w.heap.size w w2) := HB1.out.trans (hb.mono HB1.out.size)
      have HA2 := hide (HA1.out.below hb)
      have HZ2 := hide (HZ1.out.below hb)
      clear hb z0 z1 z2 z3 z4 z5 z6 z7 z8 z9
      obtain ⟨z0, z1, z2, z3, z4, z5, z6, z7, z8, z9⟩ := HA2.out.at_
      have hs2 : w.heap.size < w2.heap.size := HA2.out.lt
      have zf2 := HA2.out.fz
      go_upto_region 4 with fail
      go_wp2_with (refine wpList_store_row rfl 28 (.tmp 8) (.tmp 36) rfl (w.heap.size + 1) #[.string ⟨#[]⟩, .int .i64 0, .int .i64 0, .int .i64 0, .int .i64 0, .slice none 0 0, .int .i64 0, .int .i64 0, .int .i64 0, .int .i64 0] rfl rfl 28 #[.string ⟨#[]⟩, .int .i64 0, .int .i64 0, .int .i64 0, .int .i64 0, .slice none 0 0, .int .i64 0, .int .i64 0, .int .i64 0, .int .i64 0] HZ2.out ac_info rfl (by simp [Value.oneCell']) ?_)
      refine bodyPost_ret (v := .tuple #[.agg #[.string ⟨#[]⟩, .int .i64 0, .int .i64 0, .int .i64 0, .int .i64 0, .slice none 0 0, .int .i64 0, .int .i64 0, .int .i64 0, .int .i64 0], .int .i64 1]) ?r ?d ?_
      case r => exact results_cell_tmp' rfl _ _ (w.heap.size + 1) 28 #[.string ⟨#[]⟩, .int .i64 0, .int .i64 0, .int .i64 0, .int .i64 0, .slice none 0 0, .int .i64 0, .int .i64 0, .int .i64 0, .int .i64 0] (0, 0) _ (.int .i64 1) rfl rfl (setRow_heap _ _ _ _ _ _ HZ2.out) Try.underlying28 rfl ac_info
      case d => rfl
      exact mad_none 1 (below_setRow HB2.out (by omega) _)
  · have e4 : checkE A = 21 := by unfold checkE; rw [if_neg hr]
    rw [e4] at CK
    clear e4
    have eE : grantE A node lease nodes = 21 := by unfold grantE; rw [if_neg hr]
    have eA : grantA A node lease nodes = ac0 := by unfold grantA; rw [eE]; rfl
    rw [eE, eA]
    clear eE eA
    clear hr h hw he LC NU
    unfold acval at *
    go_enter Try.func39, Try.ntmps39
    go_wp2_with fail
    obtain ⟨w1, ew, hb1, ha1, hz1⟩ := two_new w A a n c
    rw [← ew]
    have HB1 := hide hb1
    have HA1 := hide ha1
    have HZ1 := hide hz1
    clear hb1 ha1 hz1 ew
    obtain ⟨z0, z1, z2, z3, z4, z5, z6, z7, z8, z9⟩ := HA1.out.at_
    have hs1 : w.heap.size < w1.heap.size := HA1.out.lt
    have HZ1' : Hid (Zr w1 (w.heap.size + 1)) := HZ1.out.zr
    clear HZ1
    have HZ1 := HZ1'
    clear HZ1'
    refine ((CK _).out HB1.out).mono ?_
    rintro e w2 ⟨rfl, hb⟩
    have HB2 : Hid (Below w.heap.size w w2) := HB1.out.trans (hb.mono HB1.out.size)
    have HA2 := hide (HA1.out.below hb)
    have HZ2 := hide (HZ1.out.below hb)
    clear hb z0 z1 z2 z3 z4 z5 z6 z7 z8 z9
    obtain ⟨z0, z1, z2, z3, z4, z5, z6, z7, z8, z9⟩ := HA2.out.at_
    have hs2 : w.heap.size < w2.heap.size := HA2.out.lt
    have zf2 := HA2.out.fz
    go_upto_region 2 with fail
    go_wp2_with (refine wpList_store_row rfl 28 (.tmp 8) (.tmp 18) rfl (w.heap.size + 1) #[.string ⟨#[]⟩, .int .i64 0, .int .i64 0, .int .i64 0, .int .i64 0, .slice none 0 0, .int .i64 0, .int .i64 0, .int .i64 0, .int .i64 0] rfl rfl 28 #[.string ⟨#[]⟩, .int .i64 0, .int .i64 0, .int .i64 0, .int .i64 0, .slice none 0 0, .int .i64 0, .int .i64 0, .int .i64 0, .int .i64 0] HZ2.out ac_info rfl (by simp [Value.oneCell']) ?_)
    refine bodyPost_ret (v := .tuple #[.agg #[.string ⟨#[]⟩, .int .i64 0, .int .i64 0, .int .i64 0, .int .i64 0, .slice none 0 0, .int .i64 0, .int .i64 0, .int .i64 0, .int .i64 0], .int .i64 21]) ?r ?d ?_
    case r => exact results_cell_tmp' rfl _ _ (w.heap.size + 1) 28 #[.string ⟨#[]⟩, .int .i64 0, .int .i64 0, .int .i64 0, .int .i64 0, .slice none 0 0, .int .i64 0, .int .i64 0, .int .i64 0, .int .i64 0] (0, 0) _ (.int .i64 21) rfl rfl (setRow_heap _ _ _ _ _ _ HZ2.out) Try.underlying28 rfl ac_info
    case d => rfl
    exact mad_none 21 (below_setRow HB2.out (by omega) _)
end Go.Proofs.Ytjcbhgkfbilifaa
