/- The walk of the landed function chart over a thing with lists, whoever the clerk is. No condition. -/
import Derived.Test.YtiafohpigkkgbaaJA
import Derived.Deep.RegionHeld3
import Derived.Deep.DeepCutAuto
namespace Go.Proofs.Ytiafohpigkkgbaa
open Go.ChangeShapes Go.WideShapes Go.ChangeAt Go.RowKit
set_option linter.unusedVariables false

set_option maxRecDepth 100000 in
set_option maxHeartbeats 1000000 in
theorem go_chart {D : TypeId} {W M o C : Nat}
    {Fints : FuncId} (nn_ints : ∀ (a : Addr) (w : World), (nilAhead 316 D (.pointer (some a)) "purse/wire.ints").run Try.prog w = .ok (some false) w) (mm_ints : ∀ (a : Addr) (w : World), (method 316 D (.pointer (some a)) "purse/wire.ints").run Try.prog w = .ok (Fints, .pointer (some a)) w) (cc_ints : ∀ (args : Array Value) (w : World), (callFunc Fints args).run Try.prog w = .ok (.enter Fints args) w)
    {R0 R1 R2 R3 R4 R5 : World → Prop}
    (K : ∀ w, (R0 w ∨ R1 w ∨ R2 w ∨ R3 w ∨ R4 w ∨ R5 w) → w.cell? ⟨C, 0, none⟩ = some (.iface D (.pointer (some ⟨W, 0, none⟩))))
    (C0 : ∀ w, R0 w → Calls Try.prog Fints #[.pointer (some ⟨W, 0, none⟩), .slice (some ⟨w.heap.size, 0, none⟩) 1 1] (w.alloc (.cells #[.pointer (some ⟨M, o, none⟩)] 88)).drew fun e w' => e = .returned (.tuple #[]) ∧ R1 w')
    (C1 : ∀ w, R1 w → Calls Try.prog 50 #[.iface D (.pointer (some ⟨W, 0, none⟩)), .pointer (some ⟨M, o + 1, none⟩), .func (.func 51) #[] #[.pointer (some ⟨C, 0, none⟩)]] w.drew fun e w' => e = .returned (.tuple #[]) ∧ R2 w')
    (C2 : ∀ w, R2 w → Calls Try.prog Fints #[.pointer (some ⟨W, 0, none⟩), .slice (some ⟨w.heap.size, 0, none⟩) 2 2] (w.alloc (.cells #[.pointer (some ⟨M, o + 2, none⟩), .pointer (some ⟨M, o + 3, none⟩)] 88)).drew fun e w' => e = .returned (.tuple #[]) ∧ R3 w')
    (C3 : ∀ w, R3 w → Calls Try.prog 30 #[.iface D (.pointer (some ⟨W, 0, none⟩)), .pointer (some ⟨M, o + 4, none⟩)] w.drew fun e w' => e = .returned (.tuple #[]) ∧ R4 w')
    (C4 : ∀ w, R4 w → Calls Try.prog 35 #[.iface D (.pointer (some ⟨W, 0, none⟩)), .pointer (some ⟨M, o + 11, none⟩), .func (.func 53) #[] #[.pointer (some ⟨C, 0, none⟩)]] w.drew fun e w' => e = .returned (.tuple #[]) ∧ R5 w')
    (w : World) (hC : C = w.heap.size) (h : R0 (w.alloc (.cells #[.iface D (.pointer (some ⟨W, 0, none⟩))] 86))) :
    Calls Try.prog 25 #[.iface D (.pointer (some ⟨W, 0, none⟩)), .pointer (some ⟨M, o, none⟩)] w fun e w' => e = .returned (.tuple #[]) ∧ R5 w' := by
  have D0 := hide C0
  have D1 := hide C1
  have D2 := hide C2
  have D3 := hide C3
  have D4 := hide C4
  have KK := hide K
  obtain ⟨w0, e0⟩ : ∃ w0, w0 = w.alloc (.cells #[.iface D (.pointer (some ⟨W, 0, none⟩))] 86) := ⟨_, rfl⟩
  rw [← e0] at h
  have E0 := hide e0.symm
  have H0 := hide h
  have HC := hide hC.symm
  clear h K e0 hC C0 C1 C2 C3 C4
  go_enter Try.func25, Try.ntmps25
  go_upto_region 1 with fail
  rw [E0.out, HC.out]
  clear E0 HC
  have c0 := KK.out _ (.inl H0.out)
  go_cut [] (fun w2 => Hid (R1 w2))
  case first =>
    go_region_held3 (fun u => u.cell? ⟨C, 0, none⟩ = some (.iface D (.pointer (some ⟨W, 0, none⟩)))) (first | go_keep | exact KK.out _ (.inr (.inl hw))) ((refine (D0.out _ H0.out).mono ?_; rintro e w1 ⟨rfl, hw⟩))
    all_goals (have HW := hide hw; clear hw; go_wp2_with fail; go_meet; case rel => exact HW)
  case rest =>
    have H1 := hcut
    clear hcut H0 c0
    go_wp2_with fail
    have c1 := KK.out _ (.inr (.inl H1.out))
    go_cut [] (fun w2 => Hid (R2 w2))
    case first =>
      go_region_held3 (fun u => u.cell? ⟨C, 0, none⟩ = some (.iface D (.pointer (some ⟨W, 0, none⟩)))) (first | go_keep | exact KK.out _ (.inr (.inr (.inl hw)))) ((go_at_call 50; refine (D1.out _ H1.out).mono ?_; rintro e w1 ⟨rfl, hw⟩))
      all_goals (have HW := hide hw; clear hw; go_wp2_with fail; go_meet; case rel => exact HW)
    case rest =>
      have H2 := hcut
      clear hcut H1 c1
      go_wp2_with fail
      have c2 := KK.out _ (.inr (.inr (.inl H2.out)))
      go_cut [] (fun w2 => Hid (R3 w2))
      case first =>
        go_region_held3 (fun u => u.cell? ⟨C, 0, none⟩ = some (.iface D (.pointer (some ⟨W, 0, none⟩)))) (first | go_keep | exact KK.out _ (.inr (.inr (.inr (.inl hw))))) ((refine (D2.out _ H2.out).mono ?_; rintro e w1 ⟨rfl, hw⟩))
        all_goals (have HW := hide hw; clear hw; go_wp2_with fail; go_meet; case rel => exact HW)
      case rest =>
        have H3 := hcut
        clear hcut H2 c2
        go_wp2_with fail
        have c3 := KK.out _ (.inr (.inr (.inr (.inl H3.out))))
        go_cut [] (fun w2 => Hid (R4 w2))
        case first =>
          go_region_held3 (fun u => u.cell? ⟨C, 0, none⟩ = some (.iface D (.pointer (some ⟨W, 0, none⟩)))) (first | go_keep | exact KK.out _ (.inr (.inr (.inr (.inr (.inl hw)))))) ((go_at_call 30; refine (D3.out _ H3.out).mono ?_; rintro e w1 ⟨rfl, hw⟩))
          all_goals (have HW := hide hw; clear hw; go_wp2_with fail; go_meet; case rel => exact HW)
        case rest =>
          have H4 := hcut
          clear hcut H3 c3
          go_wp2_with fail
          have c4 := KK.out _ (.inr (.inr (.inr (.inr (.inl H4.out)))))
          go_region_held3 (fun u => u.cell? ⟨C, 0, none⟩ = some (.iface D (.pointer (some ⟨W, 0, none⟩)))) (first | go_keep | exact KK.out _ (.inr (.inr (.inr (.inr (.inr hw)))))) ((go_at_call 35; refine (D4.out _ H4.out).mono ?_; rintro e w1 ⟨rfl, hw⟩))
          all_goals (have HW := hide hw; clear hw; go_wp2_with fail; refine bodyPost_end (results_none rfl _ _ _) rfl ?_; exact ⟨rfl, HW.out⟩)
end Go.Proofs.Ytiafohpigkkgbaa
