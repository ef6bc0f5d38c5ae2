/- The walk of the landed function account over a thing with lists, whoever the clerk is. No condition. -/
import Derived.Test.YthklpkmdmkgjiaaGreatJA
import Derived.Deep.RegionHeld3
import Derived.Deep.DeepCutAuto
namespace Go.Proofs.YthklpkmdmkgjiaaGreat
open Go.ChangeShapes Go.WideShapes Go.ChangeAt Go.RowKit
set_option linter.unusedVariables false

set_option maxRecDepth 100000 in
set_option maxHeartbeats 1000000 in
theorem go_account {D : TypeId} {W M o C : Nat}
    {Ftexts : FuncId} (nn_texts : ∀ (a : Addr) (w : World), (nilAhead 319 D (.pointer (some a)) "purse/wire.texts").run Tryz.prog w = .ok (some false) w) (mm_texts : ∀ (a : Addr) (w : World), (method 319 D (.pointer (some a)) "purse/wire.texts").run Tryz.prog w = .ok (Ftexts, .pointer (some a)) w) (cc_texts : ∀ (args : Array Value) (w : World), (callFunc Ftexts args).run Tryz.prog w = .ok (.enter Ftexts args) w)
    {Fints : FuncId} (nn_ints : ∀ (a : Addr) (w : World), (nilAhead 319 D (.pointer (some a)) "purse/wire.ints").run Tryz.prog w = .ok (some false) w) (mm_ints : ∀ (a : Addr) (w : World), (method 319 D (.pointer (some a)) "purse/wire.ints").run Tryz.prog w = .ok (Fints, .pointer (some a)) w) (cc_ints : ∀ (args : Array Value) (w : World), (callFunc Fints args).run Tryz.prog w = .ok (.enter Fints args) w)
    {R0 R1 R2 R3 R4 : World → Prop}
    (K : ∀ w, (R0 w ∨ R1 w ∨ R2 w ∨ R3 w ∨ R4 w) → w.cell? ⟨C, 0, none⟩ = some (.iface D (.pointer (some ⟨W, 0, none⟩))))
    (C0 : ∀ w, R0 w → Calls Tryz.prog Ftexts #[.pointer (some ⟨W, 0, none⟩), .slice (some ⟨w.heap.size, 0, none⟩) 1 1] (w.alloc (.cells #[.pointer (some ⟨M, o, none⟩)] 86)).drew fun e w' => e = .returned (.tuple #[]) ∧ R1 w')
    (C1 : ∀ w, R1 w → Calls Tryz.prog Fints #[.pointer (some ⟨W, 0, none⟩), .slice (some ⟨w.heap.size, 0, none⟩) 4 4] (w.alloc (.cells #[.pointer (some ⟨M, o + 1, none⟩), .pointer (some ⟨M, o + 2, none⟩), .pointer (some ⟨M, o + 3, none⟩), .pointer (some ⟨M, o + 4, none⟩)] 82)).drew fun e w' => e = .returned (.tuple #[]) ∧ R2 w')
    (C2 : ∀ w, R2 w → Calls Tryz.prog 62 #[.iface D (.pointer (some ⟨W, 0, none⟩)), .pointer (some ⟨M, o + 5, none⟩), .func (.func 63) #[] #[.pointer (some ⟨C, 0, none⟩)]] w.drew fun e w' => e = .returned (.tuple #[]) ∧ R3 w')
    (C3 : ∀ w, R3 w → Calls Tryz.prog Fints #[.pointer (some ⟨W, 0, none⟩), .slice (some ⟨w.heap.size, 0, none⟩) 4 4] (w.alloc (.cells #[.pointer (some ⟨M, o + 6, none⟩), .pointer (some ⟨M, o + 7, none⟩), .pointer (some ⟨M, o + 8, none⟩), .pointer (some ⟨M, o + 9, none⟩)] 82)).drew fun e w' => e = .returned (.tuple #[]) ∧ R4 w')
    (w : World) (hC : C = w.heap.size) (h : R0 (w.alloc (.cells #[.iface D (.pointer (some ⟨W, 0, none⟩))] 80))) :
    Calls Tryz.prog 30 #[.iface D (.pointer (some ⟨W, 0, none⟩)), .pointer (some ⟨M, o, none⟩)] w fun e w' => e = .returned (.tuple #[]) ∧ R4 w' := by
  have D0 := hide C0
  have D1 := hide C1
  have D2 := hide C2
  have D3 := hide C3
  have KK := hide K
  obtain ⟨w0, e0⟩ : ∃ w0, w0 = w.alloc (.cells #[.iface D (.pointer (some ⟨W, 0, none⟩))] 80) := ⟨_, rfl⟩
  rw [← e0] at h
  have E0 := hide e0.symm
  have H0 := hide h
  have HC := hide hC.symm
  clear h K e0 hC C0 C1 C2 C3
  go_enter Tryz.func30, Tryz.ntmps30
  go_upto_region 1 with fail
  rw [E0.out, HC.out]
  clear E0 HC
  have c0 := KK.out _ (.inl H0.out)
  go_cut [] (fun w2 => Hid (R1 w2))
  case first =>
    go_region_held3 (fun u => u.cell? ⟨C, 0, none⟩ = some (.iface D (.pointer (some ⟨W, 0, none⟩)))) (first | go_keep | exact KK.out _ (.inr (.inl hw))) ((refine (D0.out _ H0.out).mono ?_; rintro e w1 ⟨rfl, hw⟩))
    all_goals (have HW := hide hw; clear hw; go_wp2_with fail; go_meet; case rel => exact HW)
  case rest =>
    have H1 := hcut
    clear hcut H0 c0
    go_wp2_with fail
    have c1 := KK.out _ (.inr (.inl H1.out))
    go_cut [] (fun w2 => Hid (R2 w2))
    case first =>
      go_region_held3 (fun u => u.cell? ⟨C, 0, none⟩ = some (.iface D (.pointer (some ⟨W, 0, none⟩)))) (first | go_keep | exact KK.out _ (.inr (.inr (.inl hw)))) ((refine (D1.out _ H1.out).mono ?_; rintro e w1 ⟨rfl, hw⟩))
      all_goals (have HW := hide hw; clear hw; go_wp2_with fail; go_meet; case rel => exact HW)
    case rest =>
      have H2 := hcut
      clear hcut H1 c1
      go_wp2_with fail
      have c2 := KK.out _ (.inr (.inr (.inl H2.out)))
      go_cut [] (fun w2 => Hid (R3 w2))
      case first =>
        go_region_held3 (fun u => u.cell? ⟨C, 0, none⟩ = some (.iface D (.pointer (some ⟨W, 0, none⟩)))) (first | go_keep | exact KK.out _ (.inr (.inr (.inr (.inl hw))))) ((go_at_call 62; refine (D2.out _ H2.out).mono ?_; rintro e w1 ⟨rfl, hw⟩))
        all_goals (have HW := hide hw; clear hw; go_wp2_with fail; go_meet; case rel => exact HW)
      case rest =>
        have H3 := hcut
        clear hcut H2 c2
        go_wp2_with fail
        have c3 := KK.out _ (.inr (.inr (.inr (.inl H3.out))))
        go_region_held3 (fun u => u.cell? ⟨C, 0, none⟩ = some (.iface D (.pointer (some ⟨W, 0, none⟩)))) (first | go_keep | exact KK.out _ (.inr (.inr (.inr (.inr hw))))) ((refine (D3.out _ H3.out).mono ?_; rintro e w1 ⟨rfl, hw⟩))
        all_goals (have HW := hide hw; clear hw; go_wp2_with fail; refine bodyPost_end (results_none rfl _ _ _) rfl ?_; exact ⟨rfl, HW.out⟩)
end Go.Proofs.YthklpkmdmkgjiaaGreat
