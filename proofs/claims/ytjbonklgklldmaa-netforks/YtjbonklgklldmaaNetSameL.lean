/- The law folder's Same of two lists of packets that are alike. No condition. -/
import Derived.Test.YtjbonklgklldmaaNetCount
import Derived.Shelf.Abstract
namespace Go.Proofs.Ytjbonklgklldmaa
open Go.ChangeShapes Go.WideShapes Go.ChangeAt Go.RowKit Go.Shelf B8 Nm
set_option linter.unusedVariables false

theorem call_Packet : ∀ (args : Array Value) (w : World), (callFunc 9 args).run Try.prog w = .ok (.enter 9 args) w := enters_of Try.func9 (by kernel_rfl) rfl
set_option maxRecDepth 100000 in
set_option maxHeartbeats 1000000 in
theorem same_pk {w : World} {a a' : Option Addr} {m cp cp' : Nat} {l l' : List Pv} (h : Lst w a m l) (h' : Lst w a' m l') (hm : m ≤ 256) (he : l.map Pv.pk = l'.map Pv.pk) :
    Calls Try.prog 8 #[.slice a m cp, .slice a' m cp', .func (.func 9) #[] #[]] w fun e w' => e = .returned (.bool true) ∧ Below w.heap.size w w' := by
  have H := hide h
  have H' := hide h'
  have HE := hide he
  have cc := call_Packet
  clear h h' he
  go_enter Try.func8, Try.ntmps8
  go_wp2_with fail
  go_loopw [7] (fun i wr => ∃ k : Nat, k ≤ m ∧ i = .int .i64 k ∧ Hid (Below w.heap.size w wr)) (fun i _ => m - (intOf i).toNat)
  case atStart => exact ⟨0, Nat.zero_le _, rfl, Below.refl _ _⟩
  case round =>
    obtain ⟨k, hk, rfl, HW⟩ := hrel
    by_cases hlt : k < m
    · have i1 : (k : Int) < (m : Int) := by omega
      have i2 : (0 : Int) ≤ (k : Int) := by omega
      have l1 : k < l.length := by rw [H.out.len]; exact hlt
      have l2 : k < l'.length := by rw [H'.out.len]; exact hlt
      obtain ⟨p, hp⟩ : ∃ p, l[k]? = some p := ⟨l[k], by simp [l1]⟩
      obtain ⟨q, hq⟩ : ∃ q, l'[k]? = some q := ⟨l'[k], by simp [l2]⟩
      have hpq : p.pk = q.pk := by
        have h1 : (l.map Pv.pk)[k]? = (l'.map Pv.pk)[k]? := by rw [HE.out]
        simpa [List.getElem?_map, hp, hq] using h1
      obtain ⟨g, rfl, hg, hc⟩ := H.out.cells (by omega)
      obtain ⟨g', rfl, hg', hc'⟩ := H'.out.cells (by omega)
      obtain ⟨k0, k1, k2⟩ := hc k p hp
      obtain ⟨e0, e1, e2⟩ := hc' k q hq
      have cg : ∀ o, wr.cell? ⟨g, o, none⟩ = w.cell? ⟨g, o, none⟩ := fun o => World.cell?_of_block (a := ⟨g, o, none⟩) (HW.out.block g hg)
      have cg' : ∀ o, wr.cell? ⟨g', o, none⟩ = w.cell? ⟨g', o, none⟩ := fun o => World.cell?_of_block (a := ⟨g', o, none⟩) (HW.out.block g' hg')
      have c0 := (cg _).trans k0
      have c1 := (cg _).trans k1
      have c2 := (cg _).trans k2
      have d0 := (cg' _).trans e0
      have d1 := (cg' _).trans e1
      have d2 := (cg' _).trans e2
      have PI := hide (H.out.ins p (List.mem_of_getElem? hp))
      have QI := hide (H'.out.ins q (List.mem_of_getElem? hq))
      have PN := hide (H.out.short p (List.mem_of_getElem? hp))
      have S : Hid (∀ y : World, Below w.heap.size w y → Calls Try.prog 9 #[.agg #[.int .i64 p.f, .int .i64 p.t, .slice p.a p.n p.cp], .agg #[.int .i64 q.f, .int .i64 q.t, .slice q.a q.n q.cp]] y fun e w' => e = .returned (.bool true) ∧ Below y.heap.size y w') := fun y hy => by
        have := packet_dec (PI.out.below hy).1 (QI.out.below hy).1 (by have := PN.out; omega)
        rw [decide_eq_true hpq] at this
        exact this
      clear k0 k1 k2 e0 e1 e2 hc hc' cg cg' hp hq l1 l2 hpq
      go_wp2_with fail
      refine wp_region_cells w [(⟨g, k * 3, none⟩, .int .i64 p.f), (⟨g, k * 3 + 1, none⟩, .int .i64 p.t), (⟨g, k * 3 + 2, none⟩, .slice p.a p.n p.cp), (⟨g', k * 3, none⟩, .int .i64 q.f), (⟨g', k * 3 + 1, none⟩, .int .i64 q.t), (⟨g', k * 3 + 2, none⟩, .slice q.a q.n q.cp)] (by kernel_rfl) (by kernel_rfl) HW.out (by simp [AllCells, c0, c1, c2, d0, d1, d2]) ?_
      intro hne qq
      simp only [AllCells, and_true] at qq
      clear c0 c1 c2 d0 d1 d2
      repeat (go_big_quiet_step (first | (go_at_call 9; exact Held.call _ (S.out _ (Held.below _)))))
      refine wpQuiet_nil ?_
      rintro _ ⟨y, rfl⟩
      have BQ : Hid (Below w.heap.size w y.x) := y.below
      clear qq hne S
      go_wp2_with fail
      go_roundw
      case rel => exact ⟨k + 1, by omega, by go_num, BQ⟩
      case measure => simp [intOf]; omega
    · go_wp2_with fail
      go_ret
      exact ⟨rfl, HW.out⟩
end Go.Proofs.Ytjbonklgklldmaa
