/- The landed clock's Set: a timer that is set once more. No condition but sizes. -/
import Derived.Test.YtoganfdpaagomaaClockSet
namespace Go.Proofs.Ytoganfdpaagomaa
open Go.ChangeShapes Go.WideShapes Go.ChangeAt Go.RowKit Cm
set_option linter.unusedVariables false

section
variable {w : World} {C : Nat} {L : Ql} {s : Cs} {B : Int}
set_option maxRecDepth 100000 in
set_option maxHeartbeats 4000000 in
theorem set_again (h : Cl w C L s B) (hB : B < 1000000000000000000) (name : ByteArray) (d : Int) (hh : has s name = true) (hg : ¬ (name.size < 1 ∨ 16 < name.size ∨ d < 1 ∨ 2147483647 < d)) :
    Calls Try.prog 18 #[.pointer (some ⟨C, 0, none⟩), .string name, .int .i64 d] w fun e w' => e = .returned (.int .i64 (setE s name d)) ∧ CMv w C L (setS s name d) (B + 1) w' := by
  obtain ⟨l, o, h1, h2, hq, e0, k1, k2, hc⟩ := h.find name (by unfold maxLen; omega)
  have c0 := h.c0
  have c1 := h.c1
  have c2 := h.c2
  have f1 := h.f 1
  have CF := hide hc
  have CL := hide (len_any hq)
  have hln : l.length = s.r.length := h1.length_eq
  have x1 : ¬ ((name.size : Int) < 1) := by omega
  have x0 : name.size ≠ 0 := by omega
  have x2 : ¬ ((16 : Int) < (name.size : Int)) := by omega
  have x3 : ¬ (d < 1) := by omega
  have x4 : ¬ (2147483647 < d) := by omega
  have ok := h.ok
  have n0 := ok.n0
  have nB := ok.nB
  have s0 := ok.s0
  have sB := ok.sB
  have a1 : IntKind.i64.wrap (s.sets + 1) = s.sets + 1 := by rw [IntKind.wrap_i64]; omega
  have a2 : IntKind.i64.wrap (s.now + d) = s.now + d := by rw [IntKind.wrap_i64]; omega
  obtain ⟨w1, e1⟩ : ∃ w1, w1 = w.setCell ⟨C, 1, none⟩ (.int .i64 (s.sets + 1)) := ⟨_, rfl⟩
  have o1 : ∀ k, k ≠ C → w1.heap[k]? = w.heap[k]? := fun k hk => by rw [e1]; exact Below.heap_setCell _ _ _ _ hk
  have z1 : w1.heap.size = w.heap.size := by rw [e1]; simp [World.setCell]
  have q1 : Qu w1 L l (names l) := hq.same (fun k hk => o1 k (fun e => h.dis (e ▸ hk)))
  have k0 : w1.cell? ⟨C, 0, none⟩ = some (.int .i64 s.now) := by rw [e1, World.cell?_setCell_other _ _ _ _ (by simp)]; exact c0
  have k1' : w1.cell? ⟨C, 1, none⟩ = some (.int .i64 (s.sets + 1)) := by rw [e1]; exact World.cell?_setCell_same' _ _ _ (by rw [c1]; rfl)
  have k2' : w1.cell? ⟨C, 2, none⟩ = some (.pointer (some ⟨L.Q, 0, none⟩)) := by rw [e1, World.cell?_setCell_other _ _ _ _ (by simp)]; exact c2
  have kf : ∀ o, w1.frozen? ⟨C, o, none⟩ = false := fun o => by rw [e1, setCell_frozen]; exact h.f o
  have ch1 : Chg (Cb C L) w w1 := by rw [e1]; exact (Chg.refl _ _).setCell (p := ⟨C, 1, none⟩) (.inl (.inl rfl)) _
  have CC := fun W => hide (clone_any name W (by omega) (by omega))
  have lc : C < w1.heap.size := by rw [z1]; exact h.ltC
  obtain ⟨t, et⟩ : ∃ t : Tm, t = ⟨name, s.now + d, s.sets + 1⟩ := ⟨_, rfl⟩
  have et1 : name = t.name := by rw [et]
  have et2 : s.now + d = t.due := by rw [et]
  have et3 : s.sets + 1 = t.turn := by rw [et]
  have FI : Hid (∀ W w' r, Below w1.heap.size w1 W → HP W L r names w' → r.Perm (without s.r name ++ [t]) → (has s name = true ∨ s.r.length < 64) → CMv w C L (setS s name d) (B + 1) w') := fun W w' r hW hp hr hh => by
    have hB : ∀ o, W.cell? ⟨C, o, none⟩ = w1.cell? ⟨C, o, none⟩ := fun o => hW.cell (p := ⟨C, o, none⟩) lc
    have ho := ok.set name d
    rw [(good_E hg hh).2] at ho ⊢
    refine cl_of h (ch1.trans (Chg.of_below hW (fun _ => False)) (fun k _ hk => hk.elim)) ((hB 0).trans k0) ((hB 1).trans k1') ((hB 2).trans k2') (fun o => (hW.frozen (p := ⟨C, o, none⟩) lc).trans (kf o)) hp (by rw [et] at hr; exact hr) ho
  cases o with
  | none =>
    have := (k2 rfl).2.1
    rw [hh] at this
    cases this
  | some i =>
    obtain ⟨hi, e3, e4, e5⟩ := k1 i rfl
    have GE := hide (good_E (d := d) hg (.inl e5)).1
    rw [GE.out]
    have CH : Hid (∀ W, Below w1.heap.size w1 W → Calls Try.prog 33 #[.pointer (some ⟨L.Q, 0, none⟩), .int .i64 i, tagg t] W fun e w' => e = .returned (.tuple #[]) ∧ CMv w C L (setS s name d) (B + 1) w') := fun W hW =>
      (change_any (t := t) (k := i) (q1.below hW) hi (by rw [← et1, e3]) h2).mono fun e w' ⟨a, b⟩ => ⟨a, FI.out W w' _ hW b (by have := set_perm (t := t) h1 hi ok.nd (by rw [← et1, e3]); rw [← et1] at this; exact this) (.inl e5)⟩
    have E1 := hide e1
    have K1 := hide k1'
    have K2 := hide k2'
    have LC := hide lc
    have ET := hide (And.intro et1 (And.intro et2 et3))
    clear h h1 h2 hq e0 k1 k2 hc hln ok n0 nB s0 sB e1 o1 z1 q1 kf ch1 lc et et2 et3 FI hi e3 e4 e5 hg hB GE CL et1 hh
    go_enter Try.func18, Try.ntmps18
    go_wp2_with fail
    refine CF.out.mono ?_
    rintro e w2 ⟨rfl, rfl⟩
    go_wp2_with fail
    rw [← E1.out]
    have k1' := K1.out
    have cn : C ≠ w1.heap.size := Nat.ne_of_lt LC.out
    go_cut [9] from 10 (fun s9 w5 => ∃ b W, s9 = .pointer (some ⟨b, 0, none⟩) ∧ Hid (W = w5) ∧ Hid (Boxed w1 W b t))
    case first =>
      go_region_held3 (fun u => u.cell? ⟨C, 0, none⟩ = some (.int .i64 s.now) ∧ u.cell? ⟨C, 1, none⟩ = some (.int .i64 (s.sets + 1))) (first | go_keep | exact ⟨k0, k1'⟩ | exact ⟨ac k0, ac k1'⟩ | exact ⟨d0, d1⟩ | exact ⟨ac d0, ac d1⟩ | exact ⟨sc cn (sc cn (sc cn d0)), sc cn (sc cn (sc cn d1))⟩) ((first | (go_at_call 32; refine (CC _).out.mono ?_; rintro e w3 ⟨rfl, hb3⟩; first | (obtain ⟨d0, d1, r0, r1, r2, y0, y1, y2, W0⟩ := lay2 hb3 LC.out k0 k1'; clear hb3) | (obtain ⟨d0, d1, W0⟩ := lay1 hb3 LC.out k0 k1'; clear hb3))))
      all_goals (go_wp2_with fail; go_meet; case rel => first | exact ⟨_, _, rfl, rfl, boxA W0.out ET.out⟩ | exact ⟨_, _, rfl, rfl, boxA' W0.out ET.out⟩ | exact ⟨_, _, rfl, rfl, boxB W0.out ET.out⟩)
    case rest =>
      obtain ⟨b, W, rfl, HE, BX⟩ := hcut
      obtain rfl := HE.out
      obtain ⟨p0, p1, p2⟩ := BX.out.cells
      have p3 : W.cell? ⟨C, 2, none⟩ = some (.pointer (some ⟨L.Q, 0, none⟩)) := (BX.out.1.cell (p := ⟨C, 2, none⟩) LC.out).trans K2.out
      clear HE k0 k1' cn c0 c1 c2 f1
      go_wp2_with fail
      go_region_with (go_at_call 33; refine (CH.out _ BX.out.1.drew).mono ?_; rintro e w6 ⟨rfl, hm⟩; have HM := hide hm; clear hm)
      all_goals (go_wp2_with fail; go_ret; exact ⟨rfl, HM.out⟩)
end
end Go.Proofs.Ytoganfdpaagomaa
