/- The document's log: All. No condition. -/
import Derived.Test.YtcbijiielikfmaaSlotsRefTop
namespace Go.Proofs.Ytcbijiielikfmaa
open Go.ChangeShapes Go.WideShapes Go.ChangeAt Go.RowKit Sx Ls
set_option linter.unusedVariables false
namespace Rf
theorem rheldinfo : (Try.prog.info? 79).map (fun i => (i.zero, i.size, i.bytes)) = some (some (.agg #[.int .i64 0, .string ⟨#[]⟩]), 2, 24) := by kernel_rfl
/-- one more is gathered -/
theorem held_add {wr : World} {N n c : Nat} {a : Option Addr} {l : List (Int × ByteArray)} (h : wr.ownsRow N 79 2 (.slice a n c) n (hcells l)) (hN : N ≤ wr.heap.size) (hn : n ≤ 2000) (i : Int) (x : ByteArray) (ty : TypeId) :
    ∃ b cp w', (Builtin.append_ #[74, 74] ty #[.slice a n c, .slice (some ⟨wr.heap.size, 0, none⟩) 1 1]).run Try.prog (wr.alloc (.cells #[.int .i64 i, .string x] 79)) = .ok (.slice (some ⟨b, 0, none⟩) (n + 1) cp) w' ∧
      w'.ownsRow N 79 2 (.slice (some ⟨b, 0, none⟩) (n + 1) cp) (n + 1) (hcells (l ++ [(i, x)])) ∧ (wr.alloc (.cells #[.int .i64 i, .string x] 79)).grownBy w' (Value.slice a n c).ownBlock := by
  obtain ⟨i0, hi, hz0, hz1, hz2⟩ := info_parts rheldinfo
  obtain ⟨v', w', run, own, gr, _⟩ := run_append_own_wide (P := Try.prog) (w := wr.alloc (.cells #[.int .i64 i, .string x] 79)) N 74 ty 79 i0 (.agg #[.int .i64 0, .string ⟨#[]⟩]) 2 24 Try.underlying74 hi hz0 hz1 hz2 rfl (by omega)
    (.slice a n c) n (hcells l) (h.alloc _) ⟨wr.heap.size, 0, none⟩ 1 1 [.int .i64 i, .string x] rfl (cells2n wr _ _ _) (fun u hu => by simp at hu; rcases hu with rfl | rfl <;> rfl) (by unfold maxLen; omega) (by omega) (by simp; omega)
  obtain ⟨hl, ⟨e1, e2⟩ | ⟨g, cap, cur, e1, e2⟩⟩ := id own
  · omega
  · subst e1
    exact ⟨g, cap, w', run, by rw [hcells_append]; exact own, gr⟩
theorem allL_append : ∀ (l r : List (Option ByteArray)) (f : Int), allL f (l ++ r) = allL f l ++ allL (f + l.length) r
  | [], r, f => by simp [allL]
  | none :: l, r, f => by
    have := allL_append l r (f + 1)
    simp only [List.cons_append, allL, List.length_cons]
    rw [this]
    congr 2
    omega
  | some x :: l, r, f => by
    have := allL_append l r (f + 1)
    simp only [List.cons_append, allL, List.length_cons]
    rw [this]
    congr 3
    omega
theorem allL_take {l : List (Option ByteArray)} {f : Int} {k : Nat} (hk : k < l.length) : allL f (l.take (k + 1)) = allL f (l.take k) ++ (match l[k] with | some x => [(f + k, x)] | none => []) := by
  rw [List.take_succ_eq_append_getElem hk, allL_append, List.length_take, show min k l.length = k by omega]
  cases l[k] <;> rfl
section
variable {w w' : World} {R c : Nat} {a : Option Addr} {s : Ss ByteArray} {hs : List (Int × ByteArray)}
/-- gathered so far -/
def Ga (w wr : World) (l : List (Int × ByteArray)) (a : Option Addr) (c n : Nat) : Prop := Below w.heap.size w wr ∧ n = l.length ∧ wr.ownsRow w.heap.size 79 2 (.slice a n c) n (hcells l)
theorem ga_add {wr : World} {l : List (Int × ByteArray)} {a : Option Addr} {c n : Nat} (h : Ga w wr l a c n) (hl : n ≤ 2000) (i : Int) (x : ByteArray) (ty : TypeId) : ∃ b cp w', (Builtin.append_ #[74, 74] ty #[.slice a n c, .slice (some ⟨wr.heap.size, 0, none⟩) 1 1]).run Try.prog (wr.alloc (.cells #[.int .i64 i, .string x] 79)) = .ok (.slice (some ⟨b, 0, none⟩) (n + 1) cp) w' ∧ Ga w w' (l ++ [(i, x)]) (some ⟨b, 0, none⟩) cp (n + 1) := by
  obtain ⟨b, cp, w', run, own, gr⟩ := held_add h.2.2 h.1.size hl i x ty
  have cg : Chg (fun _ => False) w w' := ((Chg.of_below h.1 _).alloc _).grown gr (fun k hk => .inr (h.2.2.lt k hk).1)
  exact ⟨b, cp, w', run, cg.below (Nat.le_refl _) (fun _ h => h.elim), by simp [h.2.1], own⟩
set_option maxRecDepth 100000 in
set_option maxHeartbeats 1000000 in
theorem rall_any (h : Rg w R a c s hs) : Calls Try.prog 55 #[.pointer (some ⟨R, 0, none⟩)] w fun e w' => ∃ a1 c1, e = .returned (.slice a1 (cnt s.ps) c1) ∧ Ga w w' (allL s.first s.ps) a1 c1 (cnt s.ps) := by
  have f1 := h.ok.f1
  have f2 := h.ok.f2
  have l1 : s.ps.length ≤ 1024 := by have := h.ok.len; have := h.ok.m2; omega
  obtain ⟨c0, _, _, _⟩ := h.cl
  have H := hide h
  have CTP : Hid (∀ W, Below w.heap.size w W → Calls Try.prog 57 #[.pointer (some ⟨R, 0, none⟩)] W fun e w' => e = .returned (.int .i64 (s.first + (s.ps.length : Int))) ∧ w' = W) := fun W hW => rtop_any (h.below hW)
  have CG : Hid (∀ W i, Below w.heap.size w W → Calls Try.prog 13 #[.pointer (some ⟨R, 0, none⟩), .int .i64 i] W fun e w' => e = .returned (.tuple #[Ls.ansV (getV s i), .bool (getV s i).isSome]) ∧ w' = W) := fun W i hW => rget_any (h.below hW) i
  have GV : Hid (∀ k (hk : k < s.ps.length), getV s (s.first + k) = s.ps[k]) := fun k hk => getV_at hk
  clear h
  go_enter Try.func55, Try.ntmps55
  go_wp2_with fail
  go_loopw [3, 4, 5, 6] (fun ov iv _ _ wr => ∃ (k m : Nat) (a1 : Option Addr) (c1 : Nat), k ≤ s.ps.length ∧ m ≤ k ∧ iv = .int .i64 (s.first + k) ∧ ov = .slice a1 m c1 ∧ Hid (Ga w wr (allL s.first (s.ps.take k)) a1 c1 m)) (fun _ iv _ _ _ => s.ps.length - (intOf iv - s.first).toNat)
  case atStart => exact ⟨0, 0, none, 0, by omega, by omega, by simp, rfl, hide ⟨Below.refl _ _, by simp [allL], by simpa [allL, hcells] using World.ownsRow_nil _ _ _ _⟩⟩
  case round =>
    obtain ⟨k, m, a1, c1, hk, mk, rfl, rfl, GA⟩ := hrel
    have CT1 := hide (CTP.out wr GA.out.1)
    by_cases hlt : k < s.ps.length
    · have T3 : s.first + (k : Int) < s.first + (s.ps.length : Int) := by omega
      have CG1 := hide (CG.out wr (s.first + k) GA.out.1)
      rw [GV.out k hlt] at CG1
      have AL := hide (allL_take (f := s.first) hlt)
      generalize s.ps[k] = o at *
      cases o with
      | some x =>
        simp only [Ls.ansV, Ls.va, Option.isSome_some] at CG1
        obtain ⟨b, cp, wn, run, gn⟩ := ga_add GA.out (by omega) (s.first + k) x 74
        have RN := hide run
        have GN := hide gn
        clear run gn
        go_wp2_with fail
        refine CT1.out.mono ?_
        rintro e w4 ⟨rfl, rfl⟩
        go_wp2_with fail
        refine CG1.out.mono ?_
        rintro e w4 ⟨rfl, rfl⟩
        go_wp2_with (at_builtin; refine wp_append_run _ rfl (.tmp 24) (.tmp 28) 74 74 rfl _ _ RN.out ?_)
        go_roundw
        case rel => exact ⟨k + 1, m + 1, _, _, by omega, by omega, by go_num, rfl, by rw [AL.out]; exact GN⟩
        case measure => simp [intOf]; omega
      | none =>
        simp only [Ls.ansV, Option.isSome_none] at CG1
        go_wp2_with fail
        refine CT1.out.mono ?_
        rintro e w4 ⟨rfl, rfl⟩
        go_wp2_with fail
        refine CG1.out.mono ?_
        rintro e w4 ⟨rfl, rfl⟩
        go_wp2_with fail
        go_roundw
        case rel => exact ⟨k + 1, m, _, _, by omega, by omega, by go_num, rfl, by rw [AL.out, List.append_nil]; exact GA⟩
        case measure => simp [intOf]; omega
    · obtain rfl : k = s.ps.length := by omega
      have GF : Hid (Ga w wr (allL s.first s.ps) a1 c1 m ∧ m = cnt s.ps) := by
        have := GA.out
        rw [List.take_length] at this
        exact ⟨this, by rw [this.2.1, allL_length]⟩
      clear hlt hk GA
      go_wp2_with fail
      refine CT1.out.mono ?_
      rintro e w4 ⟨rfl, rfl⟩
      go_wp2_with fail
      go_ret
      exact ⟨a1, c1, by rw [← GF.out.2]; rfl, by rw [← GF.out.2]; exact GF.out.1⟩
end
end Rf
end Go.Proofs.Ytcbijiielikfmaa
