/- AccountStays: whatever is asked of a right account, it stays right; what is refused is refused with nothing; no condition. -/
import Derived.Deep.Cut
import Derived.Deep.CutRange
import Derived.Test.YtfolpnjndlklkaaAcoRight
import Derived.Test.YtfolpnjndlklkaaRegionTree
import Derived.Laws.Tables
namespace Go.Proofs.Ytfolpnjndlklkaa
namespace AccountStays
open Go.ChangeShapes Go.WideShapes Go.ChangeAt Go.RowKit Ao
set_option linter.unusedVariables false

theorem zr_at {w : World} {b : Nat} (h : Zr w b) : w.cell? ⟨b, 0, none⟩ = some (.string ⟨#[]⟩) ∧ w.cell? ⟨b, 1, none⟩ = some (.int .i64 0) ∧ w.cell? ⟨b, 2, none⟩ = some (.int .i64 0) ∧ w.cell? ⟨b, 3, none⟩ = some (.int .i64 0) ∧ w.cell? ⟨b, 4, none⟩ = some (.int .i64 0) ∧ w.cell? ⟨b, 5, none⟩ = some (.slice none 0 0) ∧ w.cell? ⟨b, 6, none⟩ = some (.int .i64 0) ∧ w.cell? ⟨b, 7, none⟩ = some (.int .i64 0) ∧ w.cell? ⟨b, 8, none⟩ = some (.int .i64 0) ∧ w.cell? ⟨b, 9, none⟩ = some (.int .i64 0) := by
  refine ⟨?_, ?_, ?_, ?_, ?_, ?_, ?_, ?_, ?_, ?_⟩ <;> (rw [cell_of_row _ _ _ _ _ _ h]; rfl)
theorem zr_fz {w : World} {b : Nat} (h : Zr w b) : ∀ o, w.frozen? ⟨b, o, none⟩ = false := fun o => frozen_of_row _ _ _ _ _ h
theorem ten_put {u : World} {q : Nat} (B : Ac) (a' : Option Addr) (n' c' : Nat) (hz : Zr u q) : Ab ((((((((((u.setCell ⟨q, 0, none⟩ (.string B.key)).setCell ⟨q, 1, none⟩ (.int .i64 B.lo)).setCell ⟨q, 2, none⟩ (.int .i64 B.hi)).setCell ⟨q, 3, none⟩ (.int .i64 B.base)).setCell ⟨q, 4, none⟩ (.int .i64 B.rd)).setCell ⟨q, 5, none⟩ (.slice a' n' c')).setCell ⟨q, 6, none⟩ (.int .i64 B.lk.c)).setCell ⟨q, 7, none⟩ (.int .i64 B.lk.s)).setCell ⟨q, 8, none⟩ (.int .i64 B.lk.h)).setCell ⟨q, 9, none⟩ (.int .i64 B.lk.n)) q B a' n' c' := by
  have h0 : u.heap[q]? = some (.cells #[.string ⟨#[]⟩, .int .i64 0, .int .i64 0, .int .i64 0, .int .i64 0, .slice none 0 0, .int .i64 0, .int .i64 0, .int .i64 0, .int .i64 0] 28 (0, 0)) := hz
  have h1 : ((u.setCell ⟨q, 0, none⟩ (.string B.key))).heap[q]? = some (.cells #[.string B.key, .int .i64 0, .int .i64 0, .int .i64 0, .int .i64 0, .slice none 0 0, .int .i64 0, .int .i64 0, .int .i64 0, .int .i64 0] 28 (0, 0)) := put_row' h0
  have h2 : (((u.setCell ⟨q, 0, none⟩ (.string B.key)).setCell ⟨q, 1, none⟩ (.int .i64 B.lo))).heap[q]? = some (.cells #[.string B.key, .int .i64 B.lo, .int .i64 0, .int .i64 0, .int .i64 0, .slice none 0 0, .int .i64 0, .int .i64 0, .int .i64 0, .int .i64 0] 28 (0, 0)) := put_row' h1
  have h3 : ((((u.setCell ⟨q, 0, none⟩ (.string B.key)).setCell ⟨q, 1, none⟩ (.int .i64 B.lo)).setCell ⟨q, 2, none⟩ (.int .i64 B.hi))).heap[q]? = some (.cells #[.string B.key, .int .i64 B.lo, .int .i64 B.hi, .int .i64 0, .int .i64 0, .slice none 0 0, .int .i64 0, .int .i64 0, .int .i64 0, .int .i64 0] 28 (0, 0)) := put_row' h2
  have h4 : (((((u.setCell ⟨q, 0, none⟩ (.string B.key)).setCell ⟨q, 1, none⟩ (.int .i64 B.lo)).setCell ⟨q, 2, none⟩ (.int .i64 B.hi)).setCell ⟨q, 3, none⟩ (.int .i64 B.base))).heap[q]? = some (.cells #[.string B.key, .int .i64 B.lo, .int .i64 B.hi, .int .i64 B.base, .int .i64 0, .slice none 0 0, .int .i64 0, .int .i64 0, .int .i64 0, .int .i64 0] 28 (0, 0)) := put_row' h3
  have h5 : ((((((u.setCell ⟨q, 0, none⟩ (.string B.key)).setCell ⟨q, 1, none⟩ (.int .i64 B.lo)).setCell ⟨q, 2, none⟩ (.int .i64 B.hi)).setCell ⟨q, 3, none⟩ (.int .i64 B.base)).setCell ⟨q, 4, none⟩ (.int .i64 B.rd))).heap[q]? = some (.cells #[.string B.key, .int .i64 B.lo, .int .i64 B.hi, .int .i64 B.base, .int .i64 B.rd, .slice none 0 0, .int .i64 0, .int .i64 0, .int .i64 0, .int .i64 0] 28 (0, 0)) := put_row' h4
  have h6 : (((((((u.setCell ⟨q, 0, none⟩ (.string B.key)).setCell ⟨q, 1, none⟩ (.int .i64 B.lo)).setCell ⟨q, 2, none⟩ (.int .i64 B.hi)).setCell ⟨q, 3, none⟩ (.int .i64 B.base)).setCell ⟨q, 4, none⟩ (.int .i64 B.rd)).setCell ⟨q, 5, none⟩ (.slice a' n' c'))).heap[q]? = some (.cells #[.string B.key, .int .i64 B.lo, .int .i64 B.hi, .int .i64 B.base, .int .i64 B.rd, .slice a' n' c', .int .i64 0, .int .i64 0, .int .i64 0, .int .i64 0] 28 (0, 0)) := put_row' h5
  have h7 : ((((((((u.setCell ⟨q, 0, none⟩ (.string B.key)).setCell ⟨q, 1, none⟩ (.int .i64 B.lo)).setCell ⟨q, 2, none⟩ (.int .i64 B.hi)).setCell ⟨q, 3, none⟩ (.int .i64 B.base)).setCell ⟨q, 4, none⟩ (.int .i64 B.rd)).setCell ⟨q, 5, none⟩ (.slice a' n' c')).setCell ⟨q, 6, none⟩ (.int .i64 B.lk.c))).heap[q]? = some (.cells #[.string B.key, .int .i64 B.lo, .int .i64 B.hi, .int .i64 B.base, .int .i64 B.rd, .slice a' n' c', .int .i64 B.lk.c, .int .i64 0, .int .i64 0, .int .i64 0] 28 (0, 0)) := put_row' h6
  have h8 : (((((((((u.setCell ⟨q, 0, none⟩ (.string B.key)).setCell ⟨q, 1, none⟩ (.int .i64 B.lo)).setCell ⟨q, 2, none⟩ (.int .i64 B.hi)).setCell ⟨q, 3, none⟩ (.int .i64 B.base)).setCell ⟨q, 4, none⟩ (.int .i64 B.rd)).setCell ⟨q, 5, none⟩ (.slice a' n' c')).setCell ⟨q, 6, none⟩ (.int .i64 B.lk.c)).setCell ⟨q, 7, none⟩ (.int .i64 B.lk.s))).heap[q]? = some (.cells #[.string B.key, .int .i64 B.lo, .int .i64 B.hi, .int .i64 B.base, .int .i64 B.rd, .slice a' n' c', .int .i64 B.lk.c, .int .i64 B.lk.s, .int .i64 0, .int .i64 0] 28 (0, 0)) := put_row' h7
  have h9 : ((((((((((u.setCell ⟨q, 0, none⟩ (.string B.key)).setCell ⟨q, 1, none⟩ (.int .i64 B.lo)).setCell ⟨q, 2, none⟩ (.int .i64 B.hi)).setCell ⟨q, 3, none⟩ (.int .i64 B.base)).setCell ⟨q, 4, none⟩ (.int .i64 B.rd)).setCell ⟨q, 5, none⟩ (.slice a' n' c')).setCell ⟨q, 6, none⟩ (.int .i64 B.lk.c)).setCell ⟨q, 7, none⟩ (.int .i64 B.lk.s)).setCell ⟨q, 8, none⟩ (.int .i64 B.lk.h))).heap[q]? = some (.cells #[.string B.key, .int .i64 B.lo, .int .i64 B.hi, .int .i64 B.base, .int .i64 B.rd, .slice a' n' c', .int .i64 B.lk.c, .int .i64 B.lk.s, .int .i64 B.lk.h, .int .i64 0] 28 (0, 0)) := put_row' h8
  have h10 : (((((((((((u.setCell ⟨q, 0, none⟩ (.string B.key)).setCell ⟨q, 1, none⟩ (.int .i64 B.lo)).setCell ⟨q, 2, none⟩ (.int .i64 B.hi)).setCell ⟨q, 3, none⟩ (.int .i64 B.base)).setCell ⟨q, 4, none⟩ (.int .i64 B.rd)).setCell ⟨q, 5, none⟩ (.slice a' n' c')).setCell ⟨q, 6, none⟩ (.int .i64 B.lk.c)).setCell ⟨q, 7, none⟩ (.int .i64 B.lk.s)).setCell ⟨q, 8, none⟩ (.int .i64 B.lk.h)).setCell ⟨q, 9, none⟩ (.int .i64 B.lk.n))).heap[q]? = some (.cells #[.string B.key, .int .i64 B.lo, .int .i64 B.hi, .int .i64 B.base, .int .i64 B.rd, .slice a' n' c', .int .i64 B.lk.c, .int .i64 B.lk.s, .int .i64 B.lk.h, .int .i64 B.lk.n] 28 (0, 0)) := put_row' h9
  exact ⟨h10⟩
theorem op_cells {w : World} {b p : Nat} {o : Opd} (h : w.rangeAt b p (oenc o)) : w.cell? ⟨b, p, none⟩ = some (.int .i64 o.k) ∧ w.cell? ⟨b, p + 1, none⟩ = some (.int .i64 o.nd) ∧ w.cell? ⟨b, p + 2, none⟩ = some (.int .i64 o.ls) ∧ w.cell? ⟨b, p + 3, none⟩ = some (.int .i64 o.rd) ∧ w.cell? ⟨b, p + 4, none⟩ = some (.int .i64 o.n) ∧ w.cell? ⟨b, p + 5, none⟩ = some (.int .i64 o.lo) ∧ w.cell? ⟨b, p + 6, none⟩ = some (.int .i64 o.hi) ∧ w.cell? ⟨b, p + 7, none⟩ = some (.int .i64 o.lk.c) ∧ w.cell? ⟨b, p + 8, none⟩ = some (.int .i64 o.lk.s) ∧ w.cell? ⟨b, p + 9, none⟩ = some (.int .i64 o.lk.h) ∧ w.cell? ⟨b, p + 10, none⟩ = some (.int .i64 o.lk.n) ∧ w.cell? ⟨b, p + 11, none⟩ = some (.bool o.cm) := ⟨h 0 _ rfl, h 1 _ rfl, h 2 _ rfl, h 3 _ rfl, h 4 _ rfl, h 5 _ rfl, h 6 _ rfl, h 7 _ rfl, h 8 _ rfl, h 9 _ rfl, h 10 _ rfl, h 11 _ rfl⟩
theorem ten_far {u : World} {q b : Nat} (B : Ac) (a' : Option Addr) (n' c' : Nat) (hb : b ≠ q) : (((((((((((u.setCell ⟨q, 0, none⟩ (.string B.key)).setCell ⟨q, 1, none⟩ (.int .i64 B.lo)).setCell ⟨q, 2, none⟩ (.int .i64 B.hi)).setCell ⟨q, 3, none⟩ (.int .i64 B.base)).setCell ⟨q, 4, none⟩ (.int .i64 B.rd)).setCell ⟨q, 5, none⟩ (.slice a' n' c')).setCell ⟨q, 6, none⟩ (.int .i64 B.lk.c)).setCell ⟨q, 7, none⟩ (.int .i64 B.lk.s)).setCell ⟨q, 8, none⟩ (.int .i64 B.lk.h)).setCell ⟨q, 9, none⟩ (.int .i64 B.lk.n))).heap[b]? = u.heap[b]? :=
  (put_far hb).trans ((put_far hb).trans ((put_far hb).trans ((put_far hb).trans ((put_far hb).trans ((put_far hb).trans ((put_far hb).trans ((put_far hb).trans ((put_far hb).trans (put_far hb)))))))))
theorem ten_below {w u : World} {q : Nat} (B : Ac) (a' : Option Addr) (n' c' : Nat) (h : Below w.heap.size w u) (hq : w.heap.size ≤ q) : Below w.heap.size w ((((((((((u.setCell ⟨q, 0, none⟩ (.string B.key)).setCell ⟨q, 1, none⟩ (.int .i64 B.lo)).setCell ⟨q, 2, none⟩ (.int .i64 B.hi)).setCell ⟨q, 3, none⟩ (.int .i64 B.base)).setCell ⟨q, 4, none⟩ (.int .i64 B.rd)).setCell ⟨q, 5, none⟩ (.slice a' n' c')).setCell ⟨q, 6, none⟩ (.int .i64 B.lk.c)).setCell ⟨q, 7, none⟩ (.int .i64 B.lk.s)).setCell ⟨q, 8, none⟩ (.int .i64 B.lk.h)).setCell ⟨q, 9, none⟩ (.int .i64 B.lk.n)) :=
  (((((((((h.setCell (p := ⟨q, 0, none⟩) (show w.heap.size ≤ q from hq) _).setCell (p := ⟨q, 1, none⟩) (show w.heap.size ≤ q from hq) _).setCell (p := ⟨q, 2, none⟩) (show w.heap.size ≤ q from hq) _).setCell (p := ⟨q, 3, none⟩) (show w.heap.size ≤ q from hq) _).setCell (p := ⟨q, 4, none⟩) (show w.heap.size ≤ q from hq) _).setCell (p := ⟨q, 5, none⟩) (show w.heap.size ≤ q from hq) _).setCell (p := ⟨q, 6, none⟩) (show w.heap.size ≤ q from hq) _).setCell (p := ⟨q, 7, none⟩) (show w.heap.size ≤ q from hq) _).setCell (p := ⟨q, 8, none⟩) (show w.heap.size ≤ q from hq) _).setCell (p := ⟨q, 9, none⟩) (show w.heap.size ≤ q from hq) _
theorem ten_rl {α : Type} {enc : α → List Value} {d by_ : Nat} {u : World} {a : Option Addr} {n q : Nat} {l : List α} (B : Ac) (a' : Option Addr) (n' c' : Nat) (h : Rl enc d by_ u a n l) (ha : Aw q a n) : Rl enc d by_ ((((((((((u.setCell ⟨q, 0, none⟩ (.string B.key)).setCell ⟨q, 1, none⟩ (.int .i64 B.lo)).setCell ⟨q, 2, none⟩ (.int .i64 B.hi)).setCell ⟨q, 3, none⟩ (.int .i64 B.base)).setCell ⟨q, 4, none⟩ (.int .i64 B.rd)).setCell ⟨q, 5, none⟩ (.slice a' n' c')).setCell ⟨q, 6, none⟩ (.int .i64 B.lk.c)).setCell ⟨q, 7, none⟩ (.int .i64 B.lk.s)).setCell ⟨q, 8, none⟩ (.int .i64 B.lk.h)).setCell ⟨q, 9, none⟩ (.int .i64 B.lk.n)) a n l :=
  rl_put (rl_put (rl_put (rl_put (rl_put (rl_put (rl_put (rl_put (rl_put (rl_put (h) ha) ha) ha) ha) ha) ha) ha) ha) ha) ha
set_option maxRecDepth 100000 in
set_option maxHeartbeats 8000000 in
theorem walk {w : World} {a as_ : Option Addr} {n c ns cs : Nat} {A : Ac} {script : List Opd} {nodes : Int} (h : Hs w a n A.hs) (hw : AcW A) (hcp : Cp a n c) (hs : Rl oenc 12 96 w as_ ns script) (hsw : ∀ o ∈ script, OpW o) :
    Calls Try.prog 5 #[acval A a n c, .slice as_ ns cs, .int .i64 nodes] w fun e w' => e = .returned (.bool true) ∧ Below w.heap.size w w' := by
  have H := hide h
  have HW := hide hw
  have HC := hide hcp
  have N := hide hs
  have SW := hide hsw
  have AWN : Hid (∀ g, w.heap.size ≤ g → Aw g as_ ns) := fun g hg => aw_rl hs hg
  have hslen := hs.len
  have hsroom := hs.room
  by_cases hr : rightB A = true
  · have RT := hide hr
    have R0 : Hid (Right A ∧ AcW A ∧ A.key = A.key) := ⟨(right_iff A).1 hr, hw, rfl⟩
    have AWA : Hid (Aw w.heap.size a n) := aw_rl h (Nat.le_refl _)
    clear h hw hcp hs hsw hr
    unfold acval
    go_enter Try.func5, Try.ntmps5
    go_wp2_with fail
    obtain ⟨w1, ew, hb1, ha1⟩ := one_new w A a n c
    rw [← ew]
    have HB1 := hide hb1
    have HA := hide ha1
    replace H := hide (H.out.below hb1)
    replace N := hide (N.out.below hb1)
    clear hb1 ha1 ew
    have HL : Hid (w.heap.size < w1.heap.size) := HA.out.lt
    refine (awake_any _).mono ?_
    rintro e w2 ⟨rfl, hb⟩
    have HB2 : Hid (Below w.heap.size w w2) := HB1.out.trans (hb.mono HB1.out.size)
    replace H := hide (H.out.below hb)
    replace N := hide (N.out.below hb)
    replace HA := hide (HA.out.below hb)
    replace HL := hide (Nat.lt_of_lt_of_le HL.out hb.size)
    clear hb HB1
    obtain ⟨z0, z1, z2, z3, z4, z5, z6, z7, z8, z9⟩ := HA.out.at_
    have zl : w.heap.size < w2.heap.size := HA.out.lt
    go_wp2_with fail
    clear z0 z1 z2 z3 z4 z5 z6 z7 z8 z9 zl
    refine ((rright_any H.out HW.out)).mono ?_
    rintro e w3 ⟨rfl, hb⟩
    have HB3 : Hid (Below w.heap.size w w3) := HB2.out.trans (hb.mono HB2.out.size)
    replace H := hide (H.out.below hb)
    replace N := hide (N.out.below hb)
    replace HA := hide (HA.out.below hb)
    replace HL := hide (Nat.lt_of_lt_of_le HL.out hb.size)
    clear hb HB2
    rw [RT.out]
    go_wp2_with fail
    go_loopw [7, 8, 9] (fun iv _ _ wr => ∃ (k : Nat) (X : Ac) (ax : Option Addr) (nx cx : Nat), k ≤ ns ∧ iv = .int .i64 k ∧ Hid (Right X ∧ AcW X ∧ X.key = A.key) ∧ Hid (Below w.heap.size w wr) ∧ Hid (Ab wr w.heap.size X ax nx cx) ∧ Hid (Hs wr ax nx X.hs) ∧ Hid (Cp ax nx cx) ∧ Hid (Aw w.heap.size ax nx) ∧ Hid (Rl oenc 12 96 wr as_ ns script)) (fun iv _ _ _ => ns - (intOf iv).toNat)
    case atStart => exact ⟨0, A, a, n, c, Nat.zero_le _, rfl, ⟨R0.out.1, R0.out.2.1, rfl⟩, HB3.out, HA.out, H.out, HC.out, AWA.out, N.out⟩
    case round =>
      clear H N HA HC R0 AWA HB3 RT
      obtain ⟨k, X, ax, nx, cx, hk, rfl, HR, HB, HA, HX, HC, AWX, N⟩ := hrel
      by_cases hlt : k < ns
      · obtain ⟨ob, ooff, o, rfl, ho, hob, hcell⟩ := N.out.at_ hlt
        have OW : Hid (OpW o) := SW.out o (List.mem_of_getElem? ho)
        have HO := hide ho
        have i1 : (k : Int) < (ns : Int) := by omega
        have i2 : (0 : Int) ≤ (k : Int) := by omega
        have i3 : (ns : Int) ≤ 9223372036854775807 := by omega
        obtain ⟨Y, eY⟩ : ∃ Y, Y = stepA X o nodes := ⟨_, rfl⟩
        obtain ⟨E, eE⟩ : ∃ E, E = stepE X o nodes := ⟨_, rfl⟩
        have EY := hide eY.symm
        have EE := hide eE.symm
        have HOC : Hid (wr.rangeAt ob (ooff + k * 12) (oenc o)) := hcell
        clear eY eE ho hcell
        go_upto_region 8 with fail
        go_cut [8, 9] from 24 to 33 (fun v8 v9 wc => ∃ (q : Nat) (ay : Option Addr) (ny cy : Nat), v8 = .pointer (some ⟨q, 0, none⟩) ∧ v9 = .int .i64 E ∧ Hid (Below w.heap.size w wc) ∧ Hid (Ab wc w.heap.size X ax nx cx) ∧ Hid (Ab wc q Y ay ny cy) ∧ Hid (Hs wc ax nx X.hs) ∧ Hid (Hs wc ay ny Y.hs) ∧ Hid (Cp ay ny cy) ∧ Hid (Aw w.heap.size ay ny) ∧ Hid (Rl oenc 12 96 wc (some ⟨ob, ooff, none⟩) ns script) ∧ Hid (w.heap.size < q))
        case first =>
          refine region_tree (n := 13) (fun v => v.cell? ⟨w.heap.size, 0, none⟩ = some (.string X.key) ∧ v.cell? ⟨w.heap.size, 1, none⟩ = some (.int .i64 X.lo) ∧ v.cell? ⟨w.heap.size, 2, none⟩ = some (.int .i64 X.hi) ∧ v.cell? ⟨w.heap.size, 3, none⟩ = some (.int .i64 X.base) ∧ v.cell? ⟨w.heap.size, 4, none⟩ = some (.int .i64 X.rd) ∧ v.cell? ⟨w.heap.size, 5, none⟩ = some (.slice ax nx cx) ∧ v.cell? ⟨w.heap.size, 6, none⟩ = some (.int .i64 X.lk.c) ∧ v.cell? ⟨w.heap.size, 7, none⟩ = some (.int .i64 X.lk.s) ∧ v.cell? ⟨w.heap.size, 8, none⟩ = some (.int .i64 X.lk.h) ∧ v.cell? ⟨w.heap.size, 9, none⟩ = some (.int .i64 X.lk.n) ∧ v.cell? ⟨ob, ooff + k * 12, none⟩ = some (.int .i64 o.k) ∧ v.cell? ⟨ob, ooff + k * 12 + 1, none⟩ = some (.int .i64 o.nd) ∧ v.cell? ⟨ob, ooff + k * 12 + 2, none⟩ = some (.int .i64 o.ls) ∧ v.cell? ⟨ob, ooff + k * 12 + 3, none⟩ = some (.int .i64 o.rd) ∧ v.cell? ⟨ob, ooff + k * 12 + 4, none⟩ = some (.int .i64 o.n) ∧ v.cell? ⟨ob, ooff + k * 12 + 5, none⟩ = some (.int .i64 o.lo) ∧ v.cell? ⟨ob, ooff + k * 12 + 6, none⟩ = some (.int .i64 o.hi) ∧ v.cell? ⟨ob, ooff + k * 12 + 7, none⟩ = some (.int .i64 o.lk.c) ∧ v.cell? ⟨ob, ooff + k * 12 + 8, none⟩ = some (.int .i64 o.lk.s) ∧ v.cell? ⟨ob, ooff + k * 12 + 9, none⟩ = some (.int .i64 o.lk.h) ∧ v.cell? ⟨ob, ooff + k * 12 + 10, none⟩ = some (.int .i64 o.lk.n) ∧ v.cell? ⟨ob, ooff + k * 12 + 11, none⟩ = some (.bool o.cm)) (by kernel_rfl) (by kernel_rfl) ?_
          have B0 : Hid (Below w.heap.size w wr.drew) := ⟨HB.out.os, HB.out.tape, HB.out.output, HB.out.size, HB.out.block⟩
          have A0 : Hid (Ab wr.drew w.heap.size X ax nx cx) := ⟨HA.out.row⟩
          have X0 : Hid (Hs wr.drew ax nx X.hs) := HX.out.drew 1
          have N0 : Hid (Rl oenc 12 96 wr.drew (some ⟨ob, ooff, none⟩) ns script) := N.out.drew 1
          have O0 : Hid (wr.drew.rangeAt ob (ooff + k * 12) (oenc o)) := HOC.out
          have L0 : Hid (ob < wr.drew.heap.size) := hob
          generalize wr.drew = u0 at B0 A0 X0 N0 O0 L0 ⊢
          obtain ⟨z0, z1, z2, z3, z4, z5, z6, z7, z8, z9⟩ := A0.out.at_
          obtain ⟨x0, x1, x2, x3, x4, x5, x6, x7, x8, x9, x10, x11⟩ := op_cells O0.out
          refine any_take 0 (v := ?_) (by kernel_rfl) (by kernel_rfl) (by kernel_rfl) rfl (fun _ _ _ h => h) (by rfl) (And.intro z0 (And.intro z1 (And.intro z2 (And.intro z3 (And.intro z4 (And.intro z5 (And.intro z6 (And.intro z7 (And.intro z8 (And.intro z9 (And.intro x0 (And.intro x1 (And.intro x2 (And.intro x3 (And.intro x4 (And.intro x5 (And.intro x6 (And.intro x7 (And.intro x8 (And.intro x9 (And.intro x10 x11))))))))))))))))))))) ?_ ?_
          rotate_left
          · (intro y hy; obtain ⟨q0, q1, q2, q3, q4, q5, q6, q7, q8, q9, q10, q11, q12, q13, q14, q15, q16, q17, q18, q19, q20, q21⟩ := hy; simp only [List.getElem_toArray, List.getElem_cons_zero]; go_simp; try with_reducible rfl)
          simp only [List.getElem_toArray, List.getElem_cons_zero, Act.put, List.setIfInBounds_toArray, List.set_cons_zero, List.set_cons_succ]
          refine any_take 1 (v := ?_) (by kernel_rfl) (by kernel_rfl) (by kernel_rfl) rfl (fun _ _ _ h => h) (by rfl) (And.intro z0 (And.intro z1 (And.intro z2 (And.intro z3 (And.intro z4 (And.intro z5 (And.intro z6 (And.intro z7 (And.intro z8 (And.intro z9 (And.intro x0 (And.intro x1 (And.intro x2 (And.intro x3 (And.intro x4 (And.intro x5 (And.intro x6 (And.intro x7 (And.intro x8 (And.intro x9 (And.intro x10 x11))))))))))))))))))))) ?_ ?_
          rotate_left
          · (intro y hy; simp only [List.getElem_toArray, List.getElem_cons_zero, List.getElem_cons_succ]; go_simp; try with_reducible rfl)
          simp only [List.getElem_toArray, List.getElem_cons_zero, List.getElem_cons_succ, Act.put, List.setIfInBounds_toArray, List.set_cons_zero, List.set_cons_succ]
          refine any_take 2 (v := ?_) (by kernel_rfl) (by kernel_rfl) (by kernel_rfl) rfl (fun _ _ _ h => h) (by rfl) (And.intro z0 (And.intro z1 (And.intro z2 (And.intro z3 (And.intro z4 (And.intro z5 (And.intro z6 (And.intro z7 (And.intro z8 (And.intro z9 (And.intro x0 (And.intro x1 (And.intro x2 (And.intro x3 (And.intro x4 (And.intro x5 (And.intro x6 (And.intro x7 (And.intro x8 (And.intro x9 (And.intro x10 x11))))))))))))))))))))) ?_ ?_
          rotate_left
          · (intro y hy; simp only [List.getElem_toArray, List.getElem_cons_zero, List.getElem_cons_succ]; go_simp; try with_reducible rfl)
          simp only [List.getElem_toArray, List.getElem_cons_zero, List.getElem_cons_succ, Act.put, List.setIfInBounds_toArray, List.set_cons_zero, List.set_cons_succ]
          refine any_take 3 (v := ?_) (by kernel_rfl) (by kernel_rfl) (by kernel_rfl) rfl (fun _ _ _ h => h) (by rfl) (And.intro z0 (And.intro z1 (And.intro z2 (And.intro z3 (And.intro z4 (And.intro z5 (And.intro z6 (And.intro z7 (And.intro z8 (And.intro z9 (And.intro x0 (And.intro x1 (And.intro x2 (And.intro x3 (And.intro x4 (And.intro x5 (And.intro x6 (And.intro x7 (And.intro x8 (And.intro x9 (And.intro x10 x11))))))))))))))))))))) ?_ ?_
          rotate_left
          · (intro y hy; simp only [List.getElem_toArray, List.getElem_cons_zero, List.getElem_cons_succ]; go_simp; try with_reducible rfl)
          simp only [List.getElem_toArray, List.getElem_cons_zero, List.getElem_cons_succ, Act.put, List.setIfInBounds_toArray, List.set_cons_zero, List.set_cons_succ]
          refine any_take 4 (v := ?_) (by kernel_rfl) (by kernel_rfl) (by kernel_rfl) rfl (fun _ _ _ h => h) (by rfl) (And.intro z0 (And.intro z1 (And.intro z2 (And.intro z3 (And.intro z4 (And.intro z5 (And.intro z6 (And.intro z7 (And.intro z8 (And.intro z9 (And.intro x0 (And.intro x1 (And.intro x2 (And.intro x3 (And.intro x4 (And.intro x5 (And.intro x6 (And.intro x7 (And.intro x8 (And.intro x9 (And.intro x10 x11))))))))))))))))))))) ?_ ?_
          rotate_left
          · (intro y hy; obtain ⟨q0, q1, q2, q3, q4, q5, q6, q7, q8, q9, q10, q11, q12, q13, q14, q15, q16, q17, q18, q19, q20, q21⟩ := hy; simp only [List.getElem_toArray, List.getElem_cons_zero, List.getElem_cons_succ]; go_simp; try with_reducible rfl)
          simp only [List.getElem_toArray, List.getElem_cons_zero, List.getElem_cons_succ, Act.put, List.setIfInBounds_toArray, List.set_cons_zero, List.set_cons_succ]
          refine any_take 5 (v := ?_) (by kernel_rfl) (by kernel_rfl) (by kernel_rfl) rfl (fun _ _ _ h => h) (by rfl) (And.intro z0 (And.intro z1 (And.intro z2 (And.intro z3 (And.intro z4 (And.intro z5 (And.intro z6 (And.intro z7 (And.intro z8 (And.intro z9 (And.intro x0 (And.intro x1 (And.intro x2 (And.intro x3 (And.intro x4 (And.intro x5 (And.intro x6 (And.intro x7 (And.intro x8 (And.intro x9 (And.intro x10 x11))))))))))))))))))))) ?_ ?_
          rotate_left
          · (intro y hy; simp only [List.getElem_toArray, List.getElem_cons_zero, List.getElem_cons_succ]; go_simp; try with_reducible rfl)
          simp only [List.getElem_toArray, List.getElem_cons_zero, List.getElem_cons_succ, Act.put, List.setIfInBounds_toArray, List.set_cons_zero, List.set_cons_succ]
          refine any_fork [6, 10] (by kernel_rfl) (by simp) ?_
          refine fork_more ?_ ?_
          · skip
            refine any_op rfl (fun K' hK => ?_)
            simp only [List.getElem_toArray, List.getElem_cons_zero, List.getElem_cons_succ]
            go_simp
            refine (call_x X0.out HR.out.2.1 HC.out OW.out EY.out EE.out).mono ?_
            rintro e u1 ⟨ay, ny, cy, rfl, hy, hb, hf, hcy⟩
            have Y1 : Hid (Hs u1 ay ny Y.hs) := hy
            have CY := hide hcy
            have AYS : Hid (Aw w.heap.size ay ny) := aw_new hf A0.out.lt
            have B1 : Hid (Below w.heap.size w u1) := B0.out.trans (hb.mono B0.out.size)
            have A1 := hide (A0.out.below hb)
            have X1 := hide (X0.out.below hb)
            have N1 := hide (N0.out.below hb)
            have O1 : Hid (u1.rangeAt ob (ooff + k * 12) (oenc o)) := range_same O0.out (hb.block _ L0.out)
            have L1 : Hid (ob < u1.heap.size) := Nat.lt_of_lt_of_le L0.out hb.size
            clear z0 z1 z2 z3 z4 z5 z6 z7 z8 z9 x0 x1 x2 x3 x4 x5 x6 x7 x8 x9 x10 x11
            obtain ⟨z0, z1, z2, z3, z4, z5, z6, z7, z8, z9⟩ := A1.out.at_
            obtain ⟨x0, x1, x2, x3, x4, x5, x6, x7, x8, x9, x10, x11⟩ := op_cells O1.out
            clear hb hy hcy hf
            refine hK _ _ ⟨(And.intro z0 (And.intro z1 (And.intro z2 (And.intro z3 (And.intro z4 (And.intro z5 (And.intro z6 (And.intro z7 (And.intro z8 (And.intro z9 (And.intro x0 (And.intro x1 (And.intro x2 (And.intro x3 (And.intro x4 (And.intro x5 (And.intro x6 (And.intro x7 (And.intro x8 (And.intro x9 (And.intro x10 x11))))))))))))))))))))), ?_⟩
            clear hK K'
            refine any_take 7 (v := ?_) (by kernel_rfl) (by kernel_rfl) (by kernel_rfl) rfl (fun _ _ _ h => h) (by rfl) (And.intro z0 (And.intro z1 (And.intro z2 (And.intro z3 (And.intro z4 (And.intro z5 (And.intro z6 (And.intro z7 (And.intro z8 (And.intro z9 (And.intro x0 (And.intro x1 (And.intro x2 (And.intro x3 (And.intro x4 (And.intro x5 (And.intro x6 (And.intro x7 (And.intro x8 (And.intro x9 (And.intro x10 x11))))))))))))))))))))) ?_ ?_
            rotate_left
            · (intro y hy; simp only [List.getElem_toArray, List.getElem_cons_zero, List.getElem_cons_succ]; go_simp; try with_reducible rfl)
            simp only [List.getElem_toArray, List.getElem_cons_zero, List.getElem_cons_succ, Act.put, List.setIfInBounds_toArray, List.set_cons_zero, List.set_cons_succ]
            refine any_take 8 (v := ?_) (by kernel_rfl) (by kernel_rfl) (by kernel_rfl) rfl (fun _ _ _ h => h) (by rfl) (And.intro z0 (And.intro z1 (And.intro z2 (And.intro z3 (And.intro z4 (And.intro z5 (And.intro z6 (And.intro z7 (And.intro z8 (And.intro z9 (And.intro x0 (And.intro x1 (And.intro x2 (And.intro x3 (And.intro x4 (And.intro x5 (And.intro x6 (And.intro x7 (And.intro x8 (And.intro x9 (And.intro x10 x11))))))))))))))))))))) ?_ ?_
            rotate_left
            · (intro y hy; simp only [List.getElem_toArray, List.getElem_cons_zero, List.getElem_cons_succ]; go_simp; try with_reducible rfl)
            simp only [List.getElem_toArray, List.getElem_cons_zero, List.getElem_cons_succ, Act.put, List.setIfInBounds_toArray, List.set_cons_zero, List.set_cons_succ]
            refine any_take 9 (v := ?_) (by kernel_rfl) (by kernel_rfl) (by kernel_rfl) rfl (fun _ _ _ h => h) (by rfl) (And.intro z0 (And.intro z1 (And.intro z2 (And.intro z3 (And.intro z4 (And.intro z5 (And.intro z6 (And.intro z7 (And.intro z8 (And.intro z9 (And.intro x0 (And.intro x1 (And.intro x2 (And.intro x3 (And.intro x4 (And.intro x5 (And.intro x6 (And.intro x7 (And.intro x8 (And.intro x9 (And.intro x10 x11))))))))))))))))))))) ?_ ?_
            rotate_left
            · (intro y hy; simp only [List.getElem_toArray, List.getElem_cons_zero, List.getElem_cons_succ]; go_simp; try with_reducible rfl)
            simp only [List.getElem_toArray, List.getElem_cons_zero, List.getElem_cons_succ, Act.put, List.setIfInBounds_toArray, List.set_cons_zero, List.set_cons_succ]
            refine any_fork [10] (by kernel_rfl) (by simp) ?_
            refine fork_one ?_
            refine any_op rfl (fun K' hK => ?_)
            simp only [List.getElem_toArray, List.getElem_cons_zero, List.getElem_cons_succ]
            go_simp
            obtain ⟨u2, ev⟩ : ∃ u, u = u1.alloc (.cells #[.string ⟨#[]⟩, .int .i64 0, .int .i64 0, .int .i64 0, .int .i64 0, .slice none 0 0, .int .i64 0, .int .i64 0, .int .i64 0, .int .i64 0] 28) := ⟨_, rfl⟩
            obtain ⟨q, el⟩ : ∃ b, b = u1.heap.size := ⟨_, rfl⟩
            have hb : Below u1.heap.size u1 u2 := by rw [ev]; exact below_new _ _
            have Z2 : Hid (Zr u2 q) := by show Zr _ _; rw [ev, el]; exact (ab_new u1 ac0 none 0 0).zr
            have LQ : Hid (w.heap.size < q ∧ ob < q ∧ u1.heap.size ≤ q ∧ q < u2.heap.size) := by
              have h1 := A1.out.lt
              have h2 := L1.out
              have h3 : u2.heap.size = u1.heap.size + 1 := by rw [ev]; simp
              show _ ∧ _ ∧ _ ∧ _
              omega
            have AQX : Hid (Aw q ax nx) := aw_rl X1.out LQ.out.2.2.1
            have AQY : Hid (Aw q ay ny) := aw_rl Y1.out LQ.out.2.2.1
            have B2 : Hid (Below w.heap.size w u2) := B1.out.trans (hb.mono B1.out.size)
            have A2 := hide (A1.out.below hb)
            have X2 := hide (X1.out.below hb)
            have N2 := hide (N1.out.below hb)
            have O2 : Hid (u2.rangeAt ob (ooff + k * 12) (oenc o)) := range_same O1.out (hb.block _ L1.out)
            have L2 : Hid (ob < u2.heap.size) := Nat.lt_of_lt_of_le L1.out hb.size
            have Y2 := hide (Y1.out.below hb)
            clear z0 z1 z2 z3 z4 z5 z6 z7 z8 z9 x0 x1 x2 x3 x4 x5 x6 x7 x8 x9 x10 x11
            obtain ⟨z0, z1, z2, z3, z4, z5, z6, z7, z8, z9⟩ := A2.out.at_
            obtain ⟨x0, x1, x2, x3, x4, x5, x6, x7, x8, x9, x10, x11⟩ := op_cells O2.out
            rw [← ev, ← el]
            clear ev el hb
            refine hK _ _ ⟨(And.intro z0 (And.intro z1 (And.intro z2 (And.intro z3 (And.intro z4 (And.intro z5 (And.intro z6 (And.intro z7 (And.intro z8 (And.intro z9 (And.intro x0 (And.intro x1 (And.intro x2 (And.intro x3 (And.intro x4 (And.intro x5 (And.intro x6 (And.intro x7 (And.intro x8 (And.intro x9 (And.intro x10 x11))))))))))))))))))))), ?_⟩
            clear hK K'
            refine any_fork [11] (by kernel_rfl) (by simp) ?_
            refine fork_one ?_
            obtain ⟨p0, p1, p2, p3, p4, p5, p6, p7, p8, p9⟩ := zr_at Z2.out
            have pf := zr_fz Z2.out
            have pl := Z2.out.lt
            refine any_op rfl (fun K' hK => ?_)
            simp only [List.getElem_toArray, List.getElem_cons_zero, List.getElem_cons_succ]
            go_simp
            obtain ⟨W, eW⟩ : ∃ W, W = ((((((((((u2.setCell ⟨q, 0, none⟩ (.string Y.key)).setCell ⟨q, 1, none⟩ (.int .i64 Y.lo)).setCell ⟨q, 2, none⟩ (.int .i64 Y.hi)).setCell ⟨q, 3, none⟩ (.int .i64 Y.base)).setCell ⟨q, 4, none⟩ (.int .i64 Y.rd)).setCell ⟨q, 5, none⟩ (.slice ay ny cy)).setCell ⟨q, 6, none⟩ (.int .i64 Y.lk.c)).setCell ⟨q, 7, none⟩ (.int .i64 Y.lk.s)).setCell ⟨q, 8, none⟩ (.int .i64 Y.lk.h)).setCell ⟨q, 9, none⟩ (.int .i64 Y.lk.n)) := ⟨_, rfl⟩
            have WB : Hid (Below w.heap.size w W) := by show Below _ _ _; rw [eW]; exact ten_below Y ay ny cy B2.out (by have := LQ.out; omega)
            have WA : Hid (Ab W w.heap.size X ax nx cx) := by show Ab _ _ _ _ _ _; rw [eW]; exact ⟨(ten_far Y ay ny cy (by have := LQ.out; omega)).trans A2.out.row⟩
            have WY : Hid (Ab W q Y ay ny cy) := by show Ab _ _ _ _ _ _; rw [eW]; exact ten_put Y ay ny cy Z2.out
            have WX : Hid (Hs W ax nx X.hs) := by show Rl _ _ _ _ _ _ _; rw [eW]; exact ten_rl Y ay ny cy X2.out AQX.out
            have WYS : Hid (Hs W ay ny Y.hs) := by show Rl _ _ _ _ _ _ _; rw [eW]; exact ten_rl Y ay ny cy Y2.out AQY.out
            have WN : Hid (Rl oenc 12 96 W (some ⟨ob, ooff, none⟩) ns script) := by show Rl _ _ _ _ _ _ _; rw [eW]; exact ten_rl Y ay ny cy N2.out (AWN.out q (by have := LQ.out; omega))
            have WO : Hid (W.rangeAt ob (ooff + k * 12) (oenc o)) := range_same O2.out (by rw [eW]; exact ten_far Y ay ny cy (by have := LQ.out; omega))
            rw [← eW]
            clear eW p0 p1 p2 p3 p4 p5 p6 p7 p8 p9 pf pl z0 z1 z2 z3 z4 z5 z6 z7 z8 z9 x0 x1 x2 x3 x4 x5 x6 x7 x8 x9 x10 x11
            obtain ⟨z0, z1, z2, z3, z4, z5, z6, z7, z8, z9⟩ := WA.out.at_
            obtain ⟨x0, x1, x2, x3, x4, x5, x6, x7, x8, x9, x10, x11⟩ := op_cells WO.out
            refine hK _ _ ⟨(And.intro z0 (And.intro z1 (And.intro z2 (And.intro z3 (And.intro z4 (And.intro z5 (And.intro z6 (And.intro z7 (And.intro z8 (And.intro z9 (And.intro x0 (And.intro x1 (And.intro x2 (And.intro x3 (And.intro x4 (And.intro x5 (And.intro x6 (And.intro x7 (And.intro x8 (And.intro x9 (And.intro x10 x11))))))))))))))))))))), ?_⟩
            clear hK K'
            refine any_take 12 (v := ?_) (by kernel_rfl) (by kernel_rfl) (by kernel_rfl) rfl (fun _ _ _ h => h) (by rfl) (And.intro z0 (And.intro z1 (And.intro z2 (And.intro z3 (And.intro z4 (And.intro z5 (And.intro z6 (And.intro z7 (And.intro z8 (And.intro z9 (And.intro x0 (And.intro x1 (And.intro x2 (And.intro x3 (And.intro x4 (And.intro x5 (And.intro x6 (And.intro x7 (And.intro x8 (And.intro x9 (And.intro x10 x11))))))))))))))))))))) ?_ ?_
            rotate_left
            · (intro y hy; simp only [List.getElem_toArray, List.getElem_cons_zero, List.getElem_cons_succ]; go_simp; try with_reducible rfl)
            simp only [List.getElem_toArray, List.getElem_cons_zero, List.getElem_cons_succ, Act.put, List.setIfInBounds_toArray, List.set_cons_zero, List.set_cons_succ]
            refine any_done (by kernel_rfl) ?_
            go_wp2_with fail
            go_meet
            case rel => exact ⟨q, ay, ny, cy, rfl, rfl, WB.out, WA.out, WY.out, WX.out, WYS.out, CY.out, AYS.out, WN.out, LQ.out.1⟩
          refine fork_one ?_
          refine any_op rfl (fun K' hK => ?_)
          simp only [List.getElem_toArray, List.getElem_cons_zero, List.getElem_cons_succ]
          go_simp
          obtain ⟨u1, ev⟩ : ∃ u, u = u0.alloc (.cells #[.string ⟨#[]⟩, .int .i64 0, .int .i64 0, .int .i64 0, .int .i64 0, .slice none 0 0, .int .i64 0, .int .i64 0, .int .i64 0, .int .i64 0] 28) := ⟨_, rfl⟩
          obtain ⟨q, el⟩ : ∃ b, b = u0.heap.size := ⟨_, rfl⟩
          have hb : Below u0.heap.size u0 u1 := by rw [ev]; exact below_new _ _
          have Z1 : Hid (Zr u1 q) := by show Zr _ _; rw [ev, el]; exact (ab_new u0 ac0 none 0 0).zr
          have LQ : Hid (w.heap.size < q ∧ ob < q ∧ u0.heap.size ≤ q ∧ q < u1.heap.size) := by
            have h1 := A0.out.lt
            have h2 := L0.out
            have h3 : u1.heap.size = u0.heap.size + 1 := by rw [ev]; simp
            show _ ∧ _ ∧ _ ∧ _
            omega
          have AQX : Hid (Aw q ax nx) := aw_rl X0.out LQ.out.2.2.1
          have B1 : Hid (Below w.heap.size w u1) := B0.out.trans (hb.mono B0.out.size)
          have A1 := hide (A0.out.below hb)
          have X1 := hide (X0.out.below hb)
          have N1 := hide (N0.out.below hb)
          have O1 : Hid (u1.rangeAt ob (ooff + k * 12) (oenc o)) := range_same O0.out (hb.block _ L0.out)
          have L1 : Hid (ob < u1.heap.size) := Nat.lt_of_lt_of_le L0.out hb.size
          clear z0 z1 z2 z3 z4 z5 z6 z7 z8 z9 x0 x1 x2 x3 x4 x5 x6 x7 x8 x9 x10 x11
          obtain ⟨z0, z1, z2, z3, z4, z5, z6, z7, z8, z9⟩ := A1.out.at_
          obtain ⟨x0, x1, x2, x3, x4, x5, x6, x7, x8, x9, x10, x11⟩ := op_cells O1.out
          rw [← ev, ← el]
          clear ev el hb
          refine hK _ _ ⟨(And.intro z0 (And.intro z1 (And.intro z2 (And.intro z3 (And.intro z4 (And.intro z5 (And.intro z6 (And.intro z7 (And.intro z8 (And.intro z9 (And.intro x0 (And.intro x1 (And.intro x2 (And.intro x3 (And.intro x4 (And.intro x5 (And.intro x6 (And.intro x7 (And.intro x8 (And.intro x9 (And.intro x10 x11))))))))))))))))))))), ?_⟩
          clear hK K'
          refine any_fork [6] (by kernel_rfl) (by simp) ?_
          refine fork_one ?_
          refine any_op rfl (fun K' hK => ?_)
          simp only [List.getElem_toArray, List.getElem_cons_zero, List.getElem_cons_succ]
          go_simp
          refine (call_x X1.out HR.out.2.1 HC.out OW.out EY.out EE.out).mono ?_
          rintro e u2 ⟨ay, ny, cy, rfl, hy, hb, hf, hcy⟩
          have Y2 : Hid (Hs u2 ay ny Y.hs) := hy
          have CY := hide hcy
          have AYS : Hid (Aw w.heap.size ay ny) := aw_new hf A1.out.lt
          have AQY : Hid (Aw q ay ny) := aw_new hf LQ.out.2.2.2
          have B2 : Hid (Below w.heap.size w u2) := B1.out.trans (hb.mono B1.out.size)
          have A2 := hide (A1.out.below hb)
          have X2 := hide (X1.out.below hb)
          have N2 := hide (N1.out.below hb)
          have O2 : Hid (u2.rangeAt ob (ooff + k * 12) (oenc o)) := range_same O1.out (hb.block _ L1.out)
          have L2 : Hid (ob < u2.heap.size) := Nat.lt_of_lt_of_le L1.out hb.size
          have Z2 := hide (Z1.out.below hb)
          clear z0 z1 z2 z3 z4 z5 z6 z7 z8 z9 x0 x1 x2 x3 x4 x5 x6 x7 x8 x9 x10 x11
          obtain ⟨z0, z1, z2, z3, z4, z5, z6, z7, z8, z9⟩ := A2.out.at_
          obtain ⟨x0, x1, x2, x3, x4, x5, x6, x7, x8, x9, x10, x11⟩ := op_cells O2.out
          clear hb hy hcy hf
          refine hK _ _ ⟨(And.intro z0 (And.intro z1 (And.intro z2 (And.intro z3 (And.intro z4 (And.intro z5 (And.intro z6 (And.intro z7 (And.intro z8 (And.intro z9 (And.intro x0 (And.intro x1 (And.intro x2 (And.intro x3 (And.intro x4 (And.intro x5 (And.intro x6 (And.intro x7 (And.intro x8 (And.intro x9 (And.intro x10 x11))))))))))))))))))))), ?_⟩
          clear hK K'
          refine any_take 7 (v := ?_) (by kernel_rfl) (by kernel_rfl) (by kernel_rfl) rfl (fun _ _ _ h => h) (by rfl) (And.intro z0 (And.intro z1 (And.intro z2 (And.intro z3 (And.intro z4 (And.intro z5 (And.intro z6 (And.intro z7 (And.intro z8 (And.intro z9 (And.intro x0 (And.intro x1 (And.intro x2 (And.intro x3 (And.intro x4 (And.intro x5 (And.intro x6 (And.intro x7 (And.intro x8 (And.intro x9 (And.intro x10 x11))))))))))))))))))))) ?_ ?_
          rotate_left
          · (intro y hy; simp only [List.getElem_toArray, List.getElem_cons_zero, List.getElem_cons_succ]; go_simp; try with_reducible rfl)
          simp only [List.getElem_toArray, List.getElem_cons_zero, List.getElem_cons_succ, Act.put, List.setIfInBounds_toArray, List.set_cons_zero, List.set_cons_succ]
          refine any_take 8 (v := ?_) (by kernel_rfl) (by kernel_rfl) (by kernel_rfl) rfl (fun _ _ _ h => h) (by rfl) (And.intro z0 (And.intro z1 (And.intro z2 (And.intro z3 (And.intro z4 (And.intro z5 (And.intro z6 (And.intro z7 (And.intro z8 (And.intro z9 (And.intro x0 (And.intro x1 (And.intro x2 (And.intro x3 (And.intro x4 (And.intro x5 (And.intro x6 (And.intro x7 (And.intro x8 (And.intro x9 (And.intro x10 x11))))))))))))))))))))) ?_ ?_
          rotate_left
          · (intro y hy; simp only [List.getElem_toArray, List.getElem_cons_zero, List.getElem_cons_succ]; go_simp; try with_reducible rfl)
          simp only [List.getElem_toArray, List.getElem_cons_zero, List.getElem_cons_succ, Act.put, List.setIfInBounds_toArray, List.set_cons_zero, List.set_cons_succ]
          refine any_take 9 (v := ?_) (by kernel_rfl) (by kernel_rfl) (by kernel_rfl) rfl (fun _ _ _ h => h) (by rfl) (And.intro z0 (And.intro z1 (And.intro z2 (And.intro z3 (And.intro z4 (And.intro z5 (And.intro z6 (And.intro z7 (And.intro z8 (And.intro z9 (And.intro x0 (And.intro x1 (And.intro x2 (And.intro x3 (And.intro x4 (And.intro x5 (And.intro x6 (And.intro x7 (And.intro x8 (And.intro x9 (And.intro x10 x11))))))))))))))))))))) ?_ ?_
          rotate_left
          · (intro y hy; simp only [List.getElem_toArray, List.getElem_cons_zero, List.getElem_cons_succ]; go_simp; try with_reducible rfl)
          simp only [List.getElem_toArray, List.getElem_cons_zero, List.getElem_cons_succ, Act.put, List.setIfInBounds_toArray, List.set_cons_zero, List.set_cons_succ]
          refine any_fork [11] (by kernel_rfl) (by simp) ?_
          refine fork_one ?_
          obtain ⟨p0, p1, p2, p3, p4, p5, p6, p7, p8, p9⟩ := zr_at Z2.out
          have pf := zr_fz Z2.out
          have pl := Z2.out.lt
          refine any_op rfl (fun K' hK => ?_)
          simp only [List.getElem_toArray, List.getElem_cons_zero, List.getElem_cons_succ]
          go_simp
          obtain ⟨W, eW⟩ : ∃ W, W = ((((((((((u2.setCell ⟨q, 0, none⟩ (.string Y.key)).setCell ⟨q, 1, none⟩ (.int .i64 Y.lo)).setCell ⟨q, 2, none⟩ (.int .i64 Y.hi)).setCell ⟨q, 3, none⟩ (.int .i64 Y.base)).setCell ⟨q, 4, none⟩ (.int .i64 Y.rd)).setCell ⟨q, 5, none⟩ (.slice ay ny cy)).setCell ⟨q, 6, none⟩ (.int .i64 Y.lk.c)).setCell ⟨q, 7, none⟩ (.int .i64 Y.lk.s)).setCell ⟨q, 8, none⟩ (.int .i64 Y.lk.h)).setCell ⟨q, 9, none⟩ (.int .i64 Y.lk.n)) := ⟨_, rfl⟩
          have WB : Hid (Below w.heap.size w W) := by show Below _ _ _; rw [eW]; exact ten_below Y ay ny cy B2.out (by have := LQ.out; omega)
          have WA : Hid (Ab W w.heap.size X ax nx cx) := by show Ab _ _ _ _ _ _; rw [eW]; exact ⟨(ten_far Y ay ny cy (by have := LQ.out; omega)).trans A2.out.row⟩
          have WY : Hid (Ab W q Y ay ny cy) := by show Ab _ _ _ _ _ _; rw [eW]; exact ten_put Y ay ny cy Z2.out
          have WX : Hid (Hs W ax nx X.hs) := by show Rl _ _ _ _ _ _ _; rw [eW]; exact ten_rl Y ay ny cy X2.out AQX.out
          have WYS : Hid (Hs W ay ny Y.hs) := by show Rl _ _ _ _ _ _ _; rw [eW]; exact ten_rl Y ay ny cy Y2.out AQY.out
          have WN : Hid (Rl oenc 12 96 W (some ⟨ob, ooff, none⟩) ns script) := by show Rl _ _ _ _ _ _ _; rw [eW]; exact ten_rl Y ay ny cy N2.out (AWN.out q (by have := LQ.out; omega))
          have WO : Hid (W.rangeAt ob (ooff + k * 12) (oenc o)) := range_same O2.out (by rw [eW]; exact ten_far Y ay ny cy (by have := LQ.out; omega))
          rw [← eW]
          clear eW p0 p1 p2 p3 p4 p5 p6 p7 p8 p9 pf pl z0 z1 z2 z3 z4 z5 z6 z7 z8 z9 x0 x1 x2 x3 x4 x5 x6 x7 x8 x9 x10 x11
          obtain ⟨z0, z1, z2, z3, z4, z5, z6, z7, z8, z9⟩ := WA.out.at_
          obtain ⟨x0, x1, x2, x3, x4, x5, x6, x7, x8, x9, x10, x11⟩ := op_cells WO.out
          refine hK _ _ ⟨(And.intro z0 (And.intro z1 (And.intro z2 (And.intro z3 (And.intro z4 (And.intro z5 (And.intro z6 (And.intro z7 (And.intro z8 (And.intro z9 (And.intro x0 (And.intro x1 (And.intro x2 (And.intro x3 (And.intro x4 (And.intro x5 (And.intro x6 (And.intro x7 (And.intro x8 (And.intro x9 (And.intro x10 x11))))))))))))))))))))), ?_⟩
          clear hK K'
          refine any_take 12 (v := ?_) (by kernel_rfl) (by kernel_rfl) (by kernel_rfl) rfl (fun _ _ _ h => h) (by rfl) (And.intro z0 (And.intro z1 (And.intro z2 (And.intro z3 (And.intro z4 (And.intro z5 (And.intro z6 (And.intro z7 (And.intro z8 (And.intro z9 (And.intro x0 (And.intro x1 (And.intro x2 (And.intro x3 (And.intro x4 (And.intro x5 (And.intro x6 (And.intro x7 (And.intro x8 (And.intro x9 (And.intro x10 x11))))))))))))))))))))) ?_ ?_
          rotate_left
          · (intro y hy; simp only [List.getElem_toArray, List.getElem_cons_zero, List.getElem_cons_succ]; go_simp; try with_reducible rfl)
          simp only [List.getElem_toArray, List.getElem_cons_zero, List.getElem_cons_succ, Act.put, List.setIfInBounds_toArray, List.set_cons_zero, List.set_cons_succ]
          refine any_done (by kernel_rfl) ?_
          go_wp2_with fail
          go_meet
          case rel => exact ⟨q, ay, ny, cy, rfl, rfl, WB.out, WA.out, WY.out, WX.out, WYS.out, CY.out, AYS.out, WN.out, LQ.out.1⟩
        case rest =>
          obtain ⟨q, ay, ny, cy, rfl, rfl, HB2, HA2, HY2, HX2, HYS, HCY, AWY, N2, HQ⟩ := hcut
          rename_i wc
          obtain ⟨z0, z1, z2, z3, z4, z5, z6, z7, z8, z9⟩ := HA2.out.at_
          have zl := HA2.out.lt
          obtain ⟨y0, y1, y2, y3, y4, y5, y6, y7, y8, y9⟩ := HY2.out.at_
          have yl := HY2.out.lt
          by_cases he : E = 0
          · have RS : Hid (Right Y ∧ AcW Y ∧ Y.key = X.key) := by
              have e1 : stepE X o nodes = 0 := EE.out.trans he
              have r1 := right_step HR.out.2.1 e1
              have w1 := acw_step (nodes := nodes) HR.out.2.1 OW.out
              rw [EY.out] at r1 w1
              exact ⟨r1.1, w1, r1.2⟩
            have CE : Hid (checkE Y = 0) := by show _ = _; unfold checkE; rw [if_pos ((right_iff Y).2 RS.out.1)]
            have RE : Hid (rightB Y = true) := (right_iff Y).2 RS.out.1
            have RW := fun W => hide (fun h : Hs W ay ny Y.hs => rright_any (c := cy) h RS.out.2.1)
            rw [RE.out] at RW
            have HE := hide he
            clear he
            have he := HE.out
            go_wp2_with fail
            clear z0 z1 z2 z3 z4 z5 z6 z7 z8 z9 zl y0 y1 y2 y3 y4 y5 y6 y7 y8 y9 yl he
            refine (check_x HYS.out RS.out.2.1 CE.out).mono ?_
            rintro e w10 ⟨rfl, hb⟩
            have HB3 : Hid (Below w.heap.size w w10) := HB2.out.trans (hb.mono HB2.out.size)
            have HA3 := hide (HA2.out.below hb)
            have HY3 := hide (HY2.out.below hb)
            have HX3 := hide (HX2.out.below hb)
            have HYS3 := hide (HYS.out.below hb)
            have N3 := hide (N2.out.below hb)
            clear hb HB2 HA2 HY2 HX2 HYS N2
            obtain ⟨y0, y1, y2, y3, y4, y5, y6, y7, y8, y9⟩ := HY3.out.at_
            have yl := HY3.out.lt
            go_wp2_with fail
            clear y0 y1 y2 y3 y4 y5 y6 y7 y8 y9 yl
            refine ((RW _).out HYS3.out).mono ?_
            rintro e w11 ⟨rfl, hb⟩
            have HB4 : Hid (Below w.heap.size w w11) := HB3.out.trans (hb.mono HB3.out.size)
            have HA4 := hide (HA3.out.below hb)
            have HY4 := hide (HY3.out.below hb)
            have HX4 := hide (HX3.out.below hb)
            have HYS4 := hide (HYS3.out.below hb)
            have N4 := hide (N3.out.below hb)
            clear hb HB3 HA3 HY3 HX3 HYS3 N3 RW
            obtain ⟨z0, z1, z2, z3, z4, z5, z6, z7, z8, z9⟩ := HA4.out.at_
            have zl := HA4.out.lt
            obtain ⟨y0, y1, y2, y3, y4, y5, y6, y7, y8, y9⟩ := HY4.out.at_
            have yl := HY4.out.lt
            have ke : (Y.key.toList == X.key.toList) = true := by rw [RS.out.2.2]; simp
            have hq0 : ¬ q = w.heap.size := by have := HQ.out; omega
            have hns : (ns : Int) ≤ 9223372036854775807 := by omega
            go_upto_region 14 with fail
            clear ke
            go_wp2_with (refine wpList_store_row rfl 28 (.tmp 3) (.tmp 55) rfl (w.heap.size) #[.string Y.key, .int .i64 Y.lo, .int .i64 Y.hi, .int .i64 Y.base, .int .i64 Y.rd, .slice ay ny cy, .int .i64 Y.lk.c, .int .i64 Y.lk.s, .int .i64 Y.lk.h, .int .i64 Y.lk.n] rfl rfl 28 #[.string X.key, .int .i64 X.lo, .int .i64 X.hi, .int .i64 X.base, .int .i64 X.rd, .slice ax nx cx, .int .i64 X.lk.c, .int .i64 X.lk.s, .int .i64 X.lk.h, .int .i64 X.lk.n] HA4.out.row ac_info rfl (by simp [Value.oneCell']) ?_)
            clear z0 z1 z2 z3 z4 z5 z6 z7 z8 z9 zl y0 y1 y2 y3 y4 y5 y6 y7 y8 y9 yl
            go_roundw
            case rel => exact ⟨k + 1, Y, ay, ny, cy, by omega, by go_num, ⟨RS.out.1, RS.out.2.1, RS.out.2.2.trans HR.out.2.2⟩, below_setRow HB4.out (Nat.le_refl _) _, HA4.out.row_self, rl_row HYS4.out AWY.out, HCY.out, AWY.out, rl_row N4.out (AWN.out _ (Nat.le_refl _))⟩
            case measure => simp [intOf]; omega
          · have he2 : (E == 0) = false := by simpa using he
            have Y0 : Hid (Y = ac0) := by show _ = _; rw [← EY.out]; exact step_none (by rw [EE.out]; exact he)
            go_wp2_with fail
            clear z0 z1 z2 z3 z4 z5 z6 z7 z8 z9 zl y0 y1 y2 y3 y4 y5 y6 y7 y8 y9 yl
            refine (same_none HYS.out Y0.out).mono ?_
            rintro e w10 ⟨rfl, hb⟩
            have HB3 : Hid (Below w.heap.size w w10) := HB2.out.trans (hb.mono HB2.out.size)
            have HA3 := hide (HA2.out.below hb)
            have HX3 := hide (HX2.out.below hb)
            have N3 := hide (N2.out.below hb)
            have hns : (ns : Int) ≤ 9223372036854775807 := by omega
            clear hb
            go_wp2_with fail
            go_roundw
            case rel => exact ⟨k + 1, X, ax, nx, cx, by omega, by go_num, HR.out, HB3.out, HA3.out, HX3.out, HC.out, AWX.out, N3.out⟩
            case measure => simp [intOf]; omega
      · obtain rfl : k = ns := by omega
        obtain ⟨z0, z1, z2, z3, z4, z5, z6, z7, z8, z9⟩ := HA.out.at_
        have zl := HA.out.lt
        go_wp2_with fail
        go_returns
        exact ⟨rfl, HB.out⟩
  · have RF : rightB A = false := by cases e : rightB A <;> simp_all
    have RFH := hide RF
    have CE : Hid (checkE A = 21) := by show _ = _; unfold checkE; rw [if_neg (by rw [RF]; simp)]
    clear h hw hcp hs hsw hr RF
    unfold acval
    go_enter Try.func5, Try.ntmps5
    go_wp2_with fail
    obtain ⟨w1, ew, hb1, ha1⟩ := one_new w A a n c
    rw [← ew]
    have HB1 := hide hb1
    have HA := hide ha1
    replace H := hide (H.out.below hb1)
    clear hb1 ha1 ew
    have HL : Hid (w.heap.size < w1.heap.size) := HA.out.lt
    refine (awake_any _).mono ?_
    rintro e w2 ⟨rfl, hb⟩
    have HB2 : Hid (Below w.heap.size w w2) := HB1.out.trans (hb.mono HB1.out.size)
    replace H := hide (H.out.below hb)
    replace HA := hide (HA.out.below hb)
    replace HL := hide (Nat.lt_of_lt_of_le HL.out hb.size)
    clear hb HB1
    obtain ⟨z0, z1, z2, z3, z4, z5, z6, z7, z8, z9⟩ := HA.out.at_
    have zl : w.heap.size < w2.heap.size := HA.out.lt
    go_wp2_with fail
    clear z0 z1 z2 z3 z4 z5 z6 z7 z8 z9 zl
    refine ((rright_any H.out HW.out)).mono ?_
    rintro e w3 ⟨rfl, hb⟩
    have HB3 : Hid (Below w.heap.size w w3) := HB2.out.trans (hb.mono HB2.out.size)
    replace H := hide (H.out.below hb)
    replace HA := hide (HA.out.below hb)
    replace HL := hide (Nat.lt_of_lt_of_le HL.out hb.size)
    clear hb HB2
    rw [RFH.out]
    obtain ⟨z0, z1, z2, z3, z4, z5, z6, z7, z8, z9⟩ := HA.out.at_
    have zl : w.heap.size < w3.heap.size := HA.out.lt
    go_wp2_with fail
    clear z0 z1 z2 z3 z4 z5 z6 z7 z8 z9 zl
    refine (check_x H.out HW.out CE.out).mono ?_
    rintro e w4 ⟨rfl, hb⟩
    have HB4 : Hid (Below w.heap.size w w4) := HB3.out.trans (hb.mono HB3.out.size)
    replace H := hide (H.out.below hb)
    replace HA := hide (HA.out.below hb)
    replace HL := hide (Nat.lt_of_lt_of_le HL.out hb.size)
    clear hb HB3
    obtain ⟨z0, z1, z2, z3, z4, z5, z6, z7, z8, z9⟩ := HA.out.at_
    have zl : w.heap.size < w4.heap.size := HA.out.lt
    go_wp2_with fail
    clear z0 z1 z2 z3 z4 z5 z6 z7 z8 z9 zl
    go_returns
    exact ⟨rfl, HB4.out⟩

set_option maxRecDepth 100000 in
theorem lifted (os : Os) (started : os.Started) (H : Type) (enc : TypeId × Value → H) :
    ReturnsInHanded {} Try.checked os 5 .any (Rows.accountStaysSpec.pre6 enc Try.prog Try.f5 Rows.accountStaysRow.domain false) (Rows.accountStaysSpec.post enc Try.prog Try.f5 false true false false) := by
  refine returnsInHanded_of_change_sized (C := Try.checked) own started (by kernel_rfl) Try.func5
    (ChangeSpec.witness6 (enc := enc) (C := Try.checked) false ⟨#[], #[.agg #[.string ByteArray.empty, .int .i64 0, .int .i64 0, .int .i64 0, .int .i64 0, .slice none 0 0, .int .i64 0, .int .i64 0, .int .i64 0, .int .i64 0], .slice none 0 0, .int .i64 0], []⟩ 8 (by kernel_rfl) (by kernel_rfl) (by kernel_rfl) (by kernel_rfl)) ?_
  intro W base args ds gs before hval0 hW hcnd hsz0 _
  have hsz : (DataW.weightsEach Try.prog (Try.f5.params.toList ++ Rows.accountStaysSpec.plain.varTypes Try.prog) (ds ++ gs)).all (· ≤ reachBytes) = true := hsz0
  have hval : ∀ (j : Nat) t v, Try.f5.params[j]? = some t → args[j]? = some v → Value.okWide Try.prog W .any base t v := hval0
  have hW' := hW
  obtain ⟨p, q, hA0, hV, rfl, hfz, hnd⟩ := hW
  have hA : DataW.TrodAll enc Try.prog W 0 (fun _ => true) true Try.f5.params.toList args.toList ds p := hA0
  rw [Try.params5] at hA hval hsz
  obtain ⟨v0, vs0, d0, ds0, p0, q0, hargs, rfl, rfl, h0, r0⟩ := trodAll_cons hA
  obtain ⟨v1, vs1, d1, ds1, p1, q1, rfl, rfl, rfl, h1, r1⟩ := trodAll_cons r0
  obtain ⟨v2, vs2, d2, ds2, p2, q2, rfl, rfl, rfl, h2, r2⟩ := trodAll_cons r1
  obtain ⟨rfl, rfl, rfl⟩ := trodAll_nil r2
  obtain rfl : args = #[v0, v1, v2] := by cases args; simp_all
  obtain ⟨rfl, rfl⟩ := trodVars_none hV
  have lt0 : ∀ x ∈ p0, x.block < W.heap.size := by obtain ⟨m, hm⟩ := h0; exact DataW.trod_lt m _ _ _ hm
  obtain ⟨a, n, c, A, rfl, k0, kw0, kc0⟩ := open_account_held (hval 0 28 v0 rfl rfl) h0 (fun n hn => by have h := List.all_eq_true.1 hsz n (DataW.weights_mem_each (j := 0) rfl rfl n hn); simpa using h)
  have lt1 : ∀ x ∈ p1, x.block < W.heap.size := by obtain ⟨m, hm⟩ := h1; exact DataW.trod_lt m _ _ _ hm
  obtain ⟨an, nn, cn, script, rfl, kn, kni⟩ := open_ops_held (hval 1 52 v1 rfl rfl) h1 (fun n hn => by have h := List.all_eq_true.1 hsz n (DataW.weights_mem_each (j := 1) rfl rfl n hn); simpa using h)
  have lt2 : ∀ x ∈ p2, x.block < W.heap.size := by obtain ⟨m, hm⟩ := h2; exact DataW.trod_lt m _ _ _ hm
  obtain ⟨ns, rfl, ks⟩ := open_i64 (hval 2 3 v2 rfl rfl) h2
  clear hA0 hval0
  refine (walk k0 kw0 kc0 kn kni).mono fun e W' ⟨he, bel⟩ => ?_
  subst he
  exact ⟨_, rfl, _, _, _, [], _, [], hW', trodAll_mk1 (shut_bool Try.underlying4 _), (trodAll_cons_mk (Below.trod laidOut (by kernel_rfl) (of_decide_eq_true (by kernel_rfl)) h0 bel lt0) (trodAll_cons_mk (Below.trod laidOut (by kernel_rfl) (of_decide_eq_true (by kernel_rfl)) h1 bel lt1) (trodAll_cons_mk (Below.trod laidOut (by kernel_rfl) (of_decide_eq_true (by kernel_rfl)) h2 bel lt2) trodAll_mk0))), rfl, bel.frame _, fun h => by cases h⟩

theorem over : Rows.accountStaysRow.holds Try.pinned (OpenSpec.ofChange Rows.accountStaysSpec) :=
  OpenClaim.holds_of_wide 5 Try.f5 rfl rfl rfl rfl rfl rfl rfl ⟨rfl, rfl, rfl, rfl, rfl⟩ rfl rfl rfl rfl rfl (by kernel_rfl) Try.func5 (by kernel_rfl)
    (of_decide_eq_true (by kernel_rfl)) (by unfold Func.isWrapper; first | (rw [if_pos (by decide +kernel)]; kernel_rfl) | (rw [if_neg (by decide +kernel)]; exact ⟨rfl, rfl⟩))
    (fun os started H enc _ => lifted os started H enc)

theorem proved : Rows.AccountStaysSaid := over
#print axioms proved
end AccountStays
theorem accountStays_holds : Rows.AccountStaysSaid := AccountStays.proved
end Go.Proofs.Ytfolpnjndlklkaa
