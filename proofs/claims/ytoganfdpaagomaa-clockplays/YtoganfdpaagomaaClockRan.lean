/- The law folder's ran: a clock on which a list of calls was carried out. No condition. -/
import Derived.Test.YtoganfdpaagomaaClockOpl
import Derived.Deep.RegionHeld3
namespace Go.Proofs.Ytoganfdpaagomaa
open Go.ChangeShapes Go.WideShapes Go.ChangeAt Go.RowKit Cm
set_option linter.unusedVariables false

theorem opc_cells {w : World} {b off : Nat} {kind d : Int} {name : ByteArray} (h : w.rangeAt b off (opc ⟨kind, name, d⟩)) :
    w.cell? ⟨b, off, none⟩ = some (.int .i64 kind) ∧ w.cell? ⟨b, off + 1, none⟩ = some (.string name) ∧ w.cell? ⟨b, off + 2, none⟩ = some (.int .i64 d) :=
  ⟨h 0 _ rfl, h 1 _ rfl, h 2 _ rfl⟩
/-- what a call makes of a clock -/
def stepS (s : Cs) (o : Opd) : Cs := if o.kind = 1 then stopS s o.name else if o.kind = 2 then tickS s else setS s o.name o.d
set_option maxRecDepth 100000 in
set_option maxHeartbeats 1000000 in
theorem ran_any {w : World} {a : Option Addr} {len cap : Nat} {os : Nat → Opd} (h : Ops w a len os) :
    Calls Try.prog 17 #[.slice a len cap] w fun e w' => ∃ D s, e = .returned (.pointer (some ⟨D, 0, none⟩)) ∧ Below w.heap.size w w' ∧ ClN w' w.heap.size D s len := by
  have H := hide h
  have RM := h.room
  have NY := hide (new_any w)
  clear h
  go_enter Try.func17, Try.ntmps17
  go_wp2_with fail
  refine NY.out.mono ?_
  rintro e w1 ⟨rfl, hb, L0, hd, hl⟩
  have B1 := hide hb
  have D1 : Hid (ClN w1 w.heap.size (w.heap.size + 2) newS 0) := ⟨L0, hd, hl⟩
  generalize w.heap.size + 2 = D at D1 ⊢
  clear hb hd hl
  go_wp2_with fail
  go_loopw [4] (fun i wr => ∃ (k : Nat) (s : Cs), k ≤ len ∧ i = .int .i64 k ∧ Hid (Below w.heap.size w wr) ∧ Hid (ClN wr w.heap.size D s k)) (fun i _ => len - (intOf i).toNat)
  case atStart => exact ⟨0, _, by omega, rfl, B1, D1⟩
  case round =>
    clear D1 B1
    obtain ⟨k, s, hk, rfl, HB, HD⟩ := hrel
    by_cases hlt : k < len
    · obtain ⟨ob, off, rfl, oblt, hoc⟩ := H.out.cells (by omega)
      have SZ := hide (H.out.each k hlt)
      have hr := rangeAt_same (hoc k hlt) (HB.out.block ob oblt)
      generalize os k = o at *
      obtain ⟨kind, name, d⟩ := o
      obtain ⟨o0, o1, o2⟩ := opc_cells hr
      have OB : Hid (ob < w.heap.size) := oblt
      clear hr hoc oblt
      have i1 : (k : Int) < (len : Int) := by omega
      have i2 : (0 : Int) ≤ (k : Int) := by omega
      obtain ⟨L, hdk, hL⟩ := HD.out
      have LL := hide hL
      have HC := hide hdk
      have NW : Hid (w.heap.size ≤ wr.heap.size) := HB.out.size
      have KB : Hid ((k : Int) < 1000000000000000000) := by show _ < _; omega
      clear hdk hL
      by_cases k1 : kind = 1
      · subst k1
        have CS := hide (stop_any HC.out name SZ.out)
        go_wp2_with fail
        refine CS.out.mono ?_
        rintro e w4 ⟨rfl, hmv⟩
        have MV := hide (cmv_next LL.out NW.out hmv)
        clear hmv
        go_wp2_with fail
        go_roundw
        case rel => exact ⟨k + 1, stopS s name, by omega, by go_num, HB.out.trans MV.out.2, by obtain ⟨L', x, y⟩ := MV.out.1; exact ⟨L', x.mono (by omega), y⟩⟩
        case measure => simp [intOf]; omega
      · have z1 : (kind == 1) = false := by simpa using k1
        by_cases k2 : kind = 2
        · subst k2
          have CT := hide (tick_any HC.out KB.out)
          go_wp2_with fail
          refine CT.out.mono ?_
          intro e w4 ht
          obtain ⟨a4, c4, rfl, _, cn, bn⟩ := tick_next LL.out NW.out ht
          have MV := hide (And.intro cn bn)
          clear ht cn bn
          go_wp2_with fail
          go_roundw
          case rel => exact ⟨k + 1, tickS s, by omega, by go_num, HB.out.trans MV.out.2, MV.out.1⟩
          case measure => simp [intOf]; omega
        · have z2 : (kind == 2) = false := by simpa using k2
          have CS := hide (set_any HC.out.drew KB.out name d)
          go_wp2_with fail
          go_region_held3 (fun u => u.cell? ⟨ob, off + k * 3 + 1, none⟩ = some (.string name) ∧ u.cell? ⟨ob, off + k * 3 + 2, none⟩ = some (.int .i64 d)) (first | go_keep | exact ⟨o1, o2⟩ | exact ⟨q1, q2⟩) ((first | (go_at_call 18; refine CS.out.mono ?_; rintro e w4 ⟨rfl, hmv⟩; have MV := hide (cmv_next (w := wr.drew) LL.out NW.out hmv); have q1 : w4.cell? ⟨ob, off + k * 3 + 1, none⟩ = some (.string name) := (MV.out.2.cell (p := ⟨ob, off + k * 3 + 1, none⟩) OB.out).trans o1; have q2 : w4.cell? ⟨ob, off + k * 3 + 2, none⟩ = some (.int .i64 d) := (MV.out.2.cell (p := ⟨ob, off + k * 3 + 2, none⟩) OB.out).trans o2; clear hmv)))
          go_wp2_with fail
          go_roundw
          case rel => exact ⟨k + 1, setS s name d, by omega, by go_num, HB.out.trans ((Below.refl w.heap.size wr).drew.trans MV.out.2), MV.out.1⟩
          case measure => simp [intOf]; omega
    · obtain rfl : k = len := by omega
      clear hlt hk
      go_wp2_with fail
      go_ret
      exact ⟨D, s, rfl, HB.out, HD.out⟩
end Go.Proofs.Ytoganfdpaagomaa
