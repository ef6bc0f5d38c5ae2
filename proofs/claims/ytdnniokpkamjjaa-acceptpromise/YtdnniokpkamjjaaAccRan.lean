/- The law folder's vote and ran: an acceptor that a list of calls was told to. No condition. -/
import Derived.Test.YtdnniokpkamjjaaAccOps
import Derived.Test.YtdnniokpkamjjaaAccAccept
import Derived.Test.YtdnniokpkamjjaaAccForget
namespace Go.Proofs.Ytdnniokpkamjjaa
open Go.ChangeShapes Go.WideShapes Go.ChangeAt Go.RowKit B8 Am
set_option linter.unusedVariables false

theorem vote_any (k : Int) (p : Vv) (w : World) :
    Calls Try.prog 24 #[.agg #[.int .i64 k, .int .i64 p.s, .int .i64 p.r, .int .i64 p.n, .slice p.a p.m p.cp]] w fun e w' => e = .returned (.agg #[.int .i64 p.s, .int .i64 p.r, .int .i64 p.n, .slice p.a p.m p.cp]) ∧ Below w.heap.size w w' := by
  go_enter Try.func24, Try.ntmps24
  go_wp2_with fail
  go_returns
  exact ⟨rfl, by go_grown⟩
/-- an acceptor whose blocks that may be written lie from N on -/
structure AcN (w : World) (N : Nat) (P : Nat → Prop) (A mb : Nat) (s : As) : Prop where
  ac : Ac w P A mb s
  hA : N ≤ A
  hM : N ≤ mb
theorem AcN.below {w w' : World} {N : Nat} {P : Nat → Prop} {A mb : Nat} {s : As} (h : AcN w N P A mb s) (hb : Below w.heap.size w w') : AcN w' N P A mb s := ⟨h.ac.below hb, h.hA, h.hM⟩
theorem AcN.from {w : World} {N : Nat} {P : Nat → Prop} {A mb : Nat} {s : As} (h : AcN w N P A mb s) : ∀ k, AM A mb k → N ≤ k := fun k hk => by
  rcases hk with rfl | rfl
  · exact h.hA
  · exact h.hM
theorem AcN.move {w w' : World} {N : Nat} {P : Nat → Prop} {A mb : Nat} {s s' : As} (h : AcN w N P A mb s) (hN : N ≤ w.heap.size) (hm : Mv w P A mb s' w') : AcN w' N P A mb s' ∧ Below N w w' :=
  ⟨⟨hm.2, h.hA, h.hM⟩, hm.1.below hN h.from⟩
theorem opc_cells {w : World} {b off : Nat} {kind : Int} {v : Vv} (h : w.rangeAt b off (opc ⟨kind, v⟩)) :
    w.cell? ⟨b, off, none⟩ = some (.int .i64 kind) ∧ w.cell? ⟨b, off + 1, none⟩ = some (.int .i64 v.s) ∧ w.cell? ⟨b, off + 2, none⟩ = some (.int .i64 v.r) ∧ w.cell? ⟨b, off + 3, none⟩ = some (.int .i64 v.n) ∧ w.cell? ⟨b, off + 4, none⟩ = some (.slice v.a v.m v.cp) :=
  ⟨h 0 _ rfl, h 1 _ rfl, h 2 _ rfl, h 3 _ rfl, h 4 _ rfl⟩
/-- what a call makes of an acceptor -/
def opS (s : As) (o : Opd) : As := if o.kind = 1 then prepS s o.v.r o.v.n else if o.kind = 2 then forgS s o.v.s else accS s o.v.vt
def runS (os : Nat → Opd) : Nat → As
  | 0 => newS
  | k + 1 => opS (runS os k) (os k)
set_option maxRecDepth 100000 in
set_option maxHeartbeats 1000000 in
theorem ran_any {w : World} {a : Option Addr} {len cap : Nat} {os : Nat → Opd} (h : Ops w a len os) :
    Calls Try.prog 20 #[.slice a len cap] w fun e w' => ∃ A mb s, e = .returned (.pointer (some ⟨A, 0, none⟩)) ∧ Below w.heap.size w w' ∧ AcN w' w.heap.size (fun k => w.heap.size ≤ k) A mb s := by
  have H := hide h
  have RM := h.room
  have NY := hide (new_any w)
  clear h
  go_enter Try.func20, Try.ntmps20
  go_wp2_with fail
  refine NY.out.mono ?_
  rintro e w1 ⟨rfl, hb, ha⟩
  have B1 := hide hb
  obtain ⟨A, eA⟩ : ∃ A, A = w.heap.size + 1 := ⟨_, rfl⟩
  obtain ⟨mb, em⟩ : ∃ mb, mb = w.heap.size := ⟨_, rfl⟩
  have A1 : Hid (AcN w1 w.heap.size (fun k => w.heap.size ≤ k) A mb newS) := ⟨by rw [eA, em]; exact ha _, by omega, by omega⟩
  rw [← eA]
  clear hb ha eA em
  go_wp2_with fail
  go_loopw [4] (fun i wr => ∃ (k : Nat) (s : As), k ≤ len ∧ i = .int .i64 k ∧ Hid (Below w.heap.size w wr) ∧ Hid (AcN wr w.heap.size (fun k => w.heap.size ≤ k) A mb s)) (fun i _ => len - (intOf i).toNat)
  case atStart => exact ⟨0, _, by omega, rfl, B1, A1⟩
  case round =>
    clear A1 B1
    obtain ⟨k, s, hk, rfl, HB, HA⟩ := hrel
    by_cases hlt : k < len
    · obtain ⟨ob, off, rfl, oblt, hoc⟩ := H.out.cells (by omega)
      have HO := hide (H.out.each k hlt)
      have hr := rangeAt_same (hoc k hlt) (HB.out.block ob oblt)
      generalize os k = o at *
      obtain ⟨kind, v⟩ := o
      obtain ⟨o0, o1, o2, o3, o4⟩ := opc_cells hr
      have OB := hide oblt
      clear hr hoc oblt
      have i1 : (k : Int) < (len : Int) := by omega
      have i2 : (0 : Int) ≤ (k : Int) := by omega
      have NW : Hid (w.heap.size ≤ wr.heap.size) := HB.out.size
      by_cases k1 : kind = 1
      · subst k1
        have C := hide (fun (x : World) (hx : Ac x (fun k => w.heap.size ≤ k) A mb s) => prepare_any hx v.r v.n v.s)
        go_wp2_with fail
        go_region_held3 (fun u => u.cell? ⟨ob, off + k * 5 + 1, none⟩ = some (.int .i64 v.s) ∧ u.cell? ⟨ob, off + k * 5 + 2, none⟩ = some (.int .i64 v.r) ∧ u.cell? ⟨ob, off + k * 5 + 3, none⟩ = some (.int .i64 v.n)) (first | go_keep | exact ⟨o1, o2, o3⟩ | exact ⟨d1, d2, d3⟩) ((first | (go_at_call 21; refine (C.out _ (by exact HA.out.ac.drew)).mono ?_; rintro e w4 ⟨a4, m4, c4, l4, rfl, hmv, _⟩; have M4 := hide (AcN.move (w := wr.drew) ⟨HA.out.ac.drew, HA.out.hA, HA.out.hM⟩ NW.out hmv); have d1 := (M4.out.2.cell (p := ⟨ob, off + k * 5 + 1, none⟩) OB.out).trans o1; have d2 := (M4.out.2.cell (p := ⟨ob, off + k * 5 + 2, none⟩) OB.out).trans o2; have d3 := (M4.out.2.cell (p := ⟨ob, off + k * 5 + 3, none⟩) OB.out).trans o3; clear hmv)))
        go_wp2_with fail
        go_roundw
        case rel => exact ⟨k + 1, _, by omega, by go_num, HB.out.trans ((Below.refl _ _).drew.trans M4.out.2), M4.out.1⟩
        case measure => simp [intOf]; omega
      · have z1 : (kind == 1) = false := by simpa using k1
        by_cases k2 : kind = 2
        · subst k2
          go_wp2_with fail
          refine (forget_any HA.out.ac v.s).mono ?_
          rintro e w4 ⟨rfl, hmv⟩
          have M4 := hide (HA.out.move NW.out hmv)
          clear hmv
          go_wp2_with fail
          go_roundw
          case rel => exact ⟨k + 1, _, by omega, by go_num, HB.out.trans M4.out.2, M4.out.1⟩
          case measure => simp [intOf]; omega
        · have z2 : (kind == 2) = false := by simpa using k2
          go_wp2_with fail
          refine (vote_any kind v _).mono ?_
          rintro e w3 ⟨rfl, hb3⟩
          have B3 := hide hb3
          have BW := hide (below_step HB.out hb3)
          have A3 := hide (HA.out.below hb3)
          clear hb3
          go_wp2_with fail
          refine (accept_any A3.out.ac (fun k hk => Nat.le_trans BW.out.size hk) v (HO.out.q.below BW.out)).mono ?_
          rintro e w4 ⟨rfl, hmv⟩
          have M4 := hide (A3.out.move BW.out.size hmv)
          clear hmv
          go_wp2_with fail
          go_roundw
          case rel => exact ⟨k + 1, _, by omega, by go_num, BW.out.trans M4.out.2, M4.out.1⟩
          case measure => simp [intOf]; omega
    · obtain rfl : k = len := by omega
      clear hlt hk
      go_wp2_with fail
      go_ret
      exact ⟨A, mb, s, rfl, HB.out, HA.out⟩
end Go.Proofs.Ytdnniokpkamjjaa
