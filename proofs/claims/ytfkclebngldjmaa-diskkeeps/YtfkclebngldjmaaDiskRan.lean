/- The law folder's ran: a disk on which a list of calls was carried out. No condition. -/
import Derived.Test.YtfkclebngldjmaaDiskData
namespace Go.Proofs.Ytfkclebngldjmaa
open Go.ChangeShapes Go.WideShapes Go.ChangeAt Go.RowKit B8 Dm
set_option linter.unusedVariables false

/-- a disk at D all of whose blocks lie from N on -/
def DskN (w : World) (N D : Nat) (s : Ds) : Prop := ∃ L : Nat → Prop, Dsk w D s L ∧ ∀ k, L k → N ≤ k ∧ k < w.heap.size
theorem DskN.below {w w' : World} {N D : Nat} {s : Ds} (h : DskN w N D s) (hb : Below w.heap.size w w') : DskN w' N D s := by
  obtain ⟨L, h, hl⟩ := h
  exact ⟨L, h.below hb, fun k hk => ⟨(hl k hk).1, Nat.lt_of_lt_of_le (hl k hk).2 hb.size⟩⟩
theorem mv_next {w w' : World} {N D : Nat} {s : Ds} {L : Nat → Prop} (hl : ∀ k, L k → N ≤ k ∧ k < w.heap.size) (hN : N ≤ w.heap.size) (h : Mv w D L s w') : DskN w' N D s ∧ Below N w w' :=
  ⟨⟨_, h.2.lt, fun k hk => ⟨by rcases hk.1 with h1 | h1; exact (hl k h1).1; omega, hk.2⟩⟩, h.1.below hN (fun k hk => (hl k hk).1)⟩

theorem hitS_same (s : Ds) : (hitS s).n = s.n ∧ (hitS s).ws = s.ws := by unfold hitS; split <;> exact ⟨rfl, rfl⟩
theorem writeS_same (s : Ds) (at_ : Int) (bs : List Int) : (writeS s at_ bs).n = s.n ∧ (writeS s at_ bs).ws.length ≤ s.ws.length + 1 := by
  unfold writeS
  split
  · exact ⟨rfl, by omega⟩
  · split
    · exact ⟨rfl, by omega⟩
    · rw [(hitS_same _).1, (hitS_same _).2]; exact ⟨rfl, by simp⟩
theorem syncS_same (s : Ds) : (syncS s).n = s.n ∧ (syncS s).ws.length ≤ s.ws.length := by
  unfold syncS
  split
  · exact ⟨rfl, by omega⟩
  · split
    · rw [(hitS_same _).1, (hitS_same _).2]; exact ⟨rfl, by omega⟩
    · exact ⟨(hitS_same s).1, by simp⟩
theorem armS_same (s : Ds) (n : Int) : (armS s n).n = s.n ∧ (armS s n).ws = s.ws := by unfold armS; split <;> exact ⟨rfl, rfl⟩
theorem startS_same (s : Ds) : (startS s).n = s.n ∧ (startS s).ws.length ≤ s.ws.length := by
  unfold startS
  split
  · exact ⟨rfl, by simp⟩
  · exact ⟨rfl, by omega⟩

/-- the cells of a variable stay where its block has not turned -/
theorem var5 {u u' : World} {N : Nat} {v0 v1 v2 v3 v4 : Value} (h : u.cell? ⟨N, 0, none⟩ = some v0 ∧ u.cell? ⟨N, 1, none⟩ = some v1 ∧ u.cell? ⟨N, 2, none⟩ = some v2 ∧ u.cell? ⟨N, 3, none⟩ = some v3 ∧ u.cell? ⟨N, 4, none⟩ = some v4) (e : u'.heap[N]? = u.heap[N]?) :
    u'.cell? ⟨N, 0, none⟩ = some v0 ∧ u'.cell? ⟨N, 1, none⟩ = some v1 ∧ u'.cell? ⟨N, 2, none⟩ = some v2 ∧ u'.cell? ⟨N, 3, none⟩ = some v3 ∧ u'.cell? ⟨N, 4, none⟩ = some v4 := by
  have c : ∀ o, u'.cell? ⟨N, o, none⟩ = u.cell? ⟨N, o, none⟩ := fun o => World.cell?_of_block (a := ⟨N, o, none⟩) e
  rw [c, c, c, c, c]
  exact h
theorem opc_cells {w : World} {b off : Nat} {kind at_ n fill : Int} {ka : Option Addr} {kl kc : Nat} {ks : List Int} (h : w.rangeAt b off (opc ⟨kind, at_, n, fill, ka, kl, kc, ks⟩)) :
    w.cell? ⟨b, off, none⟩ = some (.int .i64 kind) ∧ w.cell? ⟨b, off + 1, none⟩ = some (.int .i64 at_) ∧ w.cell? ⟨b, off + 2, none⟩ = some (.int .i64 n) ∧ w.cell? ⟨b, off + 3, none⟩ = some (.int .u8 fill) ∧ w.cell? ⟨b, off + 4, none⟩ = some (.slice ka kl kc) :=
  ⟨h 0 _ rfl, h 1 _ rfl, h 2 _ rfl, h 3 _ rfl, h 4 _ rfl⟩
/-- how many blocks -/
def rlen (b : Int) : Nat := 1 + ((b % 18446744073709551616) % 40).toNat
theorem rlen_wrap (b : Int) : wrap64 (1 + wrap64 ((IntKind.u64.wrap b).tmod 40)) = (rlen b : Int) ∧ 1 ≤ rlen b ∧ rlen b ≤ 40 := by
  have h1 : IntKind.u64.wrap b = b % 18446744073709551616 := by simp [IntKind.wrap, IntKind.bits, IntKind.signed]
  have h2 : 0 ≤ b % 18446744073709551616 := by omega
  rw [h1, Int.tmod_eq_emod_of_nonneg h2]
  unfold rlen wrap64
  omega

set_option maxRecDepth 100000 in
set_option maxHeartbeats 1000000 in
theorem ran_any {w : World} {a : Option Addr} {len cap : Nat} {os : Nat → Opd} (h : Ops w a len os) (b : Int) :
    Calls Try.prog 16 #[.int .i64 b, .slice a len cap] w fun e w' => ∃ D s, e = .returned (.pointer (some ⟨D, 0, none⟩)) ∧ Below w.heap.size w w' ∧ DskN w' w.heap.size D s ∧ s.n = rlen b ∧ s.ws.length ≤ len := by
  have hrb := rlen_wrap b
  have hnb := hrb.1
  have H := hide h
  have RM := h.room
  have NY := hide (new_yes (rlen b) w hrb.2.1 (by omega))
  generalize hrl : rlen b = rl at *
  have HRL := hide hrl
  clear h hrl hrb
  go_enter Try.func16, Try.ntmps16
  go_wp2_with fail
  refine NY.out.mono ?_
  rintro e w1 ⟨D, rfl, hb, hd⟩
  clear hnb
  have B1 := hide hb
  have D1 : Hid (DskN w1 w.heap.size D (newS rl)) := ⟨_, hd.lt, fun k hk => hk⟩
  clear hb hd
  go_wp2_with fail
  go_loopw [7] (fun i wr => ∃ (k : Nat) (s : Ds), k ≤ len ∧ i = .int .i64 k ∧ Hid (Below w.heap.size w wr) ∧ Hid (DskN wr w.heap.size D s) ∧ Hid (s.n = rl) ∧ Hid (s.ws.length ≤ k)) (fun i _ => len - (intOf i).toNat)
  case atStart => exact ⟨0, _, by omega, rfl, B1, D1, rfl, Nat.zero_le _⟩
  case round =>
    clear D1 B1
    obtain ⟨k, s, hk, rfl, HB, HD, HN, HL⟩ := hrel
    by_cases hlt : k < len
    · obtain ⟨ob, off, rfl, oblt, hoc⟩ := H.out.cells (by omega)
      have OK := H.out.each k hlt
      have hr := rangeAt_same (hoc k hlt) (HB.out.block ob oblt)
      generalize os k = o at *
      obtain ⟨kind, at_, n, fill, ka, kl, kc, ks⟩ := o
      have HO := hide OK
      have hn0 := OK.n0
      have hn1 := OK.n1
      dsimp only at hn0 hn1
      obtain ⟨o0, o1, o2, o3, o4⟩ := opc_cells hr
      clear OK hr hoc
      have i1 : (k : Int) < (len : Int) := by omega
      have i2 : (0 : Int) ≤ (k : Int) := by omega
      obtain ⟨L, hdk, hL⟩ := HD.out
      have LL := hide hL
      have NW : Hid (w.heap.size ≤ wr.heap.size) := HB.out.size
      obtain ⟨w3, e3⟩ : ∃ w3, w3 = wr.alloc (.cells #[.int .i64 kind, .int .i64 at_, .int .i64 n, .int .u8 fill, .slice ka kl kc] 34) := ⟨_, rfl⟩
      have B3 : Hid (Below wr.heap.size wr w3) := by rw [e3]; exact below_alloc (Below.refl _ _) _
      have S3 : Hid (w3.heap.size = wr.heap.size + 1) := by rw [e3]; simp [Hid]
      have Y : Hid (w3.cell? ⟨wr.heap.size, 0, none⟩ = some (.int .i64 kind) ∧ w3.cell? ⟨wr.heap.size, 1, none⟩ = some (.int .i64 at_) ∧ w3.cell? ⟨wr.heap.size, 2, none⟩ = some (.int .i64 n) ∧ w3.cell? ⟨wr.heap.size, 3, none⟩ = some (.int .u8 fill) ∧ w3.cell? ⟨wr.heap.size, 4, none⟩ = some (.slice ka kl kc)) := by rw [e3]; simp [Hid]
      have D3 := hide (hdk.below B3.out)
      have L3 : Hid (∀ j, L j → w.heap.size ≤ j ∧ j < w3.heap.size) := fun j hj => ⟨(hL j hj).1, by have := (hL j hj).2; have := S3.out; omega⟩
      have BW3 : Hid (Below w.heap.size w w3) := HB.out.trans (B3.out.mono NW.out)
      have N3 : Hid (w.heap.size ≤ w3.heap.size) := BW3.out.size
      have WL : Hid (s.ws.length < 3000000000000) := by show _ < _; have := HL.out; omega
      have Q3 : Hid (I8.Sq w3 ka kl kc ks) := HO.out.q.below BW3.out
      have QL : Hid (0 < kl → ∀ b off, ka = some ⟨b, off, none⟩ → ¬ L b) := fun h0 b off e hb => by have h5 : b < w.heap.size := HO.out.lt h0 b off e; have h6 := (hL b hb).1; omega
      have QK : Hid (kl ≤ 140737488355328) := by show _ ≤ _; have h5 : kc * 8 ≤ 140737488351232 := HO.out.room; have h6 : kl ≤ kc := HO.out.q.lecap; omega
      clear hdk hL
      obtain ⟨y0, y1, y2, y3, y4⟩ := Y.out
      by_cases k1 : kind = 1
      · subst k1
        go_wp2_with fail
        rw [← e3]
        clear e3
        go_wp2_with fail
        by_cases hre : reachE s at_ = 0
        · obtain ⟨_, q, rfl, hq⟩ := reach_at hre
          refine (read_yes D3.out q hre hq).mono ?_
          rintro e w4 ⟨rfl, hb4, _⟩
          have DN : Hid (DskN w4 w.heap.size D s) := DskN.below ⟨L, D3.out, L3.out⟩ hb4
          have BN : Hid (Below w.heap.size w w4) := BW3.out.trans (hb4.mono N3.out)
          clear hb4
          go_wp2_with fail
          go_roundw
          case rel => exact ⟨k + 1, s, by omega, by go_num, BN, DN, HN, Nat.le_succ_of_le HL.out⟩
          case measure => simp [intOf]; omega
        · refine (read_no D3.out at_ hre).mono ?_
          rintro e w4 ⟨rfl, rfl⟩
          go_wp2_with fail
          go_roundw
          case rel => exact ⟨k + 1, s, by omega, by go_num, BW3, ⟨L, D3.out, L3.out⟩, HN, Nat.le_succ_of_le HL.out⟩
          case measure => simp [intOf]; omega
      · have z1 : (kind == 1) = false := by simpa using k1
        by_cases k2 : kind = 2
        · subst k2
          go_wp2_with fail
          rw [← e3]
          clear e3
          go_wp2_with fail
          refine (sync_any D3.out (Nat.lt_trans WL.out (by omega))).mono ?_
          rintro e w4 ⟨rfl, hmv⟩
          have MV := hide (mv_next L3.out N3.out hmv)
          clear hmv
          go_wp2_with fail
          go_roundw
          case rel => exact ⟨k + 1, syncS s, by omega, by go_num, BW3.out.trans MV.out.2, MV.out.1, (syncS_same s).1.trans HN.out, Nat.le_succ_of_le (Nat.le_trans (syncS_same s).2 HL.out)⟩
          case measure => simp [intOf]; omega
        · have z2 : (kind == 2) = false := by simpa using k2
          by_cases k3 : kind = 3
          · subst k3
            go_wp2_with fail
            rw [← e3]
            clear e3
            go_wp2_with fail
            refine (arm_any D3.out n hn0 hn1).mono ?_
            rintro e w4 ⟨rfl, hmv⟩
            have MV := hide (mv_next L3.out N3.out hmv)
            clear hmv
            go_wp2_with fail
            go_roundw
            case rel => exact ⟨k + 1, armS s n, by omega, by go_num, BW3.out.trans MV.out.2, MV.out.1, (armS_same s n).1.trans HN.out, by show _ ≤ _; rw [(armS_same s n).2]; exact Nat.le_succ_of_le HL.out⟩
            case measure => simp [intOf]; omega
          · have z3 : (kind == 3) = false := by simpa using k3
            by_cases k4 : kind = 4
            · subst k4
              go_wp2_with fail
              rw [← e3]
              clear e3
              go_wp2_with fail
              refine (crash_any D3.out (Nat.lt_trans WL.out (by omega)) Q3.out QL.out QK.out).mono ?_
              rintro e w4 ⟨rfl, hmv⟩
              have MV := hide (mv_next L3.out N3.out hmv)
              clear hmv
              go_wp2_with fail
              go_roundw
              case rel => exact ⟨k + 1, crashS s ks, by omega, by go_num, BW3.out.trans MV.out.2, MV.out.1, HN.out, Nat.zero_le _⟩
              case measure => simp [intOf]; omega
            · have z4 : (kind == 4) = false := by simpa using k4
              by_cases k5 : kind = 5
              · subst k5
                go_wp2_with fail
                rw [← e3]
                clear e3
                go_wp2_with fail
                refine (start_any D3.out (Nat.lt_trans WL.out (by omega))).mono ?_
                rintro e w4 ⟨rfl, hmv⟩
                have MV := hide (mv_next L3.out N3.out hmv)
                clear hmv
                go_wp2_with fail
                go_roundw
                case rel => exact ⟨k + 1, startS s, by omega, by go_num, BW3.out.trans MV.out.2, MV.out.1, (startS_same s).1.trans HN.out, Nat.le_succ_of_le (Nat.le_trans (startS_same s).2 HL.out)⟩
                case measure => simp [intOf]; omega
              · have z5 : (kind == 5) = false := by simpa using k5
                go_wp2_with fail
                rw [← e3]
                clear e3
                have NL : Hid (¬ L wr.heap.size) := fun h5 => by have := (LL.out _ h5).2; omega
                have LN : Hid (wr.heap.size < w3.heap.size) := by show _ < _; rw [S3.out]; omega
                go_wp2_with fail
                go_region_held3 (fun u => u.cell? ⟨wr.heap.size, 0, none⟩ = some (.int .i64 kind) ∧ u.cell? ⟨wr.heap.size, 1, none⟩ = some (.int .i64 at_) ∧ u.cell? ⟨wr.heap.size, 2, none⟩ = some (.int .i64 n) ∧ u.cell? ⟨wr.heap.size, 3, none⟩ = some (.int .u8 fill) ∧ u.cell? ⟨wr.heap.size, 4, none⟩ = some (.slice ka kl kc))
                  (first | exact Y.out | exact var5 Y.out E4.out | exact var5 (var5 Y.out E4.out) E5.out)
                  (first
                    | (go_at_call 21; refine (data_any ⟨kind, at_, n, fill, ka, kl, kc, ks⟩ hn0 hn1 _).mono ?_; rintro e w4 ⟨g, ln, cp, rfl, hb4, q4, lo4, hi4⟩; have B4 : Hid (Below w3.heap.size w3 w4) := ⟨hb4.os, hb4.tape, hb4.output, hb4.size, hb4.block⟩; have Q4 := hide q4; have D4 := hide (D3.out.below B4.out); have E4 : Hid (w4.heap[wr.heap.size]? = w3.heap[wr.heap.size]?) := B4.out.block _ LN.out; clear hb4 q4)
                    | (go_at_call 22; refine (write_any D4.out at_ Q4.out WL.out).mono ?_; rintro e w5 ⟨rfl, hmv⟩; have MV := hide hmv; have E5 : Hid (w5.heap[wr.heap.size]? = w4.heap[wr.heap.size]?) := hmv.1.block _ (Nat.lt_of_lt_of_le LN.out B4.out.size) NL.out; clear hmv))
                have BW4 : Hid (Below w.heap.size w w4) := BW3.out.trans (B4.out.mono N3.out)
                have MN := hide (mv_next (N := w.heap.size) (fun j hj => ⟨(L3.out j hj).1, Nat.lt_of_lt_of_le (L3.out j hj).2 B4.out.size⟩) BW4.out.size MV.out)
                clear MV
                go_wp2_with fail
                go_roundw
                case rel => exact ⟨k + 1, _, by omega, by go_num, BW4.out.trans MN.out.2, MN.out.1, (writeS_same _ _ _).1.trans HN.out, Nat.le_trans (writeS_same _ _ _).2 (Nat.succ_le_succ HL.out)⟩
                case measure => simp [intOf]; omega
    · obtain rfl : k = len := by omega
      go_wp2_with fail
      go_ret
      exact ⟨D, s, rfl, HB.out, HD.out, HN.out, HL.out⟩
end Go.Proofs.Ytfkclebngldjmaa
