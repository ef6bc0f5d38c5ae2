/- The law folder's awake and ran: a net on which a list of calls was carried out. No condition. -/
import Derived.Test.YtjbonklgklldmaaNetOps
import Derived.Test.YtjbonklgklldmaaNetSend
import Derived.Test.YtjbonklgklldmaaNetDeliver
namespace Go.Proofs.Ytjbonklgklldmaa
open Go.ChangeShapes Go.WideShapes Go.ChangeAt Go.RowKit B8 Nm
set_option linter.unusedVariables false

/-- a net at p whose blocks that may be written lie from N0 on -/
def NtN (w : World) (N0 p kk : Nat) (s : Ns) : Prop := ∃ L, Nt w L kk s ∧ L.N = p ∧ ∀ k, L.M k → N0 ≤ k
theorem NtN.below {w w' : World} {N0 p kk : Nat} {s : Ns} (h : NtN w N0 p kk s) (hb : Below w.heap.size w w') : NtN w' N0 p kk s := by
  obtain ⟨L, h, h1, h2⟩ := h
  exact ⟨L, h.below hb, h1, h2⟩
theorem mv_next {w w' : World} {N0 p kk k2 : Nat} {s : Ns} {L : Lay} (hp : L.N = p) (hl : ∀ k, L.M k → N0 ≤ k) (hN : N0 ≤ w.heap.size) (h : Mv w L kk s w') (hk : kk ≤ k2) : NtN w' N0 p k2 s ∧ Below N0 w w' := by
  obtain ⟨hc, L', h1, h2, h3, h4⟩ := h
  exact ⟨⟨L', h1.mono hk, h2.trans hp, fun k hk => by rcases h3 k hk with h | h; exact hl k h; omega⟩, hc.below hN (fun k hk => hl k hk)⟩

theorem awake_any (w : World) :
    Calls Try.prog 5 #[] w fun e w' => e = .returned (.bool true) ∧ Below w.heap.size w w' := by
  have N := hide (new_yes 2 (by omega) (by omega) w)
  go_enter Try.func5, Try.ntmps5
  go_wp2_with fail
  refine N.out.mono ?_
  rintro e w1 ⟨L, rfl, hb1, hd1, hl1⟩
  have B1 := hide hb1
  have D1 := hide hd1
  have L1 := hide hl1
  clear hb1 hd1 hl1
  go_wp2_with fail
  have B2 : Hid (Below w.heap.size w (w1.alloc (.cells #[.int .u8 5] 5))) := below_alloc B1.out _
  have D2 := hide (D1.out.below (below_alloc (Below.refl _ _) (.cells #[.int .u8 5] 5)))
  have Q2 : Hid (Sq (w1.alloc (.cells #[.int .u8 5] 5)) (some ⟨w1.heap.size, 0, none⟩) 1 1 [5]) := ⟨rfl, by omega, (fun e => by cases e), fun _ => ⟨w1.heap.size, 0, rfl, fun j hj => by
    obtain rfl : j = 0 := by omega
    simp⟩, wfs_cons (by decide) wfs_nil⟩
  refine (send_any D2.out 1 2 Q2.out).mono ?_
  rintro e w3 ⟨rfl, hm3⟩
  obtain ⟨hc3, L3, hn3, he3, _, _⟩ := hm3
  have e1 : Hid (sendE (newS 2) 1 2 [5] = 0) := by show _ = _; rfl
  have e2 : Hid ((sendS (newS 2) 1 2 [5]).ps.length = 1) := by show _ = _; rfl
  rw [e1.out]
  have N3 := hide hn3
  have B3 : Hid (Below w.heap.size w w3) := B2.out.trans (hc3.below B2.out.size (fun k hk => L1.out k hk))
  have C := hide (len_net N3.out)
  rw [he3, e2.out] at C
  clear hc3 hn3 he3
  go_wp2_with fail
  refine C.out.mono ?_
  rintro e w4 ⟨rfl, rfl⟩
  go_wp2_with fail
  go_ret
  exact ⟨rfl, B3.out⟩

theorem var4 {u u' : World} {N : Nat} {v0 v1 v2 v3 : Value} (h : u.cell? ⟨N, 0, none⟩ = some v0 ∧ u.cell? ⟨N, 1, none⟩ = some v1 ∧ u.cell? ⟨N, 2, none⟩ = some v2 ∧ u.cell? ⟨N, 3, none⟩ = some v3) (e : u'.heap[N]? = u.heap[N]?) :
    u'.cell? ⟨N, 0, none⟩ = some v0 ∧ u'.cell? ⟨N, 1, none⟩ = some v1 ∧ u'.cell? ⟨N, 2, none⟩ = some v2 ∧ u'.cell? ⟨N, 3, none⟩ = some v3 := by
  have c : ∀ o, u'.cell? ⟨N, o, none⟩ = u.cell? ⟨N, o, none⟩ := fun o => World.cell?_of_block (a := ⟨N, o, none⟩) e
  rw [c, c, c, c]
  exact h
theorem opc_cells {w : World} {b off : Nat} {kind x y : Int} {ka : Option Addr} {kl kc : Nat} {ks : List Int} (h : w.rangeAt b off (opc ⟨kind, x, y, ka, kl, kc, ks⟩)) :
    w.cell? ⟨b, off, none⟩ = some (.int .i64 kind) ∧ w.cell? ⟨b, off + 1, none⟩ = some (.int .i64 x) ∧ w.cell? ⟨b, off + 2, none⟩ = some (.int .i64 y) ∧ w.cell? ⟨b, off + 3, none⟩ = some (.slice ka kl kc) :=
  ⟨h 0 _ rfl, h 1 _ rfl, h 2 _ rfl, h 3 _ rfl⟩
/-- how many nodes -/
def rlen (b : Int) : Nat := 1 + ((b % 18446744073709551616) % 5).toNat
theorem rlen_wrap (b : Int) : wrap64 (1 + wrap64 ((IntKind.u64.wrap b).tmod 5)) = (rlen b : Int) ∧ 1 ≤ rlen b ∧ rlen b ≤ 5 := by
  have h1 : IntKind.u64.wrap b = b % 18446744073709551616 := by simp [IntKind.wrap, IntKind.bits, IntKind.signed]
  have h2 : 0 ≤ b % 18446744073709551616 := by omega
  rw [h1, Int.tmod_eq_emod_of_nonneg h2]
  unfold rlen wrap64
  omega
theorem takeS_n (s : Ns) (i : Int) : (takeS s i).n = s.n := by unfold takeS; split <;> rfl
theorem dblS_n (s : Ns) (i : Int) : (dblS s i).n = s.n := by unfold dblS; split <;> rfl
theorem cutS_n (s : Ns) (a b : Int) : (cutS s a b).n = s.n := by unfold cutS; split <;> rfl
theorem sendS_n (s : Ns) (f t : Int) (b : List Int) : (sendS s f t b).n = s.n := by
  unfold sendS
  split
  · rfl
  · split
    · rfl
    · split <;> rfl

set_option maxRecDepth 100000 in
set_option maxHeartbeats 1000000 in
theorem ran_any {w : World} {a : Option Addr} {len cap : Nat} {os : Nat → Opd} (h : Ops w a len os) (b : Int) :
    Calls Try.prog 4 #[.int .i64 b, .slice a len cap] w fun e w' => ∃ D s, e = .returned (.pointer (some ⟨D, 0, none⟩)) ∧ Below w.heap.size w w' ∧ NtN w' w.heap.size D len s ∧ s.n = rlen b := by
  have hrb := rlen_wrap b
  have hnb := hrb.1
  have H := hide h
  have RM := h.room
  have NY := hide (new_yes (rlen b) hrb.2.1 hrb.2.2 w)
  generalize hrl : rlen b = rl at *
  have HRL := hide hrl
  clear h hrl hrb
  go_enter Try.func4, Try.ntmps4
  go_wp2_with fail
  refine NY.out.mono ?_
  rintro e w1 ⟨L0, rfl, hb, hd, hl⟩
  clear hnb
  have B1 := hide hb
  have D1 : Hid (NtN w1 w.heap.size L0.N 0 (newS rl)) := ⟨L0, hd, rfl, hl⟩
  generalize L0.N = D at D1 ⊢
  clear hb hd hl
  go_wp2_with fail
  go_loopw [7] (fun i wr => ∃ (k : Nat) (s : Ns), k ≤ len ∧ i = .int .i64 k ∧ Hid (Below w.heap.size w wr) ∧ Hid (NtN wr w.heap.size D k s) ∧ Hid (s.n = rl)) (fun i _ => len - (intOf i).toNat)
  case atStart => exact ⟨0, _, by omega, rfl, B1, D1, rfl⟩
  case round =>
    clear D1 B1
    obtain ⟨k, s, hk, rfl, HB, HD, HN⟩ := hrel
    by_cases hlt : k < len
    · obtain ⟨ob, off, rfl, oblt, hoc⟩ := H.out.cells (by omega)
      have OK := H.out.each k hlt
      have hr := rangeAt_same (hoc k hlt) (HB.out.block ob oblt)
      generalize os k = o at *
      obtain ⟨kind, x, y, ka, kl, kc, ks⟩ := o
      have HO := hide OK
      obtain ⟨o0, o1, o2, o3⟩ := opc_cells hr
      clear OK hr hoc
      have i1 : (k : Int) < (len : Int) := by omega
      have i2 : (0 : Int) ≤ (k : Int) := by omega
      obtain ⟨L, hdk, hp, hL⟩ := HD.out
      have HP := hide hp
      have LL := hide hL
      have NW : Hid (w.heap.size ≤ wr.heap.size) := HB.out.size
      obtain ⟨w3, e3⟩ : ∃ w3, w3 = wr.alloc (.cells #[.int .i64 kind, .int .i64 x, .int .i64 y, .slice ka kl kc] 39) := ⟨_, rfl⟩
      have B3 : Hid (Below wr.heap.size wr w3) := by rw [e3]; exact below_alloc (Below.refl _ _) _
      have Y : Hid (w3.cell? ⟨wr.heap.size, 0, none⟩ = some (.int .i64 kind) ∧ w3.cell? ⟨wr.heap.size, 1, none⟩ = some (.int .i64 x) ∧ w3.cell? ⟨wr.heap.size, 2, none⟩ = some (.int .i64 y) ∧ w3.cell? ⟨wr.heap.size, 3, none⟩ = some (.slice ka kl kc)) := by rw [e3]; simp [Hid]
      have D3 := hide (hdk.below B3.out)
      have BW3 : Hid (Below w.heap.size w w3) := HB.out.trans (B3.out.mono NW.out)
      have N3 : Hid (w.heap.size ≤ w3.heap.size) := BW3.out.size
      have Q3 : Hid (Sq w3 ka kl kc ks) := HO.out.q.below BW3.out
      have KM : Hid (k < maxLen) := by show _ < _; unfold maxLen; omega
      clear hdk hL hp
      obtain ⟨y0, y1, y2, y3⟩ := Y.out
      rw [← HP.out]
      by_cases k1 : kind = 1
      · subst k1
        go_wp2_with fail
        rw [← e3]
        clear e3
        go_wp2_with fail
        refine (deliver_any D3.out x).mono ?_
        rintro e w4 ⟨p, rfl, _, hmv⟩
        have MV := hide (mv_next rfl LL.out N3.out hmv.mv (Nat.le_succ _))
        clear hmv
        go_wp2_with fail
        go_roundw
        case rel => exact ⟨k + 1, takeS s x, by omega, by go_num, BW3.out.trans MV.out.2, MV.out.1, (takeS_n s x).trans HN.out⟩
        case measure => simp [intOf]; omega
      · have z1 : (kind == 1) = false := by simpa using k1
        by_cases k2 : kind = 2
        · subst k2
          go_wp2_with fail
          rw [← e3]
          clear e3
          go_wp2_with fail
          refine (drop_any D3.out x).mono ?_
          rintro e w4 ⟨rfl, hmv⟩
          have MV := hide (mv_next rfl LL.out N3.out hmv.mv (Nat.le_succ _))
          clear hmv
          go_wp2_with fail
          go_roundw
          case rel => exact ⟨k + 1, takeS s x, by omega, by go_num, BW3.out.trans MV.out.2, MV.out.1, (takeS_n s x).trans HN.out⟩
          case measure => simp [intOf]; omega
        · have z2 : (kind == 2) = false := by simpa using k2
          by_cases k3 : kind = 3
          · subst k3
            go_wp2_with fail
            rw [← e3]
            clear e3
            go_wp2_with fail
            refine (double_any D3.out x).mono ?_
            rintro e w4 ⟨rfl, hmv⟩
            have MV := hide (mv_next rfl LL.out N3.out hmv (Nat.le_succ _))
            clear hmv
            go_wp2_with fail
            go_roundw
            case rel => exact ⟨k + 1, dblS s x, by omega, by go_num, BW3.out.trans MV.out.2, MV.out.1, (dblS_n s x).trans HN.out⟩
            case measure => simp [intOf]; omega
          · have z3 : (kind == 3) = false := by simpa using k3
            by_cases k4 : kind = 4
            · subst k4
              go_wp2_with fail
              rw [← e3]
              clear e3
              go_wp2_with fail
              refine (cut_any D3.out KM.out x y).mono ?_
              rintro e w4 ⟨rfl, hmv⟩
              have MV := hide (mv_next rfl LL.out N3.out hmv (Nat.le_refl _))
              clear hmv
              go_wp2_with fail
              go_roundw
              case rel => exact ⟨k + 1, cutS s x y, by omega, by go_num, BW3.out.trans MV.out.2, MV.out.1, (cutS_n s x y).trans HN.out⟩
              case measure => simp [intOf]; omega
            · have z4 : (kind == 4) = false := by simpa using k4
              by_cases k5 : kind = 5
              · subst k5
                go_wp2_with fail
                rw [← e3]
                clear e3
                go_wp2_with fail
                refine (heal_any D3.out).mono ?_
                rintro e w4 ⟨rfl, hmv⟩
                have MV := hide (mv_next rfl LL.out N3.out hmv (Nat.le_succ _))
                clear hmv
                go_wp2_with fail
                go_roundw
                case rel => exact ⟨k + 1, healS s, by omega, by go_num, BW3.out.trans MV.out.2, MV.out.1, HN.out⟩
                case measure => simp [intOf]; omega
              · have z5 : (kind == 5) = false := by simpa using k5
                go_wp2_with fail
                rw [← e3]
                clear e3
                go_wp2_with fail
                refine (send_any D3.out x y Q3.out).mono ?_
                rintro e w4 ⟨rfl, hmv⟩
                have MV := hide (mv_next rfl LL.out N3.out hmv (Nat.le_succ _))
                clear hmv
                go_wp2_with fail
                go_roundw
                case rel => exact ⟨k + 1, sendS s x y ks, by omega, by go_num, BW3.out.trans MV.out.2, MV.out.1, (sendS_n s x y ks).trans HN.out⟩
                case measure => simp [intOf]; omega
    · obtain rfl : k = len := by omega
      clear hlt hk
      go_wp2_with fail
      go_ret
      exact ⟨D, s, rfl, HB.out, HD.out, HN.out⟩
end Go.Proofs.Ytjbonklgklldmaa
