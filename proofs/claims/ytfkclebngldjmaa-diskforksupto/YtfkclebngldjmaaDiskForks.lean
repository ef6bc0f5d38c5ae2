/- DiskForks, second form: a fork is alike, and neither shows what is done to the other: for every two lists of calls of bounded bulk. Condition: the bound on the bulk. -/
import Derived.Test.YtfkclebngldjmaaDiskForked
import Derived.Test.YtfkclebngldjmaaDiskAll
import Derived.Test.YtfkclebngldjmaaDiskAwake
import Derived.Test.YtfkclebngldjmaaDiskBulk
namespace Go.Proofs.Ytfkclebngldjmaa
namespace DiskForks
open Go.ChangeShapes Go.WideShapes Go.ChangeAt Go.RowKit B8 Dm
set_option linter.unusedVariables false

/-- three disks with no block in common, all from N on -/
structure TriW (w : World) (N D G F : Nat) (s sf : Ds) (Ld Lg Lf : Nat → Prop) : Prop where
  d : Dsk w D s Ld
  g : Dsk w G s Lg
  f : Dsk w F sf Lf
  ld : ∀ k, Ld k → N ≤ k ∧ k < w.heap.size
  lg : ∀ k, Lg k → N ≤ k ∧ k < w.heap.size
  lf : ∀ k, Lf k → N ≤ k ∧ k < w.heap.size
  fd : ∀ k, Lf k → ¬ Ld k
  fg : ∀ k, Lf k → ¬ Lg k
  gd : ∀ k, Lg k → ¬ Ld k
section
variable {w w' : World} {N D G F : Nat} {s sf sf' : Ds} {Ld Lg Lf : Nat → Prop}
theorem TriW.below (h : TriW w N D G F s sf Ld Lg Lf) (hb : Below w.heap.size w w') : TriW w' N D G F s sf Ld Lg Lf :=
  ⟨h.d.below hb, h.g.below hb, h.f.below hb, fun k hk => ⟨(h.ld k hk).1, Nat.lt_of_lt_of_le (h.ld k hk).2 hb.size⟩, fun k hk => ⟨(h.lg k hk).1, Nat.lt_of_lt_of_le (h.lg k hk).2 hb.size⟩, fun k hk => ⟨(h.lf k hk).1, Nat.lt_of_lt_of_le (h.lf k hk).2 hb.size⟩, h.fd, h.fg, h.gd⟩
/-- a call on the fork -/
theorem TriW.next (h : TriW w N D G F s sf Ld Lg Lf) (hN : N ≤ w.heap.size) (hm : Mv w F Lf sf' w') : TriW w' N D G F s sf' Ld Lg (fun k => (Lf k ∨ w.heap.size ≤ k) ∧ k < w'.heap.size) ∧ Below N w w' :=
  ⟨⟨h.d.far hm.1 (fun k hk hf => h.fd k hf hk), h.g.far hm.1 (fun k hk hf => h.fg k hf hk), hm.2.lt, fun k hk => ⟨(h.ld k hk).1, Nat.lt_of_lt_of_le (h.ld k hk).2 hm.1.size⟩, fun k hk => ⟨(h.lg k hk).1, Nat.lt_of_lt_of_le (h.lg k hk).2 hm.1.size⟩,
    fun k hk => ⟨by rcases hk.1 with h1 | h1; exact (h.lf k h1).1; omega, hk.2⟩, fun k hk hd => by rcases hk.1 with h1 | h1; exact h.fd k h1 hd; have := (h.ld k hd).2; omega, fun k hk hd => by rcases hk.1 with h1 | h1; exact h.fg k h1 hd; have := (h.lg k hd).2; omega, h.gd⟩, hm.1.below hN (fun k hk => (h.lf k hk).1)⟩
end
def Tri (w : World) (N D G F : Nat) (s sf : Ds) : Prop := ∃ Ld Lg Lf : Nat → Prop, TriW w N D G F s sf Ld Lg Lf

theorem startS_up (s : Ds) : (startS s).down = false := by
  unfold startS
  cases hd : s.down with
  | true => rfl
  | false => exact hd
/-- the cells of a call stay where their block has not turned -/
theorem var5o {u u' : World} {b o : Nat} {v0 v1 v2 v3 v4 : Value} (h : u.cell? ⟨b, o, none⟩ = some v0 ∧ u.cell? ⟨b, o + 1, none⟩ = some v1 ∧ u.cell? ⟨b, o + 2, none⟩ = some v2 ∧ u.cell? ⟨b, o + 3, none⟩ = some v3 ∧ u.cell? ⟨b, o + 4, none⟩ = some v4) (e : u'.heap[b]? = u.heap[b]?) :
    u'.cell? ⟨b, o, none⟩ = some v0 ∧ u'.cell? ⟨b, o + 1, none⟩ = some v1 ∧ u'.cell? ⟨b, o + 2, none⟩ = some v2 ∧ u'.cell? ⟨b, o + 3, none⟩ = some v3 ∧ u'.cell? ⟨b, o + 4, none⟩ = some v4 := by
  have c : ∀ o, u'.cell? ⟨b, o, none⟩ = u.cell? ⟨b, o, none⟩ := fun o => World.cell?_of_block (a := ⟨b, o, none⟩) e
  rw [c, c, c, c, c]
  exact h

set_option maxRecDepth 100000 in
set_option maxHeartbeats 4000000 in
theorem walk {w : World} {a : Option Addr} {len cap : Nat} {os : Nat → Opd} (h : Ops w a len os) (h1 : len ≤ 1048576) {ma : Option Addr} {ml mc : Nat} {ms : Nat → Opd} (hm : Ops w ma ml ms) (h2 : ml ≤ 1048576) (b : Int) :
    Calls Try.prog 6 #[.int .i64 b, .slice a len cap, .slice ma ml mc] w fun e w' => e = .returned (.bool true) ∧ Below w.heap.size w w' := by
  have R := hide (ran_any (cap := cap) h b)
  have H := hide hm
  clear h hm
  go_enter Try.func6, Try.ntmps6
  go_wp2_with fail
  refine R.out.mono ?_
  rintro e w1 ⟨D, s, rfl, hb1, hd1, hn1, hl1⟩
  have B1 := hide hb1
  have D1 := hide hd1
  have L1 := hide hl1
  clear hb1 hd1 hn1 hl1 R
  go_wp2_with fail
  refine (awake_any _).mono ?_
  rintro e w2 ⟨rfl, hb2⟩
  have B2 : Hid (Below w.heap.size w w2) := B1.out.trans (hb2.mono B1.out.size)
  have D2 := hide (D1.out.below hb2)
  clear hb2 B1 D1
  go_wp2_with fail
  obtain ⟨Ld, hd, hL⟩ := D2.out
  refine (fork_any hd (by have := L1.out; omega)).mono ?_
  rintro e w3 ⟨F, rfl, hb3, hf3⟩
  have B3 : Hid (Below w.heap.size w w3) := B2.out.trans (hb3.mono B2.out.size)
  have D3 := hide (hd.below hb3)
  have LD : Hid (∀ k, Ld k → w.heap.size ≤ k ∧ k < w2.heap.size) := hL
  have F3 := hide hf3.lt
  have Z3 : Hid (w.heap.size ≤ w2.heap.size ∧ w2.heap.size ≤ w3.heap.size) := ⟨B2.out.size, hb3.size⟩
  clear hd hL hb3 hf3 B2 D2
  go_wp2_with fail
  refine (fork_any D3.out (by have := L1.out; omega)).mono ?_
  rintro e w4 ⟨G, rfl, hb4, hg4⟩
  have B4 : Hid (Below w.heap.size w w4) := B3.out.trans (hb4.mono B3.out.size)
  have T4 : Hid (TriW w4 w.heap.size D G F s s Ld (fun k => w3.heap.size ≤ k ∧ k < w4.heap.size) (fun k => w2.heap.size ≤ k ∧ k < w3.heap.size)) :=
    ⟨D3.out.below hb4, hg4.lt, F3.out.below hb4, fun k hk => ⟨(LD.out k hk).1, by have := (LD.out k hk).2; have := Z3.out; have := hb4.size; omega⟩, fun k hk => ⟨by have := Z3.out; omega, hk.2⟩, fun k hk => ⟨by have := Z3.out; omega, by have := hb4.size; omega⟩,
      fun k hk hd => by have := (LD.out k hd).2; omega, fun k hk hg => by omega, fun k hk hd => by have := (LD.out k hd).2; have := Z3.out; omega⟩
  clear hb4 hg4 B3 D3 LD F3 Z3
  go_wp2_with fail
  refine (down_any T4.out.f).mono ?_
  rintro e w5 ⟨rfl, rfl⟩
  go_wp2_with fail
  refine (down_any T4.out.d).mono ?_
  rintro e w6 ⟨rfl, rfl⟩
  go_wp2_with fail
  refine (waiting_any T4.out.f).mono ?_
  rintro e w7 ⟨rfl, rfl⟩
  go_wp2_with fail
  refine (waiting_any T4.out.d).mono ?_
  rintro e w8 ⟨rfl, rfl⟩
  go_wp2_with fail
  refine (size_any T4.out.f).mono ?_
  rintro e w9 ⟨rfl, rfl⟩
  go_wp2_with fail
  refine (size_any T4.out.d).mono ?_
  rintro e w10 ⟨rfl, rfl⟩
  go_wp2_with fail
  have T5 : Hid (Tri w10 w.heap.size D G F s s) := ⟨_, _, _, T4.out⟩
  clear T4
  go_loopw [10] (fun i wr => ∃ (k : Nat) (sf : Ds), k ≤ ml ∧ i = .int .i64 k ∧ Hid (Below w.heap.size w wr) ∧ Hid (Tri wr w.heap.size D G F s sf) ∧ Hid (sf.ws.length ≤ len + k)) (fun i _ => ml - (intOf i).toNat)
  case atStart => exact ⟨0, s, by omega, rfl, B4, T5, L1.out⟩
  case round =>
    clear B4 T5
    obtain ⟨k, sf, hk, rfl, HB, HT, HL⟩ := hrel
    obtain ⟨Ld, Lg, Lf, ht⟩ := HT.out
    have TW := hide ht
    clear ht HT
    by_cases hlt : k < ml
    · obtain ⟨ob, off, rfl, oblt, hoc⟩ := H.out.cells (by omega)
      have OK := H.out.each k hlt
      have hr := rangeAt_same (hoc k hlt) (HB.out.block ob oblt)
      generalize ms k = o at *
      obtain ⟨kind, at_, n, fill, ka, kl, kc, ks⟩ := o
      have HO := hide OK
      have hn0 := OK.n0
      have hn1 := OK.n1
      dsimp only at hn0 hn1
      have Y := hide (opc_cells hr)
      obtain ⟨o0, o1, o2, o3, o4⟩ := opc_cells hr
      clear OK hr hoc
      have i1 : (k : Int) < (ml : Int) := by omega
      have i2 : (0 : Int) ≤ (k : Int) := by omega
      have NW : Hid (w.heap.size ≤ wr.heap.size) := HB.out.size
      have WL : Hid (sf.ws.length < 3000000000000) := by show _ < _; have := HL.out; omega
      have OB : Hid (ob < w.heap.size) := oblt
      clear oblt
      by_cases k2 : kind = 2
      · subst k2
        go_wp2_with fail
        refine (sync_any TW.out.f (Nat.lt_trans WL.out (by omega))).mono ?_
        rintro e w4 ⟨rfl, hmv⟩
        have MV := hide (TW.out.next NW.out hmv)
        clear hmv
        go_wp2_with fail
        go_roundw
        case rel => exact ⟨k + 1, syncS sf, by omega, by go_num, HB.out.trans MV.out.2, ⟨_, _, _, MV.out.1⟩, Nat.le_succ_of_le (Nat.le_trans (syncS_same sf).2 HL.out)⟩
        case measure => simp [intOf]; omega
      · have z2 : (kind == 2) = false := by simpa using k2
        by_cases k4 : kind = 4
        · subst k4
          have QK : Hid (kl ≤ 140737488355328) := by show _ ≤ _; have h5 : kc * 8 ≤ 140737488351232 := HO.out.room; have h6 : kl ≤ kc := HO.out.q.lecap; omega
          have QL : Hid (0 < kl → ∀ b off, ka = some ⟨b, off, none⟩ → ¬ Lf b) := fun h0 b off e hb => by have h5 : b < w.heap.size := HO.out.lt h0 b off e; have h6 := (TW.out.lf b hb).1; omega
          have Q3 : Hid (I8.Sq wr ka kl kc ks) := HO.out.q.below HB.out
          go_wp2_with fail
          refine (crash_any TW.out.f (Nat.lt_trans WL.out (by omega)) Q3.out QL.out QK.out).mono ?_
          rintro e w4 ⟨rfl, hmv⟩
          have MV := hide (TW.out.next NW.out hmv)
          clear hmv
          go_wp2_with fail
          go_roundw
          case rel => exact ⟨k + 1, crashS sf ks, by omega, by go_num, HB.out.trans MV.out.2, ⟨_, _, _, MV.out.1⟩, Nat.zero_le _⟩
          case measure => simp [intOf]; omega
        · have z4 : (kind == 4) = false := by simpa using k4
          by_cases k5 : kind = 5
          · subst k5
            go_wp2_with fail
            refine (start_any TW.out.f (Nat.lt_trans WL.out (by omega))).mono ?_
            rintro e w4 ⟨rfl, hmv⟩
            have MV := hide (TW.out.next NW.out hmv)
            clear hmv
            go_wp2_with fail
            go_roundw
            case rel => exact ⟨k + 1, startS sf, by omega, by go_num, HB.out.trans MV.out.2, ⟨_, _, _, MV.out.1⟩, Nat.le_succ_of_le (Nat.le_trans (startS_same sf).2 HL.out)⟩
            case measure => simp [intOf]; omega
          · have z5 : (kind == 5) = false := by simpa using k5
            have NL : Hid (¬ Lf ob) := fun h5 => by have := (TW.out.lf _ h5).1; have := OB.out; omega
            have LN : Hid (ob < wr.heap.size) := Nat.lt_of_lt_of_le OB.out NW.out
            go_wp2_with fail
            go_region_held3 (fun u => u.cell? ⟨ob, off + k * 5, none⟩ = some (.int .i64 kind) ∧ u.cell? ⟨ob, off + k * 5 + 1, none⟩ = some (.int .i64 at_) ∧ u.cell? ⟨ob, off + k * 5 + 2, none⟩ = some (.int .i64 n) ∧ u.cell? ⟨ob, off + k * 5 + 3, none⟩ = some (.int .u8 fill) ∧ u.cell? ⟨ob, off + k * 5 + 4, none⟩ = some (.slice ka kl kc))
              (first | exact Y.out | exact var5o Y.out E4.out | exact var5o (var5o Y.out E4.out) E5.out)
              (first
                | (go_at_call 21; refine (data_any ⟨kind, at_, n, fill, ka, kl, kc, ks⟩ hn0 hn1 _).mono ?_; rintro e w4 ⟨g, ln, cp, rfl, hb4, q4, lo4, hi4⟩; have B4 : Hid (Below wr.heap.size wr w4) := ⟨hb4.os, hb4.tape, hb4.output, hb4.size, hb4.block⟩; have Q4 := hide q4; have T4 := hide (TW.out.below B4.out); have E4 : Hid (w4.heap[ob]? = wr.heap[ob]?) := B4.out.block _ LN.out; clear hb4 q4)
                | (go_at_call 22; refine (write_any T4.out.f at_ Q4.out WL.out).mono ?_; rintro e w5 ⟨rfl, hmv⟩; have MV := hide hmv; have E5 : Hid (w5.heap[ob]? = w4.heap[ob]?) := hmv.1.block _ (Nat.lt_of_lt_of_le LN.out B4.out.size) NL.out; clear hmv))
            have BW4 : Hid (Below w.heap.size w w4) := HB.out.trans (B4.out.mono NW.out)
            have MN := hide (T4.out.next BW4.out.size MV.out)
            clear MV
            go_wp2_with fail
            go_roundw
            case rel => exact ⟨k + 1, _, by omega, by go_num, BW4.out.trans MN.out.2, ⟨_, _, _, MN.out.1⟩, Nat.le_trans (writeS_same _ _ _).2 (Nat.succ_le_succ HL.out)⟩
            case measure => simp [intOf]; omega
    · obtain rfl : k = ml := by omega
      go_wp2_with fail
      refine (down_any TW.out.d).mono ?_
      rintro e w5 ⟨rfl, rfl⟩
      go_wp2_with fail
      refine (down_any TW.out.g).mono ?_
      rintro e w6 ⟨rfl, rfl⟩
      go_wp2_with fail
      refine (waiting_any TW.out.d).mono ?_
      rintro e w7 ⟨rfl, rfl⟩
      go_wp2_with fail
      refine (waiting_any TW.out.g).mono ?_
      rintro e w8 ⟨rfl, rfl⟩
      go_wp2_with fail
      refine (down_any TW.out.d).mono ?_
      rintro e w9 ⟨rfl, rfl⟩
      cases hdn : s.down with
      | true =>
        have SU := hide (startS_up s)
        clear hdn
        go_wp2_with fail
        refine (start_any TW.out.d (by have := L1.out; omega)).mono ?_
        rintro e w10 ⟨rfl, hmv⟩
        have B10 : Hid (Below w.heap.size w w10) := HB.out.trans (hmv.1.below HB.out.size (fun k hk => (TW.out.ld k hk).1))
        have D10 := hide hmv.2.lt
        have G10 := hide (TW.out.g.far hmv.1 (fun k hk hd => TW.out.gd k hk hd))
        have X10 : Hid (∀ k, Lg k → ¬ ((Ld k ∨ w9.heap.size ≤ k) ∧ k < w10.heap.size)) := fun k hk h5 => by rcases h5.1 with h6 | h6; exact TW.out.gd k hk h6; have := (TW.out.lg k hk).2; omega
        have N10 : Hid (∀ k, Lg k → w.heap.size ≤ k) := fun k hk => (TW.out.lg k hk).1
        clear hmv TW
        go_wp2_with fail
        refine (start_any G10.out (by have := L1.out; omega)).mono ?_
        rintro e w11 ⟨rfl, hmv⟩
        have B11 : Hid (Below w.heap.size w w11) := B10.out.trans (hmv.1.below B10.out.size N10.out)
        have G11 := hide hmv.2
        have D11 := hide (D10.out.far hmv.1 (fun k hk hg => X10.out k hg hk))
        clear hmv D10 G10 X10 N10 B10
        have OK := hide D11.out.ok
        go_wp2_with fail
        refine (all_any D11.out SU.out).mono ?_
        rintro e w13 ⟨G1, cp1, gs1, rfl, hb13, hl13⟩
        have B13 : Hid (Below w.heap.size w w13) := B11.out.trans (hb13.mono B11.out.size)
        have G13 := hide (G11.out.below hb13)
        have A13 := hide hl13
        clear hb13 hl13 B11 G11 D11
        go_wp2_with fail
        refine (all_any G13.out SU.out).mono ?_
        rintro e w14 ⟨G2, cp2, gs2, rfl, hb14, hl14⟩
        have B14 : Hid (Below w.heap.size w w14) := B13.out.trans (hb14.mono B13.out.size)
        have A14 := hide (A13.out.below hb14)
        have C14 := hide hl14
        clear hb14 hl14 B13 A13
        go_wp2_with fail
        refine (lists_any A14.out C14.out OK.out.shown OK.out.hi).mono ?_
        rintro e w15 ⟨rfl, m15, rfl⟩
        go_wp2_with fail
        go_ret
        exact ⟨rfl, B14.out.os, B14.out.tape, B14.out.output, B14.out.size, B14.out.block⟩
      | false =>
        have SU := hide hdn
        have D11 := hide TW.out.d
        have G11 := hide TW.out.g
        have B11 := HB
        clear TW
        have OK := hide D11.out.ok
        go_wp2_with fail
        refine (all_any D11.out SU.out).mono ?_
        rintro e w13 ⟨G1, cp1, gs1, rfl, hb13, hl13⟩
        have B13 : Hid (Below w.heap.size w w13) := B11.out.trans (hb13.mono B11.out.size)
        have G13 := hide (G11.out.below hb13)
        have A13 := hide hl13
        clear hb13 hl13 B11 G11 D11
        go_wp2_with fail
        refine (all_any G13.out SU.out).mono ?_
        rintro e w14 ⟨G2, cp2, gs2, rfl, hb14, hl14⟩
        have B14 : Hid (Below w.heap.size w w14) := B13.out.trans (hb14.mono B13.out.size)
        have A14 := hide (A13.out.below hb14)
        have C14 := hide hl14
        clear hb14 hl14 B13 A13
        go_wp2_with fail
        refine (lists_any A14.out C14.out OK.out.shown OK.out.hi).mono ?_
        rintro e w15 ⟨rfl, m15, rfl⟩
        go_wp2_with fail
        go_ret
        exact ⟨rfl, B14.out.os, B14.out.tape, B14.out.output, B14.out.size, B14.out.block⟩

theorem contract (H : Type) (enc : TypeId × Value → H) (W : World) (base : Nat) (args : Array Value) (ds gs : List (DataW H)) (before : List MemPlace)
    (hval0 : ∀ (j : Nat) t v, Try.f6.params[j]? = some t → args[j]? = some v → Value.okWide Try.prog W .any base t v)
    (hW : DataW.Whole enc Try.prog Try.f6.params.toList Rows.diskForksSpec.vars false W args.toList ds gs before)
    (hcond : Rows.uptoSmall H (ds ++ gs) = true)
    (hsz0 : (DataW.weightsEach Try.prog (Try.f6.params.toList ++ Rows.diskForksSpec.plain.varTypes Try.prog) (ds ++ gs)).all (· ≤ reachBytes) = true) :
    Calls Try.prog 6 args W fun e W' => ∃ v, e = .returned v ∧ Rows.diskForksSpec.post enc Try.prog Try.f6 false true false false W args v W' := by
  have hsz : (DataW.weightsEach Try.prog (Try.f6.params.toList ++ Rows.diskForksSpec.plain.varTypes Try.prog) (ds ++ gs)).all (· ≤ reachBytes) = true := hsz0
  have hval : ∀ (j : Nat) t v, Try.f6.params[j]? = some t → args[j]? = some v → Value.okWide Try.prog W .any base t v := hval0
  have hW' := hW
  obtain ⟨p, q, hA0, hV, rfl, hfz, hnd⟩ := hW
  have hA : DataW.TrodAll enc Try.prog W 0 (fun _ => true) true Try.f6.params.toList args.toList ds p := hA0
  rw [Try.params6] at hA hval hsz
  obtain ⟨v0, vs0, d0, ds0, p0, q0, hargs, rfl, rfl, h0, r0⟩ := trodAll_cons hA
  obtain ⟨v1, vs1, d1, ds1, p1, q1, rfl, rfl, rfl, h1, r1⟩ := trodAll_cons r0
  obtain ⟨v2, vs2, d2, ds2, p2, q2, rfl, rfl, rfl, h2, r2⟩ := trodAll_cons r1
  obtain ⟨rfl, rfl, rfl⟩ := trodAll_nil r2
  obtain rfl : args = #[v0, v1, v2] := by cases args; simp_all
  obtain ⟨rfl, rfl⟩ := trodVars_none hV
  have lt0 : ∀ x ∈ p0, x.block < W.heap.size := by obtain ⟨m, hm⟩ := h0; exact DataW.trod_lt m _ _ _ hm
  obtain ⟨b, rfl, bb⟩ := open_i64 (hval 0 3 v0 rfl rfl) h0
  have lt1 : ∀ x ∈ p1, x.block < W.heap.size := by obtain ⟨m, hm⟩ := h1; exact DataW.trod_lt m _ _ _ hm
  obtain ⟨a, len, cap, os, rfl, ho⟩ := open_ops_hb (hval 1 22 v1 rfl rfl) h1 (fun n hn => by have h := List.all_eq_true.1 hsz n (DataW.weights_mem_each (j := 1) rfl rfl n hn); simpa using h) (fun elems spare e => bulk_slice hcond (by rw [← e]; simp))
  have lt2 : ∀ x ∈ p2, x.block < W.heap.size := by obtain ⟨m, hm⟩ := h2; exact DataW.trod_lt m _ _ _ hm
  obtain ⟨ma, ml, mc, ms, rfl, hm⟩ := open_ops_hb (hval 2 22 v2 rfl rfl) h2 (fun n hn => by have h := List.all_eq_true.1 hsz n (DataW.weights_mem_each (j := 2) rfl rfl n hn); simpa using h) (fun elems spare e => bulk_slice hcond (by rw [← e]; simp))
  clear hA0 hval0
  refine (walk ho.1 ho.2 hm.1 hm.2 b).mono fun e W' ⟨he, bel⟩ => ?_
  subst he
  exact ⟨_, rfl, _, _, _, [], _, [], hW', trodAll_mk1 (shut_bool Try.underlying4 _), (trodAll_cons_mk (Below.trod laidOut (by kernel_rfl) (of_decide_eq_true (by kernel_rfl)) h0 bel lt0) (trodAll_cons_mk (Below.trod laidOut (by kernel_rfl) (of_decide_eq_true (by kernel_rfl)) h1 bel lt1) (trodAll_cons_mk (Below.trod laidOut (by kernel_rfl) (of_decide_eq_true (by kernel_rfl)) h2 bel lt2) trodAll_mk0))), rfl, bel.frame _, fun h => by cases h⟩

set_option maxRecDepth 100000 in
theorem lifted (os : Os) (started : os.Started) (H : Type) (enc : TypeId × Value → H) (F : Stop.Interp) :
    ReturnsInHanded {} Try.checked os 6 .any ((Rows.OpenSpec.upto Rows.diskForksSpec).pre6 enc Try.prog Try.f6 Rows.diskForksUptoRow.domain false) (((Rows.OpenSpec.upto Rows.diskForksSpec).at F).post enc Try.prog Try.f6 false true false false) := by
  refine returnsInHanded_of_cond_sized (C := Try.checked) (s := Rows.OpenSpec.upto Rows.diskForksSpec) (k := Rows.uptoSmall) rfl own started (by kernel_rfl) Try.func6
    (OpenSpec.witness (enc := enc) (C := Try.checked) (s := Rows.OpenSpec.upto Rows.diskForksSpec) (k := Rows.uptoSmall) rfl false ⟨#[], #[.int .i64 0, .slice none 0 0, .slice none 0 0], []⟩ 8 (by kernel_rfl) (by kernel_rfl) (by kernel_rfl)
      (x := ([.lit (.int .i64 0), .nil, .nil], [], [])) (by kernel_rfl) rfl (by kernel_rfl)) ?_
  intro W base args ds gs before hval hW _ hk hsz _
  exact contract H enc W base args ds gs before hval hW hk hsz

theorem proved : Rows.DiskForksUptoSaid :=
  OpenClaim.holds_of_cond 6 Try.f6 rfl rfl rfl rfl rfl rfl rfl ⟨rfl, rfl, rfl, rfl, rfl⟩ rfl rfl rfl rfl rfl (by kernel_rfl) Try.func6 (by kernel_rfl)
    (of_decide_eq_true (by kernel_rfl)) (by unfold Func.isWrapper; first | (rw [if_pos (by decide +kernel)]; kernel_rfl) | (rw [if_neg (by decide +kernel)]; exact ⟨rfl, rfl⟩))
    (fun os started H enc _ F => lifted os started H enc F)
#print axioms proved
end DiskForks
theorem diskForks_holds : Rows.DiskForksUptoSaid := DiskForks.proved
end Go.Proofs.Ytfkclebngldjmaa
