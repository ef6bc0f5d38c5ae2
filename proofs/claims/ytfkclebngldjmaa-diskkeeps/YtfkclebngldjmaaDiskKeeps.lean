/- DiskKeeps: what was there at a Sync, and was not written since, is there behind any fall; a block that was written since has, byte by byte, what was there, or what one of the writes since had there: for every two lists of calls and every list of numbers. No condition. -/
import Derived.Test.YtfkclebngldjmaaDiskKeepsMem
import Derived.Test.YtfkclebngldjmaaDiskAwake
import Derived.BigQuiet
namespace Go.Proofs.Ytfkclebngldjmaa
namespace DiskKeeps
open Go.ChangeShapes Go.WideShapes Go.ChangeAt Go.RowKit B8 Dm
set_option linter.unusedVariables false

theorem startS_up (s : Ds) : (startS s).down = false := by
  unfold startS
  cases hd : s.down with
  | true => rfl
  | false => exact hd
theorem sync_free {s : Ds} (hd : s.down = false) (hl : s.left = 0) : syncE s = 0 ∧ syncS s = { s with kept := over s.kept s.ws, ws := [] } := by
  have h1 : hitE s = 0 := by unfold hitE; rw [if_pos hl]
  have h2 : hitS s = s := by unfold hitS; rw [if_pos hl]
  refine ⟨by unfold syncE; rw [hd]; exact h1, ?_⟩
  unfold syncS
  rw [if_neg (by rw [hd]; simp), if_neg (by rw [h1]; simp), h2]
theorem write_bad {s : Ds} {at_ : Int} {bs : List Int} (hl : s.left = 0) (h : writeE s at_ bs ≠ 0) : writeS s at_ bs = s := by
  unfold writeE at h
  unfold writeS
  by_cases h1 : reachE s at_ ≠ 0
  · rw [if_pos h1]
  · rw [if_neg h1]
    rw [if_neg h1] at h
    by_cases h2 : bs.length ≠ 64
    · rw [if_pos h2]
    · rw [if_neg h2] at h
      unfold hitE at h
      rw [if_pos hl] at h
      exact absurd rfl h
theorem write_good {s : Ds} {at_ : Int} {bs : List Int} (hl : s.left = 0) (h : writeE s at_ bs = 0) : ∃ p : Nat, at_ = p ∧ p < s.n ∧ bs.length = 64 ∧ writeS s at_ bs = { s with ws := s.ws ++ [(p, bs)] } := by
  unfold writeE at h
  unfold writeS
  by_cases h1 : reachE s at_ ≠ 0
  · rw [if_pos h1] at h; exact absurd h h1
  · rw [if_neg h1]
    rw [if_neg h1] at h
    by_cases h2 : bs.length ≠ 64
    · rw [if_pos h2] at h; omega
    · rw [if_neg h2]
      obtain ⟨_, p, rfl, hp⟩ := reach_at (Decidable.not_not.1 h1)
      refine ⟨p, rfl, hp, Decidable.not_not.1 h2, ?_⟩
      unfold hitS
      rw [if_pos hl, Int.toNat_natCast]
theorem Lol.fr {w wb : World} {lo : Nat} {v : Value} {n : Nat} {gs : Nat → Nat} {bss : Nat → List Int} (h : Lol wb lo v n gs bss) (hk : ∀ k, lo ≤ k → k < wb.heap.size → w.heap[k]? = wb.heap[k]?) (hs : wb.heap.size ≤ w.heap.size) : Lol w lo v n gs bss :=
  ⟨row_same h.row (fun k hj => hk k (h.row.lt k hj).1 (h.row.lt k hj).2), fun i hi => by obtain ⟨h1, h2, h3, h4⟩ := h.each i hi; exact ⟨h1, Nat.lt_of_lt_of_le h2 hs, (hk _ h1 h2).trans h3, h4⟩⟩
theorem Lol.byte {w : World} {lo : Nat} {v : Value} {n : Nat} {gs : Nat → Nat} {bss : Nat → List Int} (h : Lol w lo v n gs bss) {i kk : Nat} (hi : i < n) (hl : (bss i).length = 64) (hk : kk < 64) : w.cell? ⟨gs i, kk, none⟩ = some (.int .u8 ((bss i)[kk]?.getD 0)) := by
  rw [cell_of_row w _ kk _ _ _ (h.each i hi).2.2.1]
  simp [vals, List.getElem?_eq_getElem (show kk < (bss i).length by omega)]
/-- the i-th list of lists, its j-th list, a byte of it -/
theorem Wrt.look {w : World} {gw n : Nat} {vs : Nat → Value} {us : List U} (h : Wrt w gw n vs us) {i : Nat} (hi : i < n) : ∃ a c, vs i = .slice a (put us i).length c ∧ ∀ (j : Nat) (u : U), (put us i)[j]? = some u → ∃ g, a = some ⟨g, 0, none⟩ ∧ w.cell? ⟨g, j, none⟩ = some (uval u) ∧ ∀ kk, kk < 64 → w.cell? ⟨u.g, kk, none⟩ = some (.int .u8 (u.bs[kk]?.getD 0)) := by
  have hr := h.row i hi
  rcases hr.2 with ⟨e1, e2⟩ | ⟨g, cap, cur, e1, _⟩
  · refine ⟨none, 0, by rw [e1, e2], fun j u hu => ?_⟩
    have := (List.getElem?_eq_some_iff.1 hu).1
    omega
  · refine ⟨_, _, e1, fun j u hu => ⟨g, rfl, ?_, ?_⟩⟩
    · have := hr.cells (g := g) (by rw [e1]; rfl) j (uval u) (by rw [List.getElem?_map, hu]; rfl)
      rw [Addr.add_mid, Nat.zero_add] at this
      exact this
    · have hm : u ∈ us := by
        have := List.mem_of_getElem? hu
        unfold put at this
        exact (List.mem_filter.1 this).1
      exact (h.data u hm).2.2

/-- nothing but a draw lies between the two -/
def Sm (w w' : World) : Prop := w'.os = w.os ∧ w'.tape = w.tape ∧ w'.output = w.output ∧ w'.heap = w.heap
theorem Sm.refl (w : World) : Sm w w := ⟨rfl, rfl, rfl, rfl⟩
theorem Sm.drew {w w' : World} (h : Sm w w') : Sm w w'.drew := h
theorem Sm.cell {w w' : World} (h : Sm w w') (a : Addr) : w'.cell? a = w.cell? a := World.cell?_of_block (by rw [h.2.2.2])
theorem Sm.below {w w' w0 : World} {N : Nat} (h : Sm w w') (hb : Below N w0 w) : Below N w0 w' := ⟨h.1.trans hb.os, h.2.1.trans hb.tape, h.2.2.1.trans hb.output, by rw [h.2.2.2]; exact hb.size, fun k hk => by rw [h.2.2.2]; exact hb.block k hk⟩

set_option maxRecDepth 100000 in
set_option maxHeartbeats 8000000 in
theorem walk {w : World} {a : Option Addr} {len cap : Nat} {os : Nat → Opd} (h : Ops w a len os) {ma : Option Addr} {ml mc : Nat} {ms : Nat → Opd} (hm : Ops w ma ml ms) (b : Int) {ka : Option Addr} {kl kc : Nat} {ks : List Int} (q : I8.Sq w ka kl kc ks) (hr : kc * 8 ≤ 140737488351232) :
    Calls Try.prog 4 #[.int .i64 b, .slice a len cap, .slice ma ml mc, .slice ka kl kc] w fun e w' => e = .returned (.bool true) ∧ Below w.heap.size w w' := by
  obtain ⟨i0, hi, hz0, hz1, hz2⟩ := info_parts linfo
  have RM := h.room
  have RN := hm.room
  have R := hide (ran_any (cap := cap) h b)
  have H := hide hm
  have Q := hide q
  have KK : Hid (kl ≤ 140737488355328) := by show _ ≤ _; have := q.lecap; omega
  have QW : Hid (0 < kl → ∀ b off, ka = some ⟨b, off, none⟩ → b < w.heap.size) := fun h0 b off e => by
    obtain ⟨b', off', e', hc⟩ := q.cells h0
    rw [e] at e'
    cases e'
    exact World.block_lt_of_cell? w _ (hc 0 h0)
  clear h hm q hr
  go_enter Try.func4, Try.ntmps4
  go_wp2_with fail
  refine R.out.mono ?_
  rintro e w1 ⟨D, s, rfl, hb1, hd1, hn1, hl1⟩
  have B1 := hide hb1
  have D1 := hide hd1
  have L1 := hide hl1
  clear hb1 hd1 hn1 hl1 R
  go_wp2_with fail
  refine (awake_any _).mono ?_
  rintro e w2 ⟨rfl, hb2⟩
  have B2 : Hid (Below w.heap.size w w2) := B1.out.trans (hb2.mono B1.out.size)
  have D2 := hide (D1.out.below hb2)
  clear hb2 B1 D1
  go_wp2_with fail
  obtain ⟨L, hd, hL⟩ := D2.out
  refine (start_any hd (by have := L1.out; omega)).mono ?_
  rintro e w3 ⟨rfl, hmv⟩
  have M3 := hide (mv_next hL B2.out.size hmv)
  have B3 : Hid (Below w.heap.size w w3) := B2.out.trans M3.out.2
  have D3 := hide M3.out.1
  clear hmv hd hL M3 B2 D2
  have ST : Hid ((startS s).down = false ∧ (startS s).ws.length ≤ len) := ⟨startS_up s, Nat.le_trans (startS_same s).2 L1.out⟩
  generalize startS s = s1 at *
  clear L1
  go_wp2_with fail
  obtain ⟨L, hd, hL⟩ := D3.out
  refine (arm_any hd 0 (by omega) (by omega)).mono ?_
  rintro e w4 ⟨rfl, hmv⟩
  have M4 := hide (mv_next hL B3.out.size hmv)
  have B4 : Hid (Below w.heap.size w w4) := B3.out.trans M4.out.2
  have D4 := hide M4.out.1
  clear hmv hd hL M4 B3 D3
  have SA : Hid (armS s1 0 = { s1 with left := 0 }) := by show _ = _; unfold armS; rw [ST.out.1]; rfl
  rw [SA.out] at D4
  have S2 : Hid (∃ s2 : Ds, s2 = { s1 with left := 0 } ∧ s2.down = false ∧ s2.left = 0 ∧ s2.ws.length ≤ len) := ⟨_, rfl, ST.out.1, rfl, ST.out.2⟩
  obtain ⟨s2, e2, hs2⟩ := S2.out
  rw [← e2] at D4
  have HS2 := hide hs2
  clear e2 SA S2 hs2 ST
  have SF := hide (sync_free HS2.out.1 HS2.out.2.1)
  go_wp2_with fail
  obtain ⟨L, hd, hL⟩ := D4.out
  refine (sync_any hd (by have := HS2.out.2.2; omega)).mono ?_
  rintro e w5 ⟨rfl, hmv⟩
  have M5 := hide (mv_next hL B4.out.size hmv)
  rw [SF.out.1]
  rw [SF.out.2] at M5
  have B5 : Hid (Below w.heap.size w w5) := B4.out.trans M5.out.2
  have D5 := hide M5.out.1
  clear hmv hd hL M5 B4 D4
  have S3 : Hid (∃ s3 : Ds, s3 = { s2 with kept := over s2.kept s2.ws, ws := [] } ∧ s3.down = false ∧ s3.left = 0 ∧ s3.ws = []) := ⟨_, rfl, HS2.out.1, HS2.out.2.1, rfl⟩
  obtain ⟨s3, e3, hs3⟩ := S3.out
  rw [← e3] at D5
  have HS3 := hide hs3
  clear e3 S3 hs3 SF HS2
  go_wp2_with fail
  obtain ⟨L, hd, hL⟩ := D5.out
  have OK3 := hide hd.ok
  have n1 := hd.ok.lo
  have n2 := hd.ok.hi
  refine (all_any hd HS3.out.1).mono ?_
  rintro e w6 ⟨G, cpG, gb, rfl, hb6, hl6⟩
  have OV : Hid (over s3.kept s3.ws = s3.kept) := by show _ = _; rw [HS3.out.2.2]; rfl
  rw [OV.out] at hl6
  have A6 := hide hl6
  have B6 : Hid (Below w.heap.size w w6) := B5.out.trans (hb6.mono B5.out.size)
  have K6 : Hid (Kp (w6.alloc (.cells (nils s3.n) 43)) w.heap.size D s3 L (fun k => w5.heap.size ≤ k ∧ k < w6.heap.size + 1) w6 w5.heap.size s3.n (fun _ => .slice none 0 0) []) :=
    ⟨(hd.below hb6).below (below_alloc (Below.refl _ _) _), fun k hk => ⟨(hL k hk).1, by have := (hL k hk).2; have := hb6.size; simp; omega, fun hM => by have := (hL k hk).2; omega⟩, fun k hk => ⟨by have := B5.out.size; omega, by simp; omega⟩, fun k h1 h2 => ⟨⟨h1, by omega⟩, heap_push_lt _ h2⟩, wrt_new w6 s3.n, fun k hk => by
      rcases hk with rfl | ⟨i, hi, hk⟩ | ⟨x, hx, rfl⟩
      · exact ⟨hb6.size, by omega⟩
      · simp [Value.ownBlock] at hk
      · simp at hx⟩
  have Z6 : Hid (w.heap.size ≤ w5.heap.size ∧ w5.heap.size ≤ w6.heap.size) := ⟨B5.out.size, hb6.size⟩
  clear hd hL hb6 hl6 B5 D5 OV
  have mk := make_lists s3.n n2
  go_wp2_with fail
  clear mk
  obtain ⟨w7, e7⟩ : ∃ w7, w7 = w6.alloc (.cells (nils s3.n) 43) := ⟨_, rfl⟩
  rw [← e7] at K6 ⊢
  have B7 : Hid (Below w.heap.size w w7) := by rw [e7]; exact below_alloc B6.out _
  clear e7
  go_loopw [12] (fun i wr => ∃ (k : Nat) (L M : Nat → Prop) (vs : Nat → Value) (us : List U), k ≤ ml ∧ i = .int .i64 k ∧ Hid (Below w.heap.size w wr) ∧ Hid (Kp wr w.heap.size D { s3 with ws := wrs us } L M w6 w5.heap.size s3.n vs us) ∧ Hid (us.length ≤ k ∧ ∀ u ∈ us, u.bs.length = 64)) (fun i _ => ml - (intOf i).toNat)
  case atStart => exact ⟨0, L, _, _, [], by omega, rfl, B7, by have := K6; have e : ({ s3 with ws := wrs [] } : Ds) = s3 := by { show ({ s3 with ws := [] } : Ds) = s3; rw [← HS3.out.2.2] }; rw [e]; exact this, ⟨Nat.le_refl _, fun u hu => by simp at hu⟩⟩
  case round =>
    clear B7 K6
    obtain ⟨k, L, M, vs, us, hk, rfl, HB, HK, HU⟩ := hrel
    by_cases hlt : k < ml
    · obtain ⟨ob, off, rfl, oblt, hoc⟩ := H.out.cells (by omega)
      have OK := H.out.each k hlt
      have hr := rangeAt_same (hoc k hlt) (HB.out.block ob oblt)
      generalize ms k = o at *
      obtain ⟨kind, at_, n, fill, ka', kl', kc', ks'⟩ := o
      have hn0 := OK.n0
      have hn1 := OK.n1
      dsimp only at hn0 hn1
      obtain ⟨o0, o1, o2, o3, o4⟩ := opc_cells hr
      clear OK hr hoc
      have i1 : (k : Int) < (ml : Int) := by omega
      have i2 : (0 : Int) ≤ (k : Int) := by omega
      have NW : Hid (w.heap.size ≤ wr.heap.size) := HB.out.size
      have OB : Hid (ob < w.heap.size) := oblt
      have WL : Hid (us.length < 2600000000000) := by show _ < _; have := HU.out.1; omega
      clear oblt
      go_wp2_with fail
      refine (data_any ⟨kind, at_, n, fill, ka', kl', kc', ks'⟩ hn0 hn1 _).mono ?_
      rintro e w8 ⟨g, ln, cp, rfl, hb8, q8, lo8, hi8⟩
      generalize dataL ⟨kind, at_, n, fill, ka', kl', kc', ks'⟩ = bs at *
      have B8' : Hid (Below w.heap.size w w8) := HB.out.trans (hb8.mono NW.out)
      have K8 := hide (HK.out.below hb8)
      have Q8 := hide q8
      have G8 : Hid (¬ L g ∧ ¬ M g ∧ g < w8.heap.size ∧ w6.heap.size < g) := ⟨fun hl => by have := (HK.out.l g hl).2.1; omega, fun hM => by have := (HK.out.m g hM).2; omega, hi8, by have := (HK.out.m _ (HK.out.wm _ (.inl rfl))).2; omega⟩
      have p1 : w8.cell? ⟨ob, off + k * 5 + 1, none⟩ = some (.int .i64 at_) := (hb8.cell (p := ⟨ob, off + k * 5 + 1, none⟩) (Nat.lt_of_lt_of_le OB.out NW.out)).trans o1
      clear hb8 q8 lo8 hi8 HK o0 o1 o2 o3 o4 HB
      go_wp2_with fail
      refine (write_any K8.out.d at_ Q8.out (by show (wrs us).length < _; have := WL.out; simp [wrs]; omega)).mono ?_
      rintro e w9 ⟨rfl, hmv⟩
      by_cases hw : writeE { s3 with ws := wrs us } at_ bs = 0
      · obtain ⟨p, rfl, hp, hbl, hws⟩ := write_good (s := { s3 with ws := wrs us }) HS3.out.2.1 hw
        rw [hws] at hmv
        rw [hw]
        have hps : p < s3.n := hp
        have hln : ln = 64 := by rw [← Q8.out.length]; exact hbl
        subst hln
        have KM := hide (K8.out.mv B8'.out.size hmv)
        have C9 := hide hmv.1
        have B9 : Hid (Below w.heap.size w w9) := B8'.out.trans KM.out.2
        have K9 := hide KM.out.1
        have G9 : Hid (¬ ((L g ∨ w8.heap.size ≤ g) ∧ g < w9.heap.size)) := fun h5 => by rcases h5.1 with h6 | h6; exact G8.out.1 h6; have := G8.out.2.2.1; omega
        have E9 : Hid (∀ j, j < 64 → w9.cell? ⟨g, j, none⟩ = some (.int .u8 (bs[j]?.getD 0))) := fun j hj => by
          obtain ⟨b', off', e', hc⟩ := Q8.out.cells (by omega)
          cases e'
          have := hc j hj
          rw [Nat.zero_add] at this
          exact (World.cell?_of_block (w := w8) (a := ⟨g, j, none⟩) (C9.out.block g G8.out.2.2.1 G8.out.1)).trans this
        have r1 : w9.cell? ⟨ob, off + k * 5 + 1, none⟩ = some (.int .i64 p) := (World.cell?_of_block (w := w8) (a := ⟨ob, off + k * 5 + 1, none⟩) (C9.out.block ob (World.block_lt_of_cell? w8 _ p1) (fun hl => by have := (K8.out.l ob hl).1; have := OB.out; omega))).trans p1
        have hw0 : (p : Int) < (s3.n : Int) := by omega
        have hw1 : (0 : Int) ≤ (p : Int) := by omega
        have c9 := K9.out.wr.cell p hps
        have f9 := K9.out.wr.frz p
        obtain ⟨va, vc, ev, _⟩ := K9.out.wr.look hps
        rw [ev] at c9
        have EV := hide ev
        have RW := hide (K9.out.wr.row p hps)
        rw [ev] at RW
        have PL : Hid ((put us p).length ≤ us.length) := List.length_filter_le _ _
        have PL2 : (put us p).length < 2600000000000 := Nat.lt_of_le_of_lt PL.out WL.out
        obtain ⟨pm, epm⟩ : ∃ pm, pm = (put us p).length := ⟨_, rfl⟩
        rw [← epm] at c9 RW PL2 EV
        have EP := hide epm
        have OL : Hid (ob < w9.heap.size) := World.block_lt_of_cell? w9 _ r1
        have GL : Hid (w6.heap.size < w9.heap.size) := World.block_lt_of_cell? w9 _ c9
        have NE : Hid ((Value.slice va pm vc).ownBlock ≠ some ob ∧ (Value.slice va pm vc).ownBlock ≠ some w6.heap.size) := ⟨fun e => by have := (RW.out.lt ob e).1; have := OB.out; have := Z6.out; omega, fun e => by have := (RW.out.lt _ e).1; omega⟩
        have r1a : (w9.alloc (.cells #[.slice (some ⟨g, 0, none⟩) 64 cp] 46)).cell? ⟨ob, off + k * 5 + 1, none⟩ = some (.int .i64 p) := (World.cell?_alloc_lt w9 _ _ OL.out).trans r1
        have c9a : (w9.alloc (.cells #[.slice (some ⟨g, 0, none⟩) 64 cp] 46)).cell? ⟨w6.heap.size, p, none⟩ = some (.slice va pm vc) := (World.cell?_alloc_lt w9 _ _ GL.out).trans c9
        have f9a : (w9.alloc (.cells #[.slice (some ⟨g, 0, none⟩) 64 cp] 46)).frozen? ⟨w6.heap.size, p, none⟩ = false := (World.frozen?_alloc_past _ _ _ GL.out).trans f9
        clear hmv hw hws p1 ev epm KM
        have BA : Hid (Below w9.heap.size w9 (w9.alloc (.cells #[.slice (some ⟨g, 0, none⟩) 64 cp] 46)).drew) := (below_alloc (Below.refl _ _) _).drew
        have RA : Hid (∀ u, Below w9.heap.size w9 u → u.ownsRow (w6.heap.size + 1) 46 1 (.slice va pm vc) pm ((put us p).map uval)) := fun u hb => row_same RW.out (fun k hk => hb.block k (RW.out.lt k hk).2)
        have XX : Hid (w6.heap.size + 1 ≤ w9.heap.size) := GL.out
        go_wp2_with fail
        go_region_law (refine step_append_where _ (by rfl) (.tmp 73) (.tmp 75) 43 (by rfl) (w6.heap.size + 1) 46 i0 (.slice none 0 0) 1 24 Try.underlying43 hi hz0 hz1 hz2 (by rfl) (by omega) va pm vc (by rfl) ((put us p).map uval) (RA.out _ (below_alloc (Below.refl _ _).drew _)) ⟨w9.heap.size, 0, none⟩ 1 1 (by rfl) [.slice (some ⟨g, 0, none⟩) 64 cp] (by rfl) (World.news_of_block (heap_alloc_new w9.drew _)) (by intro u hu; simp at hu; subst hu; rfl) (by omega) (by unfold maxLen; omega) (by omega) (by simp; exact Nat.le_of_lt GL.out) ?_; intro g2 cap2 w3 hown hgrow hat; have r3 : w3.cell? ⟨ob, off + k * 5 + 1, none⟩ = some (.int .i64 p) := hgrow.cell ((World.cell?_alloc_lt w9.drew _ _ OL.out).trans r1) (fun e => NE.out.1 e.symm); have c3 : w3.cell? ⟨w6.heap.size, p, none⟩ = some (.slice va pm vc) := hgrow.cell ((World.cell?_alloc_lt w9.drew _ _ GL.out).trans c9) (fun e => NE.out.2 e.symm); have g3 : w3.frozen? ⟨w6.heap.size, p, none⟩ = false := (hgrow.frozen_far ⟨w6.heap.size, p, none⟩ (by simp; exact Nat.lt_succ_of_lt GL.out) (fun e => NE.out.2 e.symm)).trans ((World.frozen?_alloc_past _ _ _ GL.out).trans f9); have HO := hide hown; have HG := hide hgrow; have HA := hide hat; clear hown hgrow hat)
        all_goals (
          have PU := hide (K9.out.push (u := ⟨p, g, cp, bs⟩) (w6 := (w9.alloc (.cells #[.slice (some ⟨g, 0, none⟩) 64 cp] 46)).drew) (w7 := w3) (g2 := g2) (cp2 := cap2) (m := pm) B9.out.size hps EP.out G8.out.2.2.2 (Nat.le_trans Z6.out.1 Z6.out.2) (Nat.lt_of_lt_of_le G8.out.2.2.1 C9.out.size) E9.out G8.out.2.1 G9.out BA.out (by show World.grownBy _ _ (vs p).ownBlock; rw [EV.out]; exact HG.out) HO.out (by show (vs p).ownBlock = _ ∨ _; rw [EV.out]; rcases HA.out with h5 | h5; exact .inl h5; exact .inr (by rw [h5]; exact Nat.le_refl _)))
          obtain ⟨M', hK', hB'⟩ := PU.out
          have K10 := hide hK'
          have B10 : Hid (Below w.heap.size w (w3.setCell ⟨w6.heap.size, p, none⟩ (.slice (some ⟨g2, 0, none⟩) (pm + 1) cap2))) := B9.out.trans hB'
          clear hK' hB' PU HO HG HA
          have SW : Hid (({ s3 with ws := wrs us ++ [(p, bs)] } : Ds) = { s3 with ws := wrs (us ++ [⟨p, g, cp, bs⟩]) }) := by show _ = _; rw [wrs_snoc]
          go_wp2_with fail
          go_roundw
          case rel => exact ⟨k + 1, _, M', _, us ++ [⟨p, g, cp, bs⟩], by omega, by go_num, B10, by have := K10; rw [← SW.out]; exact this, ⟨by simp; exact HU.out.1, fun u hu => by rcases List.mem_append.1 hu with h5 | h5; exact HU.out.2 u h5; simp at h5; subst h5; exact hbl⟩⟩
          case measure => simp [intOf]; omega)
      · have WB := hide (write_bad (s := { s3 with ws := wrs us }) HS3.out.2.1 hw)
        rw [WB.out] at hmv
        have KM := hide (K8.out.mv B8'.out.size hmv)
        have hx : (writeE { s3 with ws := wrs us } at_ bs == 0) = false := by simpa using hw
        have hx2 : (writeE { s3 with ws := wrs us } at_ bs = 0) = False := by simpa using hw
        generalize writeE { s3 with ws := wrs us } at_ bs = r at *
        clear hmv WB hw
        go_wp2_with fail
        go_roundw
        case rel => exact ⟨k + 1, _, M, vs, us, by omega, by go_num, B8'.out.trans KM.out.2, KM.out.1, ⟨Nat.le_succ_of_le HU.out.1, HU.out.2⟩⟩
        case measure => simp [intOf]; omega
    · obtain rfl : k = ml := by omega
      clear H
      have NW : Hid (w.heap.size ≤ wr.heap.size) := HB.out.size
      have UL : Hid (us.length < 2600000000000) := by show _ < _; have := HU.out.1; omega
      go_wp2_with fail
      refine (crash_any HK.out.d (by show (wrs us).length < _; have := UL.out; simp [wrs]; omega) (Q.out.below HB.out) (fun h0 b off e h5 => by have := QW.out h0 b off e; have := (HK.out.l b h5).1; omega) KK.out).mono ?_
      rintro e w8 ⟨rfl, hmv⟩
      have KM := hide (HK.out.mv NW.out hmv)
      have B8' : Hid (Below w.heap.size w w8) := HB.out.trans KM.out.2
      have K8 := hide KM.out.1
      clear hmv KM HK HB NW
      have DN : Hid ((crashS { s3 with ws := wrs us } ks).down = true ∧ ((crashS { s3 with ws := wrs us } ks).ws.length : Int) = 0) := ⟨rfl, rfl⟩
      go_wp2_with fail
      refine (down_any K8.out.d).mono ?_
      rintro e w9 ⟨rfl, rfl⟩
      rw [DN.out.1]
      go_wp2_with fail
      refine (waiting_any K8.out.d).mono ?_
      rintro e w10 ⟨rfl, rfl⟩
      rw [DN.out.2]
      go_wp2_with fail
      refine (start_any K8.out.d (by simp [crashS])).mono ?_
      rintro e w11 ⟨rfl, hmv⟩
      have KM := hide (K8.out.mv B8'.out.size hmv)
      have B11 : Hid (Below w.heap.size w w11) := B8'.out.trans KM.out.2
      have K11 := hide KM.out.1
      clear hmv KM K8 B8'
      have SX : Hid (∃ s5 : Ds, s5 = startS (crashS { s3 with ws := wrs us } ks) ∧ s5.down = false ∧ s5.n = s3.n ∧ over s5.kept s5.ws = torn s3.kept ks 0 (wrs us)) := ⟨_, rfl, startS_up _, rfl, rfl⟩
      obtain ⟨s5, e5, hs5⟩ := SX.out
      rw [← e5] at K11
      have HS5 := hide hs5
      clear e5 SX hs5 DN
      go_wp2_with fail
      refine (all_any K11.out.d HS5.out.1).mono ?_
      rintro e w12 ⟨G2, cpG2, ga, rfl, hb12, hl12⟩
      rw [HS5.out.2.2, HS5.out.2.1] at hl12
      rw [HS5.out.2.1]
      have B12 : Hid (Below w.heap.size w w12) := B11.out.trans (hb12.mono B11.out.size)
      have K12 := hide (K11.out.below hb12)
      have C12 := hide hl12
      have A12 := hide (Lol.fr A6.out (fun k h1 h2 => (K12.out.fr k h1 h2).2) (Nat.le_of_lt (K12.out.m _ (K12.out.wm _ (.inl rfl))).2))
      clear hb12 hl12 K11 B11 A6
      go_wp2_with fail
      refine (size_any K12.out.d).mono ?_
      rintro e w13 ⟨rfl, rfl⟩
      rw [HS5.out.2.1]
      have TB : Hid (∀ p kk, kk < 64 → (torn s3.kept ks 0 (wrs us) p)[kk]?.getD 0 = (s3.kept p)[kk]?.getD 0 ∨ ∃ (j : Nat) (u : U), (put us p)[j]? = some u ∧ (torn s3.kept ks 0 (wrs us) p)[kk]?.getD 0 = u.bs[kk]?.getD 0) := fun p kk hkk => by
        rcases torn_byte ks p kk hkk (wrs us) s3.kept 0 (fun x hx => by unfold wrs at hx; obtain ⟨u, hu, rfl⟩ := List.mem_map.1 hx; exact HU.out.2 u hu) with h5 | ⟨x, hx, h6, h7⟩
        · exact .inl h5
        · obtain ⟨j, u, h8, h9⟩ := put_of hx h6
          exact .inr ⟨j, u, h8, by rw [h9]; exact h7⟩
      have AL : Hid (∀ i, i < s3.n → (torn s3.kept ks 0 (wrs us) i).length = 64) := fun i hi => by
        have := K12.out.d.ok.shown i (by rw [HS5.out.2.1]; exact hi)
        rw [HS5.out.2.2] at this
        exact this.1
      have W12 := hide K12.out.wr
      have PP : Hid (∀ i, (put us i).length < 2600000000000) := fun i => Nat.lt_of_le_of_lt (List.length_filter_le _ _) UL.out
      generalize torn s3.kept ks 0 (wrs us) = T at *
      clear K12 HS5 HU UL Q QW KK Z6 B6
      go_wp2_with fail
      go_loopw [15] (fun i wr => ∃ i' : Nat, i' ≤ s3.n ∧ i = .int .i64 i' ∧ Hid (Sm w13 wr)) (fun i _ => s3.n - (intOf i).toNat)
      case atStart => exact ⟨0, Nat.zero_le _, rfl, Sm.refl _⟩
      case round =>
        obtain ⟨i', hi', rfl, HW⟩ := hrel
        by_cases hlt2 : i' < s3.n
        · have j1 : (i' : Int) < (s3.n : Int) := by omega
          have j2 : (0 : Int) ≤ (i' : Int) := by omega
          obtain ⟨va, vc, ev, hlk⟩ := W12.out.look hlt2
          have LK := hide hlk
          have CW : Hid (w13.cell? ⟨w6.heap.size, i', none⟩ = some (.slice va (put us i').length vc)) := by show _ = _; rw [← ev]; exact W12.out.cell i' hlt2
          have PM := PP.out i'
          obtain ⟨pm, epm⟩ : ∃ pm, pm = (put us i').length := ⟨_, rfl⟩
          rw [← epm] at CW PM
          have EP := hide epm
          clear ev hlk epm
          go_wp2_with fail
          go_loopw [16] (fun v wr => ∃ kk : Nat, kk ≤ 64 ∧ v = .int .i64 kk ∧ Hid (Sm w13 wr)) (fun v _ => 64 - (intOf v).toNat)
          case atStart => exact ⟨0, Nat.zero_le _, rfl, HW⟩
          case round =>
            clear HW
            obtain ⟨kk, hkk, rfl, HW⟩ := hrel
            by_cases hlt3 : kk < 64
            · have j3 : (kk : Int) < 64 := by omega
              have j4 : (0 : Int) ≤ (kk : Int) := by omega
              have cA := (HW.out.cell _).trans (C12.out.cell hlt2)
              have cB := (HW.out.cell _).trans (A12.out.cell hlt2)
              have bA := (HW.out.cell _).trans (Lol.byte C12.out hlt2 (AL.out i' hlt2) hlt3)
              have bB := (HW.out.cell _).trans (Lol.byte A12.out hlt2 (OK3.out.kept i' hlt2).1 hlt3)
              have TT := hide (TB.out i' kk hlt3)
              obtain ⟨av, eA⟩ : ∃ av, av = (T i')[kk]?.getD 0 := ⟨_, rfl⟩
              obtain ⟨bv, eB⟩ : ∃ bv, bv = (s3.kept i')[kk]?.getD 0 := ⟨_, rfl⟩
              rw [← eA] at bA TT
              rw [← eB] at bB TT
              have EAV : Hid ((T i')[kk]?.getD 0 = av) := eA.symm
              clear eA eB
              go_wp2_with fail
              go_quiet (fail)
              go_wp2_with fail
              go_loopw [17, 18] (fun ok j wr => ∃ (o : Bool) (jj : Nat), jj ≤ pm ∧ ok = .bool o ∧ j = .int .i64 jj ∧ Hid (Sm w13 wr) ∧ Hid (o = true ∨ ∃ (j' : Nat) (u : U), jj ≤ j' ∧ (put us i')[j']? = some u ∧ av = u.bs[kk]?.getD 0)) (fun _ j _ => pm - (intOf j).toNat)
              case atStart =>
                refine ⟨_, 0, Nat.zero_le _, rfl, rfl, HW.out.drew, ?_⟩
                rcases TT.out with h5 | ⟨j, u, h6, h7⟩
                · exact .inl (by simpa using h5)
                · exact .inr ⟨j, u, Nat.zero_le _, h6, h7⟩
              case round =>
                clear HW cA cB bA bB TT
                obtain ⟨o, jj, hjj, rfl, rfl, HW, HJ⟩ := hrel
                have cW := (HW.out.cell _).trans CW.out
                by_cases hlt4 : jj < pm
                · have j5 : (jj : Int) < (pm : Int) := by omega
                  have j6 : (0 : Int) ≤ (jj : Int) := by omega
                  cases o with
                  | true =>
                    go_wp2_with fail
                    go_quiet (fail)
                    go_wp2_with fail
                    go_roundw
                    case rel => exact ⟨true, jj + 1, by omega, rfl, by go_num, HW.out.drew, .inl rfl⟩
                    case measure => simp [intOf]; omega
                  | false =>
                    obtain ⟨u, hu⟩ : ∃ u, (put us i')[jj]? = some u := ⟨_, List.getElem?_eq_getElem (by rw [← EP.out]; exact hlt4)⟩
                    obtain ⟨g, rfl, cU, bU⟩ := LK.out jj u hu
                    have cA := (HW.out.cell _).trans (C12.out.cell hlt2)
                    have bA := (HW.out.cell _).trans (Lol.byte C12.out hlt2 (AL.out i' hlt2) hlt3)
                    rw [EAV.out] at bA
                    have cU' := (HW.out.cell _).trans cU
                    have bU' := (HW.out.cell _).trans (bU kk hlt3)
                    unfold uval at cU'
                    have HU2 := hide hu
                    clear cU bU hu
                    have JN : Hid (av = u.bs[kk]?.getD 0 ∨ ∃ (j' : Nat) (x : U), jj + 1 ≤ j' ∧ (put us i')[j']? = some x ∧ av = x.bs[kk]?.getD 0) := by
                      rcases HJ.out with h5 | ⟨j', x, h6, h7, h8⟩
                      · cases h5
                      · by_cases e : j' = jj
                        · subst e
                          have := h7.symm.trans HU2.out
                          cases this
                          exact .inl h8
                        · exact .inr ⟨j', x, by omega, h7, h8⟩
                    generalize u.bs[kk]?.getD 0 = uv at *
                    go_wp2_with fail
                    go_quiet (fail)
                    go_wp2_with fail
                    go_roundw
                    case rel => exact ⟨_, jj + 1, by omega, rfl, by go_num, HW.out.drew, by rcases JN.out with h5 | h5; exact .inl (by simpa using h5); exact .inr h5⟩
                    case measure => simp [intOf]; omega
                · obtain rfl : jj = pm := by omega
                  have HT : Hid (o = true) := by
                    rcases HJ.out with h5 | ⟨j', x, h6, h7, h8⟩
                    · exact h5
                    · have := (List.getElem?_eq_some_iff.1 h7).1
                      have := EP.out
                      omega
                  rw [HT.out]
                  go_wp2_with fail
                  go_roundw
                  case rel => exact ⟨kk + 1, by omega, by go_num, HW⟩
                  case measure => simp [intOf]; omega
            · obtain rfl : kk = 64 := by omega
              go_wp2_with fail
              go_roundw
              case rel => exact ⟨i' + 1, by omega, by go_num, HW⟩
              case measure => simp [intOf]; omega
        · obtain rfl : i' = s3.n := by omega
          go_wp2_with fail
          go_ret
          exact ⟨rfl, HW.out.below B12.out⟩

set_option maxRecDepth 100000 in
theorem lifted (os : Os) (started : os.Started) (H : Type) (enc : TypeId × Value → H) :
    ReturnsInHanded {} Try.checked os 4 .any (Rows.diskKeepsSpec.pre6 enc Try.prog Try.f4 Rows.diskKeepsRow.domain false) (Rows.diskKeepsSpec.post enc Try.prog Try.f4 false true false false) := by
  refine returnsInHanded_of_change_sized (C := Try.checked) own started (by kernel_rfl) Try.func4
    (ChangeSpec.witness6 (enc := enc) (C := Try.checked) false ⟨#[], #[.int .i64 0, .slice none 0 0, .slice none 0 0, .slice none 0 0], []⟩ 8 (by kernel_rfl) (by kernel_rfl) (by kernel_rfl) (by kernel_rfl)) ?_
  intro W base args ds gs before hval0 hW hcnd hsz0 _
  have hsz : (DataW.weightsEach Try.prog (Try.f4.params.toList ++ Rows.diskKeepsSpec.plain.varTypes Try.prog) (ds ++ gs)).all (· ≤ reachBytes) = true := hsz0
  have hval : ∀ (j : Nat) t v, Try.f4.params[j]? = some t → args[j]? = some v → Value.okWide Try.prog W .any base t v := hval0
  have hW' := hW
  obtain ⟨p, q, hA0, hV, rfl, hfz, hnd⟩ := hW
  have hA : DataW.TrodAll enc Try.prog W 0 (fun _ => true) true Try.f4.params.toList args.toList ds p := hA0
  rw [Try.params4] at hA hval hsz
  obtain ⟨v0, vs0, d0, ds0, p0, q0, hargs, rfl, rfl, h0, r0⟩ := trodAll_cons hA
  obtain ⟨v1, vs1, d1, ds1, p1, q1, rfl, rfl, rfl, h1, r1⟩ := trodAll_cons r0
  obtain ⟨v2, vs2, d2, ds2, p2, q2, rfl, rfl, rfl, h2, r2⟩ := trodAll_cons r1
  obtain ⟨v3, vs3, d3, ds3, p3, q3, rfl, rfl, rfl, h3, r3⟩ := trodAll_cons r2
  obtain ⟨rfl, rfl, rfl⟩ := trodAll_nil r3
  obtain rfl : args = #[v0, v1, v2, v3] := by cases args; simp_all
  obtain ⟨rfl, rfl⟩ := trodVars_none hV
  have lt0 : ∀ x ∈ p0, x.block < W.heap.size := by obtain ⟨m, hm⟩ := h0; exact DataW.trod_lt m _ _ _ hm
  obtain ⟨b, rfl, bb⟩ := open_i64 (hval 0 3 v0 rfl rfl) h0
  have lt1 : ∀ x ∈ p1, x.block < W.heap.size := by obtain ⟨m, hm⟩ := h1; exact DataW.trod_lt m _ _ _ hm
  obtain ⟨a, len, cap, os, rfl, ho⟩ := open_ops_held (hval 1 22 v1 rfl rfl) h1 (fun n hn => by have h := List.all_eq_true.1 hsz n (DataW.weights_mem_each (j := 1) rfl rfl n hn); simpa using h)
  have lt2 : ∀ x ∈ p2, x.block < W.heap.size := by obtain ⟨m, hm⟩ := h2; exact DataW.trod_lt m _ _ _ hm
  obtain ⟨ma, ml, mc, ms, rfl, hm⟩ := open_ops_held (hval 2 22 v2 rfl rfl) h2 (fun n hn => by have h := List.all_eq_true.1 hsz n (DataW.weights_mem_each (j := 2) rfl rfl n hn); simpa using h)
  have lt3 : ∀ x ∈ p3, x.block < W.heap.size := by obtain ⟨m, hm⟩ := h3; exact DataW.trod_lt m _ _ _ hm
  obtain ⟨ka, kl, kc, ks, rfl, hq⟩ := I8.open_sq_sized (hval 3 32 v3 rfl rfl) h3 (fun elems spare e => by have h := hsz; rw [e] at h; exact sized_slice h (j := 3) (t := 32) (e := 3) rfl rfl Try.underlying32)
  clear hA0 hval0
  refine (walk ho hm b hq.1 hq.2).mono fun e W' ⟨he, bel⟩ => ?_
  subst he
  exact ⟨_, rfl, _, _, _, [], _, [], hW', trodAll_mk1 (shut_bool Try.underlying4 _), (trodAll_cons_mk (Below.trod laidOut (by kernel_rfl) (of_decide_eq_true (by kernel_rfl)) h0 bel lt0) (trodAll_cons_mk (Below.trod laidOut (by kernel_rfl) (of_decide_eq_true (by kernel_rfl)) h1 bel lt1) (trodAll_cons_mk (Below.trod laidOut (by kernel_rfl) (of_decide_eq_true (by kernel_rfl)) h2 bel lt2) (trodAll_cons_mk (Below.trod laidOut (by kernel_rfl) (of_decide_eq_true (by kernel_rfl)) h3 bel lt3) trodAll_mk0)))), rfl, bel.frame _, fun h => by cases h⟩

theorem over : Rows.diskKeepsRow.holds Try.pinned (OpenSpec.ofChange Rows.diskKeepsSpec) :=
  OpenClaim.holds_of_wide 4 Try.f4 rfl rfl rfl rfl rfl rfl rfl ⟨rfl, rfl, rfl, rfl, rfl⟩ rfl rfl rfl rfl rfl (by kernel_rfl) Try.func4 (by kernel_rfl)
    (of_decide_eq_true (by kernel_rfl)) (by unfold Func.isWrapper; first | (rw [if_pos (by decide +kernel)]; kernel_rfl) | (rw [if_neg (by decide +kernel)]; exact ⟨rfl, rfl⟩))
    (fun os started H enc _ => lifted os started H enc)

theorem proved : Rows.DiskKeepsSaid := over
#print axioms proved
end DiskKeeps
theorem diskKeeps_holds : Rows.DiskKeepsSaid := DiskKeeps.proved
end Go.Proofs.Ytfkclebngldjmaa
