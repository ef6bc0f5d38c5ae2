/- What a node may spend, between which numbers it knows the total, what it reports: the document's calls. Condition: the ledger and the account can be read. -/
import Derived.Test.YtjcbhgkfbilifaaFLgRefD
import Derived.Test.YtjcbhgkfbilifaaJZ
namespace Go.Proofs.Ytjcbhgkfbilifaa
open Go.ChangeShapes Go.WideShapes Go.ChangeAt Go.RowKit Ao Lg
set_option linter.unusedVariables false

theorem rnet_v {w : World} {a : Option Addr} {n c : Nat} {l : List Rt} {g ls v : Int} {k : ByteArray} (h : Rs w a n l) (e : netV l g k ls = v) :
    Calls Try.prog 23 #[.slice a n c, .int .i64 g, .string k, .int .i64 ls] w fun e w' => e = .returned (.int .i64 v) ∧ Below w.heap.size w w' := by
  subst e
  exact rnet_any h
theorem rwithin_x {h : Hd} {net n : Int} {b : Bool} (w : World) (hw : HdW h) (h1 : I64 net) (h2 : I64 n) (e : spB h (net + n) = b) : Calls Try.prog 71 #[.agg #[.int .i64 h.nd, .int .i64 h.ls, .int .i64 h.up, .int .i64 h.dn], .int .i64 net, .int .i64 n] w fun e w' => e = .returned (.bool b) ∧ Below w.heap.size w w' := by
  subst e
  exact rwithin_any w hw h1 h2
/-- the account, and what is held of it -/
structure Sy (w W : World) (A : Ac) (a : Option Addr) (n c p : Nat) (X : Hd) : Prop where
  bl : Below w.heap.size w W
  ab : Ab W w.heap.size A a n c
  hk : Hk W p X
theorem Sy.below {w W W' : World} {A : Ac} {a : Option Addr} {n c p : Nat} {X : Hd} (h : Sy w W A a n c p X) (hb : Below W.heap.size W W') : Sy w W' A a n c p X :=
  ⟨h.bl.trans (hb.mono h.bl.size), h.ab.below hb, h.hk.below hb⟩
theorem rh_yes {l : List Rt} {g node : Int} {A : Ac} {z : Bool} (h : rhE l g A node z = 0) : z = false ∧ heldE l g A node = 0 ∧ A.rd = 0 ∧ rhH l g A node z = heldH l g A node := by
  have hX : rhH l g A node z = heldH l g A node := by unfold rhH; rw [if_pos h]
  unfold rhE at h
  by_cases h1 : heldE l g A node = 21
  · rw [if_pos h1] at h; omega
  · rw [if_neg h1] at h
    cases z
    · rw [if_neg (by simp)] at h
      by_cases h2 : heldE l g A node = 0
      · rw [if_pos h2] at h
        by_cases h3 : A.rd = 0
        · exact ⟨rfl, h2, h3, hX⟩
        · rw [if_neg h3] at h; omega
      · rw [if_neg h2] at h; exact absurd h h2
    · rw [if_pos rfl] at h; omega
theorem netv_of {l : List Rt} {g node : Int} {A : Ac} (hw : AcW A) (hlw : ∀ x ∈ l, RtW x) (h : heldE l g A node = 0) : netV l g A.key (heldH l g A node).ls = (heldR l g A node).nt := by
  have hf := held_facts hw hlw h
  unfold netV
  rw [if_pos (led_iff.2 hf.2.1), hf.2.2.2.2.1]
set_option maxRecDepth 100000 in
set_option maxHeartbeats 8000000 in
theorem rspend_z {w : World} {b a : Option Addr} {m d n c : Nat} {l : List Rt} {g node v E : Int} {A : Ac} (hl : Rs w b m l) (hlw : ∀ x ∈ l, RtW x) (h : Hs w a n A.hs) (hw : AcW A) (hv0 : v = 0) (e1 : rhE l g A node true = E) (e2 : ¬ E = 0) :
    Calls Try.prog 27 #[.slice b m d, .int .i64 g, .agg #[.string A.key, .int .i64 A.lo, .int .i64 A.hi, .int .i64 A.base, .int .i64 A.rd, .slice a n c, .int .i64 A.lk.c, .int .i64 A.lk.s, .int .i64 A.lk.h, .int .i64 A.lk.n], .int .i64 node, .int .i64 v] w fun e w' => e = .returned (.tuple #[.agg #[.int .i64 0, .string ⟨#[]⟩, .int .i64 0, .int .i64 0], .int .i64 E]) ∧ Below w.heap.size w w' := by
  have RH := fun W => hide (fun hW : Below w.heap.size w W => rheld_x (d := d) (c := c) (hl.below hW) (h.below hW) hw e1 rfl)
  generalize rhH l g A node true = X at RH
  have kE : (E != (0 : Int)) = true := by simpa using e2
  subst hv0
  clear hl hlw h hw e1 e2
  obtain ⟨w1, ew, hb1, ha1, hz1⟩ := acc_rt w A a n c
  have HB1 := hide hb1
  have HA1 := hide ha1
  have HZ1 := hide hz1
  obtain ⟨z0, z1, z2, z3, z4, z5, z6, z7, z8, z9⟩ := HA1.out.at_
  clear hb1 ha1 hz1
  go_enter Try.func27, Try.ntmps27
  go_wp2_with fail
  rw [← ew]
  clear ew
  refine ((RH _).out HB1.out).mono ?_
  rintro e w2 ⟨rfl, hb⟩
  have HB2 : Hid (Below w.heap.size w w2) := HB1.out.trans (hb.mono HB1.out.size)
  have HA2 := hide (HA1.out.below hb)
  have HZ2 := hide (HZ1.out.below hb)
  have hzl : w.heap.size + 1 < w2.heap.size := HZ2.out.lt
  have hal : w.heap.size < w2.heap.size := HA2.out.lt
  clear hb z0 z1 z2 z3 z4 z5 z6 z7 z8 z9 RH HB1 HA1 HZ1
  obtain ⟨w3, e3, hb3, hk3⟩ := hk_new w2 X
  have HS : Hid (Sy w w3 A a n c w2.heap.size X) := ⟨HB2.out.trans (hb3.mono HB2.out.size), HA2.out.below hb3, hk3⟩
  have HZ := hide (HZ2.out.below hb3)
  clear hb3 hk3 HB2 HA2 HZ2
  go_upto_region 2 with fail
  rw [← e3]
  clear e3
  obtain ⟨p, ep⟩ : ∃ p, p = w2.heap.size := ⟨_, rfl⟩
  rw [← ep] at HS hal hzl ⊢
  clear ep
  obtain ⟨z0, z1, z2, z3, z4, z5, z6, z7, z8, z9⟩ := HS.out.ab.at_
  obtain ⟨x0, x1, x2, x3⟩ := HS.out.hk.at_
  go_upto_region 3 with fail
  go_wp2_with (refine wpList_store_row rfl 43 (.tmp 10) (.tmp 27) rfl (w.heap.size + 1) #[.int .i64 0, .string ⟨#[]⟩, .int .i64 0, .int .i64 0] rfl rfl 43 #[.int .i64 0, .string ⟨#[]⟩, .int .i64 0, .int .i64 0] HZ.out.row rt_info rfl (by simp [Value.oneCell']) ?_)
  refine bodyPost_ret (v := .tuple #[.agg #[.int .i64 0, .string ⟨#[]⟩, .int .i64 0, .int .i64 0], .int .i64 E]) ?r ?d ?_
  case r => exact results_cell_tmp' rfl _ _ (w.heap.size + 1) 43 #[.int .i64 0, .string ⟨#[]⟩, .int .i64 0, .int .i64 0] (0, 0) _ (.int .i64 E) rfl rfl (setRow_heap _ _ _ _ _ _ HZ.out.row) Try.underlying43 rfl rt_info
  case d => rfl
  exact ⟨rfl, below_setRow HS.out.bl (by omega) _⟩
set_option maxRecDepth 100000 in
set_option maxHeartbeats 8000000 in
theorem rspend_n {w : World} {b a : Option Addr} {m d n c : Nat} {l : List Rt} {g node v E : Int} {A : Ac} (hl : Rs w b m l) (hlw : ∀ x ∈ l, RtW x) (h : Hs w a n A.hs) (hw : AcW A) (hv0 : ¬ v = 0) (e1 : rhE l g A node false = E) (e2 : ¬ E = 0) :
    Calls Try.prog 27 #[.slice b m d, .int .i64 g, .agg #[.string A.key, .int .i64 A.lo, .int .i64 A.hi, .int .i64 A.base, .int .i64 A.rd, .slice a n c, .int .i64 A.lk.c, .int .i64 A.lk.s, .int .i64 A.lk.h, .int .i64 A.lk.n], .int .i64 node, .int .i64 v] w fun e w' => e = .returned (.tuple #[.agg #[.int .i64 0, .string ⟨#[]⟩, .int .i64 0, .int .i64 0], .int .i64 E]) ∧ Below w.heap.size w w' := by
  have RH := fun W => hide (fun hW : Below w.heap.size w W => rheld_x (d := d) (c := c) (hl.below hW) (h.below hW) hw e1 rfl)
  generalize rhH l g A node false = X at RH
  have kE : (E != (0 : Int)) = true := by simpa using e2
  have kv : (v == (0 : Int)) = false := by simpa using hv0
  clear hl hlw h hw e1 e2 hv0
  obtain ⟨w1, ew, hb1, ha1, hz1⟩ := acc_rt w A a n c
  have HB1 := hide hb1
  have HA1 := hide ha1
  have HZ1 := hide hz1
  obtain ⟨z0, z1, z2, z3, z4, z5, z6, z7, z8, z9⟩ := HA1.out.at_
  clear hb1 ha1 hz1
  go_enter Try.func27, Try.ntmps27
  go_wp2_with fail
  rw [← ew]
  clear ew
  refine ((RH _).out HB1.out).mono ?_
  rintro e w2 ⟨rfl, hb⟩
  have HB2 : Hid (Below w.heap.size w w2) := HB1.out.trans (hb.mono HB1.out.size)
  have HA2 := hide (HA1.out.below hb)
  have HZ2 := hide (HZ1.out.below hb)
  have hzl : w.heap.size + 1 < w2.heap.size := HZ2.out.lt
  have hal : w.heap.size < w2.heap.size := HA2.out.lt
  clear hb z0 z1 z2 z3 z4 z5 z6 z7 z8 z9 RH HB1 HA1 HZ1
  obtain ⟨w3, e3, hb3, hk3⟩ := hk_new w2 X
  have HS : Hid (Sy w w3 A a n c w2.heap.size X) := ⟨HB2.out.trans (hb3.mono HB2.out.size), HA2.out.below hb3, hk3⟩
  have HZ := hide (HZ2.out.below hb3)
  clear hb3 hk3 HB2 HA2 HZ2
  go_upto_region 2 with fail
  rw [← e3]
  clear e3
  obtain ⟨p, ep⟩ : ∃ p, p = w2.heap.size := ⟨_, rfl⟩
  rw [← ep] at HS hal hzl ⊢
  clear ep
  obtain ⟨z0, z1, z2, z3, z4, z5, z6, z7, z8, z9⟩ := HS.out.ab.at_
  obtain ⟨x0, x1, x2, x3⟩ := HS.out.hk.at_
  go_upto_region 3 with fail
  go_wp2_with (refine wpList_store_row rfl 43 (.tmp 10) (.tmp 27) rfl (w.heap.size + 1) #[.int .i64 0, .string ⟨#[]⟩, .int .i64 0, .int .i64 0] rfl rfl 43 #[.int .i64 0, .string ⟨#[]⟩, .int .i64 0, .int .i64 0] HZ.out.row rt_info rfl (by simp [Value.oneCell']) ?_)
  refine bodyPost_ret (v := .tuple #[.agg #[.int .i64 0, .string ⟨#[]⟩, .int .i64 0, .int .i64 0], .int .i64 E]) ?r ?d ?_
  case r => exact results_cell_tmp' rfl _ _ (w.heap.size + 1) 43 #[.int .i64 0, .string ⟨#[]⟩, .int .i64 0, .int .i64 0] (0, 0) _ (.int .i64 E) rfl rfl (setRow_heap _ _ _ _ _ _ HZ.out.row) Try.underlying43 rfl rt_info
  case d => rfl
  exact ⟨rfl, below_setRow HS.out.bl (by omega) _⟩
set_option maxRecDepth 100000 in
set_option maxHeartbeats 8000000 in
theorem rspend_b {w : World} {b a : Option Addr} {m d n c : Nat} {l : List Rt} {g node v E : Int} {A : Ac} (hl : Rs w b m l) (hlw : ∀ x ∈ l, RtW x) (h : Hs w a n A.hs) (hw : AcW A) (hv : I64 v) (hv0 : ¬ v = 0) (e1 : rhE l g A node false = 0) (e2 : spB (heldH l g A node) ((heldR l g A node).nt + v) = false) :
    Calls Try.prog 27 #[.slice b m d, .int .i64 g, .agg #[.string A.key, .int .i64 A.lo, .int .i64 A.hi, .int .i64 A.base, .int .i64 A.rd, .slice a n c, .int .i64 A.lk.c, .int .i64 A.lk.s, .int .i64 A.lk.h, .int .i64 A.lk.n], .int .i64 node, .int .i64 v] w fun e w' => e = .returned (.tuple #[.agg #[.int .i64 0, .string ⟨#[]⟩, .int .i64 0, .int .i64 0], .int .i64 150]) ∧ Below w.heap.size w w' := by
  obtain ⟨_, h0, h3, hX⟩ := rh_yes e1
  have hf := held_facts hw hlw h0
  have hn := hf.2.2.2.2.2.1
  have RH := fun W => hide (fun hW : Below w.heap.size w W => rheld_x (d := d) (c := c) (hl.below hW) (h.below hW) hw e1 hX)
  have NT := fun W => hide (fun hW : Below w.heap.size w W => rnet_v (c := d) (hl.below hW) (netv_of hw hlw h0))
  have WI := fun W => hide (rwithin_x W hf.2.2.2.2.2.2.1 hn hv e2)
  have kv : (v == (0 : Int)) = false := by simpa using hv0
  clear hl hlw h hw e1 e2 hv0 hf hn h0 h3 hX hv
  generalize heldH l g A node = X at *
  generalize (heldR l g A node).nt = net at *
  obtain ⟨w1, ew, hb1, ha1, hz1⟩ := acc_rt w A a n c
  have HB1 := hide hb1
  have HA1 := hide ha1
  have HZ1 := hide hz1
  obtain ⟨z0, z1, z2, z3, z4, z5, z6, z7, z8, z9⟩ := HA1.out.at_
  clear hb1 ha1 hz1
  go_enter Try.func27, Try.ntmps27
  go_wp2_with fail
  rw [← ew]
  clear ew
  refine ((RH _).out HB1.out).mono ?_
  rintro e w2 ⟨rfl, hb⟩
  have HB2 : Hid (Below w.heap.size w w2) := HB1.out.trans (hb.mono HB1.out.size)
  have HA2 := hide (HA1.out.below hb)
  have HZ2 := hide (HZ1.out.below hb)
  have hzl : w.heap.size + 1 < w2.heap.size := HZ2.out.lt
  have hal : w.heap.size < w2.heap.size := HA2.out.lt
  clear hb z0 z1 z2 z3 z4 z5 z6 z7 z8 z9 RH HB1 HA1 HZ1
  obtain ⟨w3, e3, hb3, hk3⟩ := hk_new w2 X
  have HS : Hid (Sy w w3 A a n c w2.heap.size X) := ⟨HB2.out.trans (hb3.mono HB2.out.size), HA2.out.below hb3, hk3⟩
  have HZ := hide (HZ2.out.below hb3)
  clear hb3 hk3 HB2 HA2 HZ2
  go_upto_region 2 with fail
  rw [← e3]
  clear e3
  obtain ⟨p, ep⟩ : ∃ p, p = w2.heap.size := ⟨_, rfl⟩
  rw [← ep] at HS hal hzl ⊢
  clear ep
  obtain ⟨z0, z1, z2, z3, z4, z5, z6, z7, z8, z9⟩ := HS.out.ab.at_
  obtain ⟨x0, x1, x2, x3⟩ := HS.out.hk.at_
  go_wp2_with fail
  refine ((NT _).out HS.out.bl).mono ?_
  rintro e w4 ⟨rfl, hb⟩
  have HS4 := hide (HS.out.below hb)
  have HZ4 := hide (HZ.out.below hb)
  clear hb x0 x1 x2 x3 z0 z1 z2 z3 z4 z5 z6 z7 z8 z9
  obtain ⟨x0, x1, x2, x3⟩ := HS4.out.hk.at_
  go_wp2_with fail
  refine (WI _).out.mono ?_
  rintro e w5 ⟨rfl, hb⟩
  have HS5 := hide (HS4.out.below hb)
  have HZ5 := hide (HZ4.out.below hb)
  clear hb x0 x1 x2 x3 NT WI HS HZ HS4 HZ4
  obtain ⟨z0, z1, z2, z3, z4, z5, z6, z7, z8, z9⟩ := HS5.out.ab.at_
  obtain ⟨x0, x1, x2, x3⟩ := HS5.out.hk.at_
  go_upto_region 6 with fail
  go_wp2_with (refine wpList_store_row rfl 43 (.tmp 10) (.tmp 41) rfl (w.heap.size + 1) #[.int .i64 0, .string ⟨#[]⟩, .int .i64 0, .int .i64 0] rfl rfl 43 #[.int .i64 0, .string ⟨#[]⟩, .int .i64 0, .int .i64 0] HZ5.out.row rt_info rfl (by simp [Value.oneCell']) ?_)
  refine bodyPost_ret (v := .tuple #[.agg #[.int .i64 0, .string ⟨#[]⟩, .int .i64 0, .int .i64 0], .int .i64 150]) ?r ?d ?_
  case r => exact results_cell_tmp' rfl _ _ (w.heap.size + 1) 43 #[.int .i64 0, .string ⟨#[]⟩, .int .i64 0, .int .i64 0] (0, 0) _ (.int .i64 150) rfl rfl (setRow_heap _ _ _ _ _ _ HZ5.out.row) Try.underlying43 rfl rt_info
  case d => rfl
  exact ⟨rfl, below_setRow HS5.out.bl (by omega) _⟩
set_option maxRecDepth 100000 in
set_option maxHeartbeats 8000000 in
theorem rspend_y {w : World} {b a : Option Addr} {m d n c : Nat} {l : List Rt} {g node v E : Int} {A : Ac} (hl : Rs w b m l) (hlw : ∀ x ∈ l, RtW x) (h : Hs w a n A.hs) (hw : AcW A) (hv : I64 v) (hv0 : ¬ v = 0) (e1 : rhE l g A node false = 0) (e2 : spB (heldH l g A node) ((heldR l g A node).nt + v) = true) :
    Calls Try.prog 27 #[.slice b m d, .int .i64 g, .agg #[.string A.key, .int .i64 A.lo, .int .i64 A.hi, .int .i64 A.base, .int .i64 A.rd, .slice a n c, .int .i64 A.lk.c, .int .i64 A.lk.s, .int .i64 A.lk.h, .int .i64 A.lk.n], .int .i64 node, .int .i64 v] w fun e w' => e = .returned (.tuple #[.agg #[.int .i64 g, .string A.key, .int .i64 (heldH l g A node).ls, .int .i64 ((heldR l g A node).nt + v)], .int .i64 0]) ∧ Below w.heap.size w w' := by
  obtain ⟨_, h0, h3, hX⟩ := rh_yes e1
  have hf := held_facts hw hlw h0
  have hn := hf.2.2.2.2.2.1
  have RH := fun W => hide (fun hW : Below w.heap.size w W => rheld_x (d := d) (c := c) (hl.below hW) (h.below hW) hw e1 hX)
  have NT := fun W => hide (fun hW : Below w.heap.size w W => rnet_v (c := d) (hl.below hW) (netv_of hw hlw h0))
  have WI := fun W => hide (rwithin_x W hf.2.2.2.2.2.2.1 hn hv e2)
  have hy : I64 ((heldR l g A node).nt + v) := by
    have hX := hf.2.2.2.2.2.2.1
    have := of_decide_eq_true (show decide _ = true from e2)
    have := hX.up
    have := hX.dn
    unfold I64 at *
    omega
  have vw : IntKind.i64.wrap ((heldR l g A node).nt + v) = (heldR l g A node).nt + v := by
    unfold I64 at hy
    rw [IntKind.wrap_i64]
    omega
  clear hy
  have kv : (v == (0 : Int)) = false := by simpa using hv0
  clear hl hlw h hw e1 e2 hv0 hf hn h0 h3 hX hv
  generalize heldH l g A node = X at *
  generalize (heldR l g A node).nt = net at *
  obtain ⟨w1, ew, hb1, ha1, hz1⟩ := acc_rt w A a n c
  have HB1 := hide hb1
  have HA1 := hide ha1
  have HZ1 := hide hz1
  obtain ⟨z0, z1, z2, z3, z4, z5, z6, z7, z8, z9⟩ := HA1.out.at_
  clear hb1 ha1 hz1
  go_enter Try.func27, Try.ntmps27
  go_wp2_with fail
  rw [← ew]
  clear ew
  refine ((RH _).out HB1.out).mono ?_
  rintro e w2 ⟨rfl, hb⟩
  have HB2 : Hid (Below w.heap.size w w2) := HB1.out.trans (hb.mono HB1.out.size)
  have HA2 := hide (HA1.out.below hb)
  have HZ2 := hide (HZ1.out.below hb)
  have hzl : w.heap.size + 1 < w2.heap.size := HZ2.out.lt
  have hal : w.heap.size < w2.heap.size := HA2.out.lt
  clear hb z0 z1 z2 z3 z4 z5 z6 z7 z8 z9 RH HB1 HA1 HZ1
  obtain ⟨w3, e3, hb3, hk3⟩ := hk_new w2 X
  have HS : Hid (Sy w w3 A a n c w2.heap.size X) := ⟨HB2.out.trans (hb3.mono HB2.out.size), HA2.out.below hb3, hk3⟩
  have HZ := hide (HZ2.out.below hb3)
  clear hb3 hk3 HB2 HA2 HZ2
  go_upto_region 2 with fail
  rw [← e3]
  clear e3
  obtain ⟨p, ep⟩ : ∃ p, p = w2.heap.size := ⟨_, rfl⟩
  rw [← ep] at HS hal hzl ⊢
  clear ep
  obtain ⟨z0, z1, z2, z3, z4, z5, z6, z7, z8, z9⟩ := HS.out.ab.at_
  obtain ⟨x0, x1, x2, x3⟩ := HS.out.hk.at_
  go_wp2_with fail
  refine ((NT _).out HS.out.bl).mono ?_
  rintro e w4 ⟨rfl, hb⟩
  have HS4 := hide (HS.out.below hb)
  have HZ4 := hide (HZ.out.below hb)
  clear hb x0 x1 x2 x3 z0 z1 z2 z3 z4 z5 z6 z7 z8 z9
  obtain ⟨x0, x1, x2, x3⟩ := HS4.out.hk.at_
  go_wp2_with fail
  refine (WI _).out.mono ?_
  rintro e w5 ⟨rfl, hb⟩
  have HS5 := hide (HS4.out.below hb)
  have HZ5 := hide (HZ4.out.below hb)
  clear hb x0 x1 x2 x3 NT WI HS HZ HS4 HZ4
  obtain ⟨z0, z1, z2, z3, z4, z5, z6, z7, z8, z9⟩ := HS5.out.ab.at_
  obtain ⟨x0, x1, x2, x3⟩ := HS5.out.hk.at_
  go_upto_region 7 with fail
  go_wp2_with (refine wpList_store_row rfl 43 (.tmp 10) (.tmp 50) rfl (w.heap.size + 1) #[.int .i64 g, .string A.key, .int .i64 X.ls, .int .i64 (net + v)] rfl rfl 43 #[.int .i64 0, .string ⟨#[]⟩, .int .i64 0, .int .i64 0] HZ5.out.row rt_info rfl (by simp [Value.oneCell']) ?_)
  refine bodyPost_ret (v := .tuple #[.agg #[.int .i64 g, .string A.key, .int .i64 X.ls, .int .i64 (net + v)], .int .i64 0]) ?r ?d ?_
  case r => exact results_cell_tmp' rfl _ _ (w.heap.size + 1) 43 #[.int .i64 g, .string A.key, .int .i64 X.ls, .int .i64 (net + v)] (0, 0) _ (.int .i64 0) rfl rfl (setRow_heap _ _ _ _ _ _ HZ5.out.row) Try.underlying43 rfl rt_info
  case d => rfl
  exact ⟨rfl, below_setRow HS5.out.bl (by omega) _⟩
theorem rspend_x {w : World} {b a : Option Addr} {m d n c : Nat} {l : List Rt} {g node v E : Int} {A : Ac} {R : Rt} (hl : Rs w b m l) (hlw : ∀ x ∈ l, RtW x) (h : Hs w a n A.hs) (hw : AcW A) (hv : I64 v) (eE : spendE l g A node v = E) (eR : spendR l g A node v = R) :
    Calls Try.prog 27 #[.slice b m d, .int .i64 g, .agg #[.string A.key, .int .i64 A.lo, .int .i64 A.hi, .int .i64 A.base, .int .i64 A.rd, .slice a n c, .int .i64 A.lk.c, .int .i64 A.lk.s, .int .i64 A.lk.h, .int .i64 A.lk.n], .int .i64 node, .int .i64 v] w fun e w' => e = .returned (.tuple #[.agg #[.int .i64 R.g, .string R.k, .int .i64 R.ls, .int .i64 R.nt], .int .i64 E]) ∧ Below w.heap.size w w' := by
  subst eE
  subst eR
  by_cases h0 : rhE l g A node (decide (v = 0)) = 0
  · obtain ⟨z1, z2, z3, z4⟩ := rh_yes h0
    have hv0 : ¬ v = 0 := by simpa using z1
    rw [z1] at h0
    have hf := held_facts hw hlw z2
    cases h5 : spB (heldH l g A node) ((heldR l g A node).nt + v)
    · have e1 : spendE l g A node v = 150 := by unfold spendE; rw [if_neg (by omega), if_neg hv0, if_pos z2, if_pos z3, if_neg (by rw [h5]; simp)]
      have e2 : spendR l g A node v = rt0 := by unfold spendR; rw [e1]; rfl
      rw [e1, e2]
      exact rspend_b (E := 0) hl hlw h hw hv hv0 h0 h5
    · have e1 : spendE l g A node v = 0 := by unfold spendE; rw [if_neg (by omega), if_neg hv0, if_pos z2, if_pos z3, if_pos h5]
      have e2 : spendR l g A node v = ⟨g, A.key, (heldH l g A node).ls, (heldR l g A node).nt + v⟩ := by unfold spendR; rw [if_pos e1, hf.2.2.2.2.1]
      rw [e1, e2]
      exact rspend_y (E := 0) hl hlw h hw hv hv0 h0 h5
  · have e1 : spendE l g A node v = rhE l g A node (decide (v = 0)) := by
      unfold spendE rhE
      by_cases a1 : heldE l g A node = 21
      · simp [a1]
      · by_cases a2 : v = 0
        · simp [a1, a2]
        · by_cases a3 : heldE l g A node = 0
          · by_cases a4 : A.rd = 0
            · exfalso
              apply h0
              unfold rhE
              simp [a2, a3, a4]
            · simp [a2, a3, a4]
          · simp [a1, a2, a3]
    have e2 : spendR l g A node v = rt0 := by unfold spendR; rw [if_neg (by rw [e1]; exact h0)]
    rw [e2]
    by_cases hv0 : v = 0
    · exact rspend_z hl hlw h hw hv0 (by rw [e1, decide_eq_true hv0]) (by rw [e1]; exact h0)
    · exact rspend_n hl hlw h hw hv0 (by rw [e1, decide_eq_false hv0]) (by rw [e1]; exact h0)
theorem of_three {w : World} {b : Nat} {x y z : Int} (h0 : w.cell? ⟨b, 0, none⟩ = some (.int .i64 x)) (h1 : w.cell? ⟨b, 1, none⟩ = some (.int .i64 y)) (h2 : w.cell? ⟨b, 2, none⟩ = some (.int .i64 z)) (hx : I64 x) (hy : I64 y) (hz : I64 z) :
    Calls Try.prog 72 #[.slice (some ⟨b, 0, none⟩) 3 3] w fun e w' => e = .returned (.agg #[.int .i64 (hiOf (x + (y + z))), .int .u64 (loOf (x + (y + z)))]) ∧ Below w.heap.size w w' := by
  have hi : ints [x, y, z] := fun j => by
    rcases j with _ | _ | _ | j
    · exact hx
    · exact hy
    · exact hz
    · simp
  have := of_any b 0 3 3 [x, y, z] w (World.block_lt_of_cell? w ⟨b, 0, none⟩ h0) (by simp) (by omega) hi (fun j hj => by
    have : j = 0 ∨ j = 1 ∨ j = 2 := by have : j < 3 := by simpa using hj
                                       omega
    rcases this with rfl | rfl | rfl
    · simpa using h0
    · simpa using h1
    · simpa using h2)
  simpa using this
theorem arr_three (u : World) (x y z : Int) : ∃ v, v = u.alloc (.cells #[.int .i64 x, .int .i64 y, .int .i64 z] 3) ∧ Below u.heap.size u v ∧ v.cell? ⟨u.heap.size, 0, none⟩ = some (.int .i64 x) ∧ v.cell? ⟨u.heap.size, 1, none⟩ = some (.int .i64 y) ∧ v.cell? ⟨u.heap.size, 2, none⟩ = some (.int .i64 z) := by
  refine ⟨_, rfl, Below.alloc (Below.refl _ _) (Nat.le_refl _) _, ?_, ?_, ?_⟩ <;> (rw [cell_of_row _ _ _ _ _ _ (heap_alloc_new u _)]; rfl)
theorem arr_two' (u : World) (x y : Int) : ∃ (v : World) (g : Nat), v = u.alloc (.cells #[.int .i64 x, .int .i64 y] 3) ∧ g = u.heap.size ∧ Below u.heap.size u v ∧ v.cell? ⟨g, 0, none⟩ = some (.int .i64 x) ∧ v.cell? ⟨g, 1, none⟩ = some (.int .i64 y) := by
  obtain ⟨v, e, hb, h0, h1⟩ := arr_two u x y
  exact ⟨v, _, e, rfl, hb, h0, h1⟩
set_option maxRecDepth 100000 in
set_option maxHeartbeats 8000000 in
theorem rbracket_n {w : World} {b a : Option Addr} {m d n c : Nat} {l : List Rt} {g node v E : Int} {A : Ac} (hl : Rs w b m l) (hlw : ∀ x ∈ l, RtW x) (h : Hs w a n A.hs) (hw : AcW A) (e1 : rhE l g A node false = E) (e2 : ¬ E = 0) :
    Calls Try.prog 29 #[.slice b m d, .int .i64 g, .agg #[.string A.key, .int .i64 A.lo, .int .i64 A.hi, .int .i64 A.base, .int .i64 A.rd, .slice a n c, .int .i64 A.lk.c, .int .i64 A.lk.s, .int .i64 A.lk.h, .int .i64 A.lk.n], .int .i64 node] w fun e w' => e = .returned (.tuple #[.int .i64 0, .int .i64 0, .int .i64 E]) ∧ Below w.heap.size w w' := by
  have RH := fun W => hide (fun hW : Below w.heap.size w W => rheld_x (d := d) (c := c) (hl.below hW) (h.below hW) hw e1 rfl)
  generalize rhH l g A node false = X at RH
  have kE : (E != (0 : Int)) = true := by simpa using e2
  clear hl hlw h hw e1 e2
  obtain ⟨w1, ew, hb1, ha1⟩ := one_new w A a n c
  have HB1 := hide hb1
  have HA1 := hide ha1
  obtain ⟨z0, z1, z2, z3, z4, z5, z6, z7, z8, z9⟩ := HA1.out.at_
  clear hb1 ha1
  go_enter Try.func29, Try.ntmps29
  go_wp2_with fail
  rw [← ew]
  clear ew
  refine ((RH _).out HB1.out).mono ?_
  rintro e w2 ⟨rfl, hb⟩
  have HB2 : Hid (Below w.heap.size w w2) := HB1.out.trans (hb.mono HB1.out.size)
  have HA2 := hide (HA1.out.below hb)
  have hal : w.heap.size < w2.heap.size := HA2.out.lt
  clear hb z0 z1 z2 z3 z4 z5 z6 z7 z8 z9 RH HB1 HA1
  obtain ⟨w3, e3, hb3, hk3⟩ := hk_new w2 X
  have HS : Hid (Sy w w3 A a n c w2.heap.size X) := ⟨HB2.out.trans (hb3.mono HB2.out.size), HA2.out.below hb3, hk3⟩
  clear hb3 hk3 HB2 HA2
  go_upto_region 2 with fail
  rw [← e3]
  clear e3
  obtain ⟨p, ep⟩ : ∃ p, p = w2.heap.size := ⟨_, rfl⟩
  rw [← ep] at HS hal ⊢
  clear ep
  obtain ⟨z0, z1, z2, z3, z4, z5, z6, z7, z8, z9⟩ := HS.out.ab.at_
  obtain ⟨x0, x1, x2, x3⟩ := HS.out.hk.at_
  go_wp2_with fail
  go_returns
  exact ⟨rfl, HS.out.bl⟩
set_option maxRecDepth 100000 in
set_option maxHeartbeats 8000000 in
theorem rbracket_b {w : World} {b a : Option Addr} {m d n c : Nat} {l : List Rt} {g node v E : Int} {A : Ac} (hl : Rs w b m l) (hlw : ∀ x ∈ l, RtW x) (h : Hs w a n A.hs) (hw : AcW A) (e1 : rhE l g A node false = 0) (e2 : spB (heldH l g A node) (heldR l g A node).nt = false) :
    Calls Try.prog 29 #[.slice b m d, .int .i64 g, .agg #[.string A.key, .int .i64 A.lo, .int .i64 A.hi, .int .i64 A.base, .int .i64 A.rd, .slice a n c, .int .i64 A.lk.c, .int .i64 A.lk.s, .int .i64 A.lk.h, .int .i64 A.lk.n], .int .i64 node] w fun e w' => e = .returned (.tuple #[.int .i64 0, .int .i64 0, .int .i64 150]) ∧ Below w.heap.size w w' := by
  obtain ⟨_, h0, h3, hX⟩ := rh_yes e1
  have hf := held_facts hw hlw h0
  have hn := hf.2.2.2.2.2.1
  have RH := fun W => hide (fun hW : Below w.heap.size w W => rheld_x (d := d) (c := c) (hl.below hW) (h.below hW) hw e1 hX)
  have NT := fun W => hide (fun hW : Below w.heap.size w W => rnet_v (c := d) (hl.below hW) (netv_of hw hlw h0))
  have WI := fun W => hide (rwithin_x (b := false) W hf.2.2.2.2.2.2.1 hn (show I64 0 from ⟨by decide, by decide⟩) (by rw [Int.add_zero]; exact e2))
  clear hl hlw h hw e1 e2 hf hn h0 h3 hX
  generalize heldH l g A node = X at *
  generalize (heldR l g A node).nt = net at *
  obtain ⟨w1, ew, hb1, ha1⟩ := one_new w A a n c
  have HB1 := hide hb1
  have HA1 := hide ha1
  obtain ⟨z0, z1, z2, z3, z4, z5, z6, z7, z8, z9⟩ := HA1.out.at_
  clear hb1 ha1
  go_enter Try.func29, Try.ntmps29
  go_wp2_with fail
  rw [← ew]
  clear ew
  refine ((RH _).out HB1.out).mono ?_
  rintro e w2 ⟨rfl, hb⟩
  have HB2 : Hid (Below w.heap.size w w2) := HB1.out.trans (hb.mono HB1.out.size)
  have HA2 := hide (HA1.out.below hb)
  have hal : w.heap.size < w2.heap.size := HA2.out.lt
  clear hb z0 z1 z2 z3 z4 z5 z6 z7 z8 z9 RH HB1 HA1
  obtain ⟨w3, e3, hb3, hk3⟩ := hk_new w2 X
  have HS : Hid (Sy w w3 A a n c w2.heap.size X) := ⟨HB2.out.trans (hb3.mono HB2.out.size), HA2.out.below hb3, hk3⟩
  clear hb3 hk3 HB2 HA2
  go_upto_region 2 with fail
  rw [← e3]
  clear e3
  obtain ⟨p, ep⟩ : ∃ p, p = w2.heap.size := ⟨_, rfl⟩
  rw [← ep] at HS hal ⊢
  clear ep
  obtain ⟨z0, z1, z2, z3, z4, z5, z6, z7, z8, z9⟩ := HS.out.ab.at_
  obtain ⟨x0, x1, x2, x3⟩ := HS.out.hk.at_
  go_wp2_with fail
  refine ((NT _).out HS.out.bl).mono ?_
  rintro e w4 ⟨rfl, hb⟩
  have HS4 := hide (HS.out.below hb)
  clear hb x0 x1 x2 x3 z0 z1 z2 z3 z4 z5 z6 z7 z8 z9
  obtain ⟨x0, x1, x2, x3⟩ := HS4.out.hk.at_
  go_wp2_with fail
  refine (WI _).out.mono ?_
  rintro e w5 ⟨rfl, hb⟩
  have HS5 := hide (HS4.out.below hb)
  clear hb x0 x1 x2 x3 NT WI HS HS4
  obtain ⟨z0, z1, z2, z3, z4, z5, z6, z7, z8, z9⟩ := HS5.out.ab.at_
  obtain ⟨x0, x1, x2, x3⟩ := HS5.out.hk.at_
  go_wp2_with fail
  go_returns
  exact ⟨rfl, HS5.out.bl⟩
set_option maxRecDepth 100000 in
set_option maxHeartbeats 8000000 in
theorem rbracket_y {w : World} {b a : Option Addr} {m d n c : Nat} {l : List Rt} {g node v E : Int} {A : Ac} (hl : Rs w b m l) (hlw : ∀ x ∈ l, RtW x) (h : Hs w a n A.hs) (hw : AcW A) (e1 : rhE l g A node false = 0) (e2 : spB (heldH l g A node) (heldR l g A node).nt = true) :
    Calls Try.prog 29 #[.slice b m d, .int .i64 g, .agg #[.string A.key, .int .i64 A.lo, .int .i64 A.hi, .int .i64 A.base, .int .i64 A.rd, .slice a n c, .int .i64 A.lk.c, .int .i64 A.lk.s, .int .i64 A.lk.h, .int .i64 A.lk.n], .int .i64 node] w fun e w' => e = .returned (.tuple #[.int .i64 (A.lo + (heldH l g A node).dn + (heldR l g A node).nt), .int .i64 (A.hi - (heldH l g A node).up + (heldR l g A node).nt), .int .i64 0]) ∧ Below w.heap.size w w' := by
  obtain ⟨_, h0, h3, hX⟩ := rh_yes e1
  have hf := held_facts hw hlw h0
  have hn := hf.2.2.2.2.2.1
  have RH := fun W => hide (fun hW : Below w.heap.size w W => rheld_x (d := d) (c := c) (hl.below hW) (h.below hW) hw e1 hX)
  have NT := fun W => hide (fun hW : Below w.heap.size w W => rnet_v (c := d) (hl.below hW) (netv_of hw hlw h0))
  have WI := fun W => hide (rwithin_x (b := true) W hf.2.2.2.2.2.2.1 hn (show I64 0 from ⟨by decide, by decide⟩) (by rw [Int.add_zero]; exact e2))
  have B := br_facts hw hlw h0 e2
  have HXW := hide hf.2.2.2.2.2.2.1
  have HNW := hide hn
  have HAW := hide hw
  have HBB := hide B
  clear B
  clear hl hlw h hw e1 e2 hf hn h0 h3 hX
  generalize heldH l g A node = X at *
  generalize (heldR l g A node).nt = net at *
  obtain ⟨w1, ew, hb1, ha1⟩ := one_new w A a n c
  have HB1 := hide hb1
  have HA1 := hide ha1
  obtain ⟨z0, z1, z2, z3, z4, z5, z6, z7, z8, z9⟩ := HA1.out.at_
  clear hb1 ha1
  go_enter Try.func29, Try.ntmps29
  go_wp2_with fail
  rw [← ew]
  clear ew
  refine ((RH _).out HB1.out).mono ?_
  rintro e w2 ⟨rfl, hb⟩
  have HB2 : Hid (Below w.heap.size w w2) := HB1.out.trans (hb.mono HB1.out.size)
  have HA2 := hide (HA1.out.below hb)
  have hal : w.heap.size < w2.heap.size := HA2.out.lt
  clear hb z0 z1 z2 z3 z4 z5 z6 z7 z8 z9 RH HB1 HA1
  obtain ⟨w3, e3, hb3, hk3⟩ := hk_new w2 X
  have HS : Hid (Sy w w3 A a n c w2.heap.size X) := ⟨HB2.out.trans (hb3.mono HB2.out.size), HA2.out.below hb3, hk3⟩
  clear hb3 hk3 HB2 HA2
  go_upto_region 2 with fail
  rw [← e3]
  clear e3
  obtain ⟨p, ep⟩ : ∃ p, p = w2.heap.size := ⟨_, rfl⟩
  rw [← ep] at HS hal ⊢
  clear ep
  obtain ⟨z0, z1, z2, z3, z4, z5, z6, z7, z8, z9⟩ := HS.out.ab.at_
  obtain ⟨x0, x1, x2, x3⟩ := HS.out.hk.at_
  go_wp2_with fail
  refine ((NT _).out HS.out.bl).mono ?_
  rintro e w4 ⟨rfl, hb⟩
  have HS4 := hide (HS.out.below hb)
  clear hb x0 x1 x2 x3 z0 z1 z2 z3 z4 z5 z6 z7 z8 z9
  obtain ⟨x0, x1, x2, x3⟩ := HS4.out.hk.at_
  go_wp2_with fail
  refine (WI _).out.mono ?_
  rintro e w5 ⟨rfl, hb⟩
  have HS5 := hide (HS4.out.below hb)
  clear hb x0 x1 x2 x3 NT WI HS HS4
  obtain ⟨z0, z1, z2, z3, z4, z5, z6, z7, z8, z9⟩ := HS5.out.ab.at_
  obtain ⟨x0, x1, x2, x3⟩ := HS5.out.hk.at_
  have hb := HBB.out
  have HXu := HXW.out.up
  have HXd := HXW.out.dn
  have HNN := HNW.out
  have HLo := HAW.out.lo
  have HHi := HAW.out.hi
  have LE := fun W => hide (less_w (z := A.hi + net) (n := X.up) W (by unfold I64 at *; omega) (by unfold I64 at *; omega) HXu)
  have I1 := fun W => hide (int_yes (A.lo + (X.dn + net)) W (by unfold I64 at *; omega) (by unfold I64 at *; omega))
  have I2 := fun W => hide (int_yes (A.hi + net - X.up) W (by unfold I64 at *; omega) (by unfold I64 at *; omega))
  have EQ1 : Hid (A.lo + X.dn + net = A.lo + (X.dn + net)) := by show _ = _; omega
  have EQ2 : Hid (A.hi - X.up + net = A.hi + net - X.up) := by show _ = _; omega
  clear hb HXu HXd HNN HLo HHi
  go_wp2_with fail
  obtain ⟨w6, e6, hb6, c0, c1, c2⟩ := arr_three w5 A.lo X.dn net
  rw [← e6]
  clear e6
  have HS6 := hide (HS5.out.below hb6)
  clear hb6 x0 x1 x2 x3 z0 z1 z2 z3 z4 z5 z6 z7 z8 z9 HS5
  refine (of_three c0 c1 c2 HAW.out.lo HXW.out.dn HNW.out).mono ?_
  rintro e w7 ⟨rfl, hb⟩
  have HS7 := hide (HS6.out.below hb)
  clear hb c0 c1 c2 HS6
  go_wp2_with fail
  refine (I1 _).out.mono ?_
  rintro e w10 ⟨rfl, hb⟩
  have HS10 := hide (HS7.out.below hb)
  clear hb HS7 I1
  go_upto_region 8 with fail
  refine region_tree (n := 15) (fun v => v.cell? ⟨w.heap.size, 2, none⟩ = some (.int .i64 A.hi) ∧ v.cell? ⟨p, 2, none⟩ = some (.int .i64 X.up)) (by kernel_rfl) (by kernel_rfl) ?_
  have HS11 := hide (HS10.out.below (below_drew1 _))
  generalize w10.drew = u11 at HS11 ⊢
  clear HS10
  have ka11 := HS11.out.ab.at_.c2
  have kb11 := HS11.out.hk.at_.2.2.1
  refine any_take 0 (v := ?_) (by kernel_rfl) (by kernel_rfl) (by kernel_rfl) rfl (fun _ _ _ h => h) (by rfl) (And.intro ka11 kb11) ?_ ?_
  rotate_left
  · (intro y hy; simp only [List.getElem_toArray, List.getElem_cons_zero]; go_simp; try with_reducible rfl)
  simp only [List.getElem_toArray, List.getElem_cons_zero, Act.put, List.setIfInBounds_toArray, List.set_cons_zero, List.set_cons_succ]
  refine any_take 1 (v := ?_) (by kernel_rfl) (by kernel_rfl) (by kernel_rfl) rfl (fun _ _ _ h => h) (by rfl) (And.intro ka11 kb11) ?_ ?_
  rotate_left
  · (intro y hy; simp only [List.getElem_toArray, List.getElem_cons_zero, List.getElem_cons_succ]; go_simp; try with_reducible rfl)
  simp only [List.getElem_toArray, List.getElem_cons_zero, List.getElem_cons_succ, Act.put, List.setIfInBounds_toArray, List.set_cons_zero, List.set_cons_succ]
  refine any_take 2 (v := ?_) (by kernel_rfl) (by kernel_rfl) (by kernel_rfl) rfl (fun _ _ _ h => h) (by rfl) (And.intro ka11 kb11) ?_ ?_
  rotate_left
  · (intro y hy; obtain ⟨q0, q1⟩ := hy; simp only [List.getElem_toArray, List.getElem_cons_zero, List.getElem_cons_succ]; go_simp; try with_reducible rfl)
  simp only [List.getElem_toArray, List.getElem_cons_zero, List.getElem_cons_succ, Act.put, List.setIfInBounds_toArray, List.set_cons_zero, List.set_cons_succ]
  refine any_take 3 (v := ?_) (by kernel_rfl) (by kernel_rfl) (by kernel_rfl) rfl (fun _ _ _ h => h) (by rfl) (And.intro ka11 kb11) ?_ ?_
  rotate_left
  · (intro y hy; simp only [List.getElem_toArray, List.getElem_cons_zero, List.getElem_cons_succ]; go_simp; try with_reducible rfl)
  simp only [List.getElem_toArray, List.getElem_cons_zero, List.getElem_cons_succ, Act.put, List.setIfInBounds_toArray, List.set_cons_zero, List.set_cons_succ]
  refine any_take 6 (v := ?_) (by kernel_rfl) (by kernel_rfl) (by kernel_rfl) rfl (fun _ _ _ h => h) (by rfl) (And.intro ka11 kb11) ?_ ?_
  rotate_left
  · (intro y hy; simp only [List.getElem_toArray, List.getElem_cons_zero, List.getElem_cons_succ]; go_simp; try with_reducible rfl)
  simp only [List.getElem_toArray, List.getElem_cons_zero, List.getElem_cons_succ, Act.put, List.setIfInBounds_toArray, List.set_cons_zero, List.set_cons_succ]
  refine any_take 7 (v := ?_) (by kernel_rfl) (by kernel_rfl) (by kernel_rfl) rfl (fun _ _ _ h => h) (by rfl) (And.intro ka11 kb11) ?_ ?_
  rotate_left
  · (intro y hy; obtain ⟨q0, q1⟩ := hy; simp only [List.getElem_toArray, List.getElem_cons_zero, List.getElem_cons_succ]; go_simp; try with_reducible rfl)
  simp only [List.getElem_toArray, List.getElem_cons_zero, List.getElem_cons_succ, Act.put, List.setIfInBounds_toArray, List.set_cons_zero, List.set_cons_succ]
  refine any_fork [4] (by kernel_rfl) (by simp) ?_
  refine fork_one ?_
  refine any_op rfl (fun K' hK => ?_)
  simp only [List.getElem_toArray, List.getElem_cons_zero, List.getElem_cons_succ]
  go_simp
  obtain ⟨u12, g4, ev, el, hb, c0, c1⟩ := arr_two' u11 A.hi net
  rw [← ev, ← el]; clear ev el; have HS12 := hide (HS11.out.below hb); clear hb HS11 ka11 kb11
  have ka12 := HS12.out.ab.at_.c2
  have kb12 := HS12.out.hk.at_.2.2.1
  refine hK _ _ ⟨(And.intro ka12 kb12), ?_⟩
  clear hK K'
  refine any_fork [5] (by kernel_rfl) (by simp) ?_
  refine fork_one ?_
  refine any_op rfl (fun K' hK => ?_)
  simp only [List.getElem_toArray, List.getElem_cons_zero, List.getElem_cons_succ]
  go_simp
  refine (of_two c0 c1 HAW.out.hi HNW.out).mono ?_; rintro e u13 ⟨rfl, hb⟩; have HS13 := hide (HS12.out.below hb); clear hb c0 c1 HS12 ka12 kb12
  have ka13 := HS13.out.ab.at_.c2
  have kb13 := HS13.out.hk.at_.2.2.1
  refine hK _ _ ⟨(And.intro ka13 kb13), ?_⟩
  clear hK K'
  refine any_fork [8] (by kernel_rfl) (by simp) ?_
  refine fork_one ?_
  refine any_op rfl (fun K' hK => ?_)
  simp only [List.getElem_toArray, List.getElem_cons_zero, List.getElem_cons_succ]
  go_simp
  refine ((LE _).out).mono ?_; rintro e u14 ⟨rfl, hb⟩; have HS14 := hide (HS13.out.below hb); clear hb HS13 ka13 kb13
  have ka14 := HS14.out.ab.at_.c2
  have kb14 := HS14.out.hk.at_.2.2.1
  refine hK _ _ ⟨(And.intro ka14 kb14), ?_⟩
  clear hK K'
  refine any_fork [9] (by kernel_rfl) (by simp) ?_
  refine fork_one ?_
  refine any_op rfl (fun K' hK => ?_)
  simp only [List.getElem_toArray, List.getElem_cons_zero, List.getElem_cons_succ]
  go_simp
  refine ((I2 _).out).mono ?_; rintro e u15 ⟨rfl, hb⟩; have HS15 := hide (HS14.out.below hb); clear hb HS14 ka14 kb14
  have ka15 := HS15.out.ab.at_.c2
  have kb15 := HS15.out.hk.at_.2.2.1
  refine hK _ _ ⟨(And.intro ka15 kb15), ?_⟩
  clear hK K'
  refine any_take 10 (v := ?_) (by kernel_rfl) (by kernel_rfl) (by kernel_rfl) rfl (fun _ _ _ h => h) (by rfl) (And.intro ka15 kb15) ?_ ?_
  rotate_left
  · (intro y hy; simp only [List.getElem_toArray, List.getElem_cons_zero, List.getElem_cons_succ]; go_simp; try with_reducible rfl)
  simp only [List.getElem_toArray, List.getElem_cons_zero, List.getElem_cons_succ, Act.put, List.setIfInBounds_toArray, List.set_cons_zero, List.set_cons_succ]
  refine any_take 11 (v := ?_) (by kernel_rfl) (by kernel_rfl) (by kernel_rfl) rfl (fun _ _ _ h => h) (by rfl) (And.intro ka15 kb15) ?_ ?_
  rotate_left
  · (intro y hy; simp only [List.getElem_toArray, List.getElem_cons_zero, List.getElem_cons_succ]; go_simp; try with_reducible rfl)
  simp only [List.getElem_toArray, List.getElem_cons_zero, List.getElem_cons_succ, Act.put, List.setIfInBounds_toArray, List.set_cons_zero, List.set_cons_succ]
  refine any_take 12 (v := ?_) (by kernel_rfl) (by kernel_rfl) (by kernel_rfl) rfl (fun _ _ _ h => h) (by rfl) (And.intro ka15 kb15) ?_ ?_
  rotate_left
  · (intro y hy; simp only [List.getElem_toArray, List.getElem_cons_zero, List.getElem_cons_succ]; go_simp; try with_reducible rfl)
  simp only [List.getElem_toArray, List.getElem_cons_zero, List.getElem_cons_succ, Act.put, List.setIfInBounds_toArray, List.set_cons_zero, List.set_cons_succ]
  refine any_take 13 (v := ?_) (by kernel_rfl) (by kernel_rfl) (by kernel_rfl) rfl (fun _ _ _ h => h) (by rfl) (And.intro ka15 kb15) ?_ ?_
  rotate_left
  · (intro y hy; simp only [List.getElem_toArray, List.getElem_cons_zero, List.getElem_cons_succ]; go_simp; try with_reducible rfl)
  simp only [List.getElem_toArray, List.getElem_cons_zero, List.getElem_cons_succ, Act.put, List.setIfInBounds_toArray, List.set_cons_zero, List.set_cons_succ]
  refine any_take 14 (v := ?_) (by kernel_rfl) (by kernel_rfl) (by kernel_rfl) rfl (fun _ _ _ h => h) (by rfl) (And.intro ka15 kb15) ?_ ?_
  rotate_left
  · (intro y hy; simp only [List.getElem_toArray, List.getElem_cons_zero, List.getElem_cons_succ]; go_simp; try with_reducible rfl)
  simp only [List.getElem_toArray, List.getElem_cons_zero, List.getElem_cons_succ, Act.put, List.setIfInBounds_toArray, List.set_cons_zero, List.set_cons_succ]
  refine any_done (by kernel_rfl) ?_
  go_wp2_with fail
  go_returns
  exact ⟨by rw [EQ1.out, EQ2.out]; first | rfl | simp, HS15.out.bl⟩
theorem rbracket_x {w : World} {b a : Option Addr} {m d n c : Nat} {l : List Rt} {g node E x y : Int} {A : Ac} (hl : Rs w b m l) (hlw : ∀ x ∈ l, RtW x) (h : Hs w a n A.hs) (hw : AcW A) (eE : brE l g A node = E) (eL : brLo l g A node = x) (eH : brHi l g A node = y) :
    Calls Try.prog 29 #[.slice b m d, .int .i64 g, .agg #[.string A.key, .int .i64 A.lo, .int .i64 A.hi, .int .i64 A.base, .int .i64 A.rd, .slice a n c, .int .i64 A.lk.c, .int .i64 A.lk.s, .int .i64 A.lk.h, .int .i64 A.lk.n], .int .i64 node] w fun e w' => e = .returned (.tuple #[.int .i64 x, .int .i64 y, .int .i64 E]) ∧ Below w.heap.size w w' := by
  subst eE
  subst eL
  subst eH
  by_cases h0 : rhE l g A node false = 0
  · obtain ⟨_, z2, z3, _⟩ := rh_yes h0
    cases h5 : spB (heldH l g A node) (heldR l g A node).nt
    · have e1 : brE l g A node = 150 := by unfold brE; rw [if_pos z2, if_pos z3, if_neg (by rw [h5]; simp)]
      have e2 : brLo l g A node = 0 := by unfold brLo; rw [if_neg (by omega)]
      have e3 : brHi l g A node = 0 := by unfold brHi; rw [if_neg (by omega)]
      rw [e1, e2, e3]
      exact rbracket_b (v := 0) (E := 0) hl hlw h hw h0 h5
    · have e1 : brE l g A node = 0 := by unfold brE; rw [if_pos z2, if_pos z3, if_pos h5]
      have e2 : brLo l g A node = A.lo + (heldH l g A node).dn + (heldR l g A node).nt := by unfold brLo; rw [if_pos e1]
      have e3 : brHi l g A node = A.hi - (heldH l g A node).up + (heldR l g A node).nt := by unfold brHi; rw [if_pos e1]
      rw [e1, e2, e3]
      exact rbracket_y (v := 0) (E := 0) hl hlw h hw h0 h5
  · have e1 : brE l g A node = rhE l g A node false := by
      unfold brE rhE
      by_cases a1 : heldE l g A node = 21
      · simp [a1]
      · by_cases a3 : heldE l g A node = 0
        · by_cases a4 : A.rd = 0
          · exfalso
            apply h0
            unfold rhE
            simp [a3, a4]
          · simp [a3, a4]
        · simp [a1, a3]
    have e2 : brLo l g A node = 0 := by unfold brLo; rw [if_neg (by rw [e1]; exact h0)]
    have e3 : brHi l g A node = 0 := by unfold brHi; rw [if_neg (by rw [e1]; exact h0)]
    rw [e2, e3]
    exact rbracket_n (v := 0) hl hlw h hw e1.symm (by rw [e1]; exact h0)
end Go.Proofs.Ytjcbhgkfbilifaa
