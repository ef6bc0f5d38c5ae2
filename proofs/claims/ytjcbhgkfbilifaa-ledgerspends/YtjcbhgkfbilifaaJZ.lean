/- What a node may spend, between which numbers it knows the total, what it reports: the landed calls. Condition: the ledger and the account can be read. What a node reports, and between which numbers it knows the total: the landed Report, Bracket. Condition: the ledger and the account can be read. Between which numbers a node knows the total: the landed Bracket. Condition: the ledger and the account can be read. -/
import Derived.Test.YtjcbhgkfbilifaaFLgHeld
namespace Go.Proofs.Ytjcbhgkfbilifaa
open Go.ChangeShapes Go.WideShapes Go.ChangeAt Go.RowKit Ao Lg
set_option linter.unusedVariables false

theorem acc_rt (w : World) (A : Ac) (a : Option Addr) (n c : Nat) : ∃ w1, w1 = (w.alloc (.cells #[.string A.key, .int .i64 A.lo, .int .i64 A.hi, .int .i64 A.base, .int .i64 A.rd, .slice a n c, .int .i64 A.lk.c, .int .i64 A.lk.s, .int .i64 A.lk.h, .int .i64 A.lk.n] 28)).alloc (.cells #[.int .i64 0, .string ⟨#[]⟩, .int .i64 0, .int .i64 0] 43) ∧ Below w.heap.size w w1 ∧ Ab w1 w.heap.size A a n c ∧ Rb w1 (w.heap.size + 1) rt0 := by
  refine ⟨_, rfl, (Below.alloc (Below.refl _ _) (Nat.le_refl _) _).alloc (by simp) _, (ab_new w A a n c).below (Below.alloc (Below.refl _ _) (Nat.le_refl _) _), ?_⟩
  have := rb_new (w.alloc (.cells #[.string A.key, .int .i64 A.lo, .int .i64 A.hi, .int .i64 A.base, .int .i64 A.rd, .slice a n c, .int .i64 A.lk.c, .int .i64 A.lk.s, .int .i64 A.lk.h, .int .i64 A.lk.n] 28)) rt0
  simpa [rt0] using this
theorem rx_new (w : World) (R : Rt) (X : Hd) : ∃ w1, w1 = (w.alloc (.cells #[.int .i64 R.g, .string R.k, .int .i64 R.ls, .int .i64 R.nt] 43)).alloc (.cells #[.int .i64 X.nd, .int .i64 X.ls, .int .i64 X.up, .int .i64 X.dn] 33) ∧ Below w.heap.size w w1 ∧ Rb w1 w.heap.size R ∧ Hk w1 (w.heap.size + 1) X := by
  refine ⟨_, rfl, (Below.alloc (Below.refl _ _) (Nat.le_refl _) _).alloc (by simp) _, (rb_new w R).below (Below.alloc (Below.refl _ _) (Nat.le_refl _) _), ⟨?_⟩⟩
  have := heap_alloc_new (w.alloc (.cells #[.int .i64 R.g, .string R.k, .int .i64 R.ls, .int .i64 R.nt] 43)) (.cells #[.int .i64 X.nd, .int .i64 X.ls, .int .i64 X.up, .int .i64 X.dn] 33)
  simpa using this
theorem net_w {l : List Rt} (h : ∀ x ∈ l, RtW x) (g : Int) (k : ByteArray) (ls : Int) : I64 (netL l g k ls) := by
  unfold netL
  cases e : l.find? (isL g k ls) with
  | none => exact ⟨by decide, by decide⟩
  | some x => exact (h x (List.mem_of_find?_eq_some e)).nt
theorem held_facts {l : List Rt} {g node : Int} {A : Ac} (hw : AcW A) (hlw : ∀ x ∈ l, RtW x) (h : heldE l g A node = 0) : Ao.Right A ∧ Led l ∧ grpB g = true ∧ findH A.hs node = some (heldH l g A node) ∧ heldR l g A node = ⟨g, A.key, (heldH l g A node).ls, netL l g A.key (heldH l g A node).ls⟩ ∧ I64 (heldR l g A node).nt ∧ HdW (heldH l g A node) ∧ 0 ≤ (heldH l g A node).dn ∧ 0 ≤ (heldH l g A node).up ∧ 1 ≤ (heldH l g A node).ls := by
  have hR : heldR l g A node = ⟨g, A.key, (heldH l g A node).ls, netL l g A.key (heldH l g A node).ls⟩ := by unfold heldR; rw [if_pos h]
  have h' := h
  unfold heldE at h'
  by_cases a1 : ledB l = true ∧ rightB A = true
  · rw [if_pos a1] at h'
    by_cases a2 : grpB g = true
    · rw [if_pos a2] at h'
      cases a3 : findH A.hs node with
      | none => rw [a3] at h'; simp at h'
      | some x =>
        have hX : heldH l g A node = x := by unfold heldH; rw [if_pos h, a3]; rfl
        have hr := (right_iff A).1 a1.2
        have hm := (find_mem a3).1
        have hf := hd_facts (hs_mem hr.hs x hm).2
        rw [hX] at hR ⊢
        refine ⟨hr, led_iff.1 a1.1, a2, rfl, hR, ?_, hw.hs x hm, hf.2.2.2, hf.2.2.1, hf.2.1⟩
        rw [hR]
        exact net_w hlw _ _ _
    · rw [if_neg a2] at h'; omega
  · rw [if_neg a1] at h'; omega
/-- the account, what is held of it, what was spent -/
structure Sz (w W : World) (A : Ac) (a : Option Addr) (n c p : Nat) (R : Rt) (X : Hd) : Prop where
  bl : Below w.heap.size w W
  ab : Ab W w.heap.size A a n c
  rb : Rb W p R
  hk : Hk W (p + 1) X
theorem Sz.below {w W W' : World} {A : Ac} {a : Option Addr} {n c p : Nat} {R : Rt} {X : Hd} (h : Sz w W A a n c p R X) (hb : Below W.heap.size W W') : Sz w W' A a n c p R X :=
  ⟨h.bl.trans (hb.mono h.bl.size), h.ab.below hb, h.rb.below hb, h.hk.below hb⟩
def spendE (l : List Rt) (g : Int) (A : Ac) (node v : Int) : Int := if heldE l g A node = 21 then 21 else if v = 0 then 1 else if heldE l g A node = 0 then (if A.rd = 0 then (if spB (heldH l g A node) ((heldR l g A node).nt + v) = true then 0 else 150) else 152) else heldE l g A node
def spendR (l : List Rt) (g : Int) (A : Ac) (node v : Int) : Rt := if spendE l g A node v = 0 then { heldR l g A node with nt := (heldR l g A node).nt + v } else rt0
def brE (l : List Rt) (g : Int) (A : Ac) (node : Int) : Int := if heldE l g A node = 0 then (if A.rd = 0 then (if spB (heldH l g A node) (heldR l g A node).nt = true then 0 else 150) else 152) else heldE l g A node
def brLo (l : List Rt) (g : Int) (A : Ac) (node : Int) : Int := if brE l g A node = 0 then A.lo + (heldH l g A node).dn + (heldR l g A node).nt else 0
def brHi (l : List Rt) (g : Int) (A : Ac) (node : Int) : Int := if brE l g A node = 0 then A.hi - (heldH l g A node).up + (heldR l g A node).nt else 0
set_option maxRecDepth 100000 in
set_option maxHeartbeats 8000000 in
theorem spend_form {w : World} {b a : Option Addr} {m d n c : Nat} {l : List Rt} {g node v : Int} {A : Ac} (hl : Rs w b m l) (hlw : ∀ x ∈ l, RtW x) (h : Hs w a n A.hs) (hw : AcW A) (h1 : heldE l g A node = 21) :
    Calls Try.prog 26 #[.slice b m d, .int .i64 g, .agg #[.string A.key, .int .i64 A.lo, .int .i64 A.hi, .int .i64 A.base, .int .i64 A.rd, .slice a n c, .int .i64 A.lk.c, .int .i64 A.lk.s, .int .i64 A.lk.h, .int .i64 A.lk.n], .int .i64 node, .int .i64 v] w fun e w' => e = .returned (.tuple #[.agg #[.int .i64 0, .string ⟨#[]⟩, .int .i64 0, .int .i64 0], .int .i64 21]) ∧ Below w.heap.size w w' := by
  have HE := fun W => hide (fun hW : Below w.heap.size w W => held_x (d := d) (c := c) (g := g) (node := node) (hl.below hW) (h.below hW) hw rfl rfl rfl)
  have HF := hide (fun e => held_facts (node := node) (g := g) hw hlw e)
  have HAW := hide hw
  generalize heldE l g A node = E at *
  generalize heldR l g A node = R at *
  generalize heldH l g A node = X at *
  subst h1
  clear hl hlw h hw HF HAW
  obtain ⟨w1, ew, hb1, ha1, hz1⟩ := acc_rt w A a n c
  have HB1 := hide hb1
  have HA1 := hide ha1
  have HZ1 := hide hz1
  obtain ⟨z0, z1, z2, z3, z4, z5, z6, z7, z8, z9⟩ := HA1.out.at_
  clear hb1 ha1 hz1
  go_enter Try.func26, Try.ntmps26
  go_wp2_with fail
  rw [← ew]
  clear ew
  refine ((HE _).out HB1.out).mono ?_
  rintro e w2 ⟨rfl, hb⟩
  have HB2 : Hid (Below w.heap.size w w2) := HB1.out.trans (hb.mono HB1.out.size)
  have HA2 := hide (HA1.out.below hb)
  have HZ2 := hide (HZ1.out.below hb)
  have hzl : w.heap.size + 1 < w2.heap.size := HZ2.out.lt
  have hal : w.heap.size < w2.heap.size := HA2.out.lt
  clear hb z0 z1 z2 z3 z4 z5 z6 z7 z8 z9 HE HB1 HA1 HZ1
  obtain ⟨w3, e3, hb3, hr3, hk3⟩ := rx_new w2 R X
  have HS : Hid (Sz w w3 A a n c w2.heap.size R X) := ⟨HB2.out.trans (hb3.mono HB2.out.size), HA2.out.below hb3, hr3, hk3⟩
  have HZ := hide (HZ2.out.below hb3)
  clear hb3 hr3 hk3 HB2 HA2 HZ2
  go_upto_region 2 with fail
  rw [← e3]
  clear e3
  obtain ⟨p, ep⟩ : ∃ p, p = w2.heap.size := ⟨_, rfl⟩
  rw [← ep] at HS hal hzl ⊢
  clear ep
  obtain ⟨z0, z1, z2, z3, z4, z5, z6, z7, z8, z9⟩ := HS.out.ab.at_
  obtain ⟨r0, r1, r2, r3⟩ := HS.out.rb.at_
  obtain ⟨x0, x1, x2, x3⟩ := HS.out.hk.at_
  go_upto_region 5 with (fail)
  go_wp2_with ((refine wpList_store_row rfl 43 (.tmp 10) (.tmp 36) rfl (w.heap.size + 1) #[.int .i64 0, .string ⟨#[]⟩, .int .i64 0, .int .i64 0] rfl rfl 43 #[.int .i64 0, .string ⟨#[]⟩, .int .i64 0, .int .i64 0] HZ.out.row rt_info rfl (by simp [Value.oneCell']) ?_))
  refine bodyPost_ret (v := .tuple #[.agg #[.int .i64 0, .string ⟨#[]⟩, .int .i64 0, .int .i64 0], .int .i64 21]) ?r ?d ?_
  case r => exact results_cell_tmp' rfl _ _ (w.heap.size + 1) 43 #[.int .i64 0, .string ⟨#[]⟩, .int .i64 0, .int .i64 0] (0, 0) _ (.int .i64 21) rfl rfl (setRow_heap _ _ _ _ _ _ HZ.out.row) Try.underlying43 rfl rt_info
  case d => rfl
  exact ⟨rfl, below_setRow HS.out.bl (by omega) _⟩
set_option maxRecDepth 100000 in
set_option maxHeartbeats 8000000 in
theorem spend_zero {w : World} {b a : Option Addr} {m d n c : Nat} {l : List Rt} {g node v : Int} {A : Ac} (hl : Rs w b m l) (hlw : ∀ x ∈ l, RtW x) (h : Hs w a n A.hs) (hw : AcW A) (h1 : ¬ heldE l g A node = 21) (h2 : v = 0) :
    Calls Try.prog 26 #[.slice b m d, .int .i64 g, .agg #[.string A.key, .int .i64 A.lo, .int .i64 A.hi, .int .i64 A.base, .int .i64 A.rd, .slice a n c, .int .i64 A.lk.c, .int .i64 A.lk.s, .int .i64 A.lk.h, .int .i64 A.lk.n], .int .i64 node, .int .i64 v] w fun e w' => e = .returned (.tuple #[.agg #[.int .i64 0, .string ⟨#[]⟩, .int .i64 0, .int .i64 0], .int .i64 1]) ∧ Below w.heap.size w w' := by
  have HE := fun W => hide (fun hW : Below w.heap.size w W => held_x (d := d) (c := c) (g := g) (node := node) (hl.below hW) (h.below hW) hw rfl rfl rfl)
  have HF := hide (fun e => held_facts (node := node) (g := g) hw hlw e)
  have HAW := hide hw
  generalize heldE l g A node = E at *
  generalize heldR l g A node = R at *
  generalize heldH l g A node = X at *
  subst h2
  clear hl hlw h hw HF HAW
  obtain ⟨w1, ew, hb1, ha1, hz1⟩ := acc_rt w A a n c
  have HB1 := hide hb1
  have HA1 := hide ha1
  have HZ1 := hide hz1
  obtain ⟨z0, z1, z2, z3, z4, z5, z6, z7, z8, z9⟩ := HA1.out.at_
  clear hb1 ha1 hz1
  go_enter Try.func26, Try.ntmps26
  go_wp2_with fail
  rw [← ew]
  clear ew
  refine ((HE _).out HB1.out).mono ?_
  rintro e w2 ⟨rfl, hb⟩
  have HB2 : Hid (Below w.heap.size w w2) := HB1.out.trans (hb.mono HB1.out.size)
  have HA2 := hide (HA1.out.below hb)
  have HZ2 := hide (HZ1.out.below hb)
  have hzl : w.heap.size + 1 < w2.heap.size := HZ2.out.lt
  have hal : w.heap.size < w2.heap.size := HA2.out.lt
  clear hb z0 z1 z2 z3 z4 z5 z6 z7 z8 z9 HE HB1 HA1 HZ1
  obtain ⟨w3, e3, hb3, hr3, hk3⟩ := rx_new w2 R X
  have HS : Hid (Sz w w3 A a n c w2.heap.size R X) := ⟨HB2.out.trans (hb3.mono HB2.out.size), HA2.out.below hb3, hr3, hk3⟩
  have HZ := hide (HZ2.out.below hb3)
  clear hb3 hr3 hk3 HB2 HA2 HZ2
  go_upto_region 2 with fail
  rw [← e3]
  clear e3
  obtain ⟨p, ep⟩ : ∃ p, p = w2.heap.size := ⟨_, rfl⟩
  rw [← ep] at HS hal hzl ⊢
  clear ep
  obtain ⟨z0, z1, z2, z3, z4, z5, z6, z7, z8, z9⟩ := HS.out.ab.at_
  obtain ⟨r0, r1, r2, r3⟩ := HS.out.rb.at_
  obtain ⟨x0, x1, x2, x3⟩ := HS.out.hk.at_
  go_upto_region 3 with (fail)
  go_wp2_with ((refine wpList_store_row rfl 43 (.tmp 10) (.tmp 32) rfl (w.heap.size + 1) #[.int .i64 0, .string ⟨#[]⟩, .int .i64 0, .int .i64 0] rfl rfl 43 #[.int .i64 0, .string ⟨#[]⟩, .int .i64 0, .int .i64 0] HZ.out.row rt_info rfl (by simp [Value.oneCell']) ?_))
  refine bodyPost_ret (v := .tuple #[.agg #[.int .i64 0, .string ⟨#[]⟩, .int .i64 0, .int .i64 0], .int .i64 1]) ?r ?d ?_
  case r => exact results_cell_tmp' rfl _ _ (w.heap.size + 1) 43 #[.int .i64 0, .string ⟨#[]⟩, .int .i64 0, .int .i64 0] (0, 0) _ (.int .i64 1) rfl rfl (setRow_heap _ _ _ _ _ _ HZ.out.row) Try.underlying43 rfl rt_info
  case d => rfl
  exact ⟨rfl, below_setRow HS.out.bl (by omega) _⟩
set_option maxRecDepth 100000 in
set_option maxHeartbeats 8000000 in
theorem spend_else {w : World} {b a : Option Addr} {m d n c : Nat} {l : List Rt} {g node v : Int} {A : Ac} (hl : Rs w b m l) (hlw : ∀ x ∈ l, RtW x) (h : Hs w a n A.hs) (hw : AcW A) (h1 : ¬ heldE l g A node = 21) (h2 : ¬ v = 0) (h3 : ¬ heldE l g A node = 0) :
    Calls Try.prog 26 #[.slice b m d, .int .i64 g, .agg #[.string A.key, .int .i64 A.lo, .int .i64 A.hi, .int .i64 A.base, .int .i64 A.rd, .slice a n c, .int .i64 A.lk.c, .int .i64 A.lk.s, .int .i64 A.lk.h, .int .i64 A.lk.n], .int .i64 node, .int .i64 v] w fun e w' => e = .returned (.tuple #[.agg #[.int .i64 0, .string ⟨#[]⟩, .int .i64 0, .int .i64 0], .int .i64 (heldE l g A node)]) ∧ Below w.heap.size w w' := by
  have HE := fun W => hide (fun hW : Below w.heap.size w W => held_x (d := d) (c := c) (g := g) (node := node) (hl.below hW) (h.below hW) hw rfl rfl rfl)
  have HF := hide (fun e => held_facts (node := node) (g := g) hw hlw e)
  have HAW := hide hw
  generalize heldE l g A node = E at *
  generalize heldR l g A node = R at *
  generalize heldH l g A node = X at *
  have k1 : (E != (21 : Int)) = true := by simpa using h1
  have k2 : (v == (0 : Int)) = false := by simpa using h2
  have k3 : (E != (0 : Int)) = true := by simpa using h3
  clear hl hlw h hw HF HAW h1 h2 h3
  obtain ⟨w1, ew, hb1, ha1, hz1⟩ := acc_rt w A a n c
  have HB1 := hide hb1
  have HA1 := hide ha1
  have HZ1 := hide hz1
  obtain ⟨z0, z1, z2, z3, z4, z5, z6, z7, z8, z9⟩ := HA1.out.at_
  clear hb1 ha1 hz1
  go_enter Try.func26, Try.ntmps26
  go_wp2_with fail
  rw [← ew]
  clear ew
  refine ((HE _).out HB1.out).mono ?_
  rintro e w2 ⟨rfl, hb⟩
  have HB2 : Hid (Below w.heap.size w w2) := HB1.out.trans (hb.mono HB1.out.size)
  have HA2 := hide (HA1.out.below hb)
  have HZ2 := hide (HZ1.out.below hb)
  have hzl : w.heap.size + 1 < w2.heap.size := HZ2.out.lt
  have hal : w.heap.size < w2.heap.size := HA2.out.lt
  clear hb z0 z1 z2 z3 z4 z5 z6 z7 z8 z9 HE HB1 HA1 HZ1
  obtain ⟨w3, e3, hb3, hr3, hk3⟩ := rx_new w2 R X
  have HS : Hid (Sz w w3 A a n c w2.heap.size R X) := ⟨HB2.out.trans (hb3.mono HB2.out.size), HA2.out.below hb3, hr3, hk3⟩
  have HZ := hide (HZ2.out.below hb3)
  clear hb3 hr3 hk3 HB2 HA2 HZ2
  go_upto_region 2 with fail
  rw [← e3]
  clear e3
  obtain ⟨p, ep⟩ : ∃ p, p = w2.heap.size := ⟨_, rfl⟩
  rw [← ep] at HS hal hzl ⊢
  clear ep
  obtain ⟨z0, z1, z2, z3, z4, z5, z6, z7, z8, z9⟩ := HS.out.ab.at_
  obtain ⟨r0, r1, r2, r3⟩ := HS.out.rb.at_
  obtain ⟨x0, x1, x2, x3⟩ := HS.out.hk.at_
  go_upto_region 5 with (fail)
  go_wp2_with ((refine wpList_store_row rfl 43 (.tmp 10) (.tmp 36) rfl (w.heap.size + 1) #[.int .i64 0, .string ⟨#[]⟩, .int .i64 0, .int .i64 0] rfl rfl 43 #[.int .i64 0, .string ⟨#[]⟩, .int .i64 0, .int .i64 0] HZ.out.row rt_info rfl (by simp [Value.oneCell']) ?_))
  refine bodyPost_ret (v := .tuple #[.agg #[.int .i64 0, .string ⟨#[]⟩, .int .i64 0, .int .i64 0], .int .i64 E]) ?r ?d ?_
  case r => exact results_cell_tmp' rfl _ _ (w.heap.size + 1) 43 #[.int .i64 0, .string ⟨#[]⟩, .int .i64 0, .int .i64 0] (0, 0) _ (.int .i64 E) rfl rfl (setRow_heap _ _ _ _ _ _ HZ.out.row) Try.underlying43 rfl rt_info
  case d => rfl
  exact ⟨rfl, below_setRow HS.out.bl (by omega) _⟩
set_option maxRecDepth 100000 in
set_option maxHeartbeats 8000000 in
theorem spend_frozen {w : World} {b a : Option Addr} {m d n c : Nat} {l : List Rt} {g node v : Int} {A : Ac} (hl : Rs w b m l) (hlw : ∀ x ∈ l, RtW x) (h : Hs w a n A.hs) (hw : AcW A) (h1 : heldE l g A node = 0) (h2 : ¬ v = 0) (h3 : ¬ A.rd = 0) :
    Calls Try.prog 26 #[.slice b m d, .int .i64 g, .agg #[.string A.key, .int .i64 A.lo, .int .i64 A.hi, .int .i64 A.base, .int .i64 A.rd, .slice a n c, .int .i64 A.lk.c, .int .i64 A.lk.s, .int .i64 A.lk.h, .int .i64 A.lk.n], .int .i64 node, .int .i64 v] w fun e w' => e = .returned (.tuple #[.agg #[.int .i64 0, .string ⟨#[]⟩, .int .i64 0, .int .i64 0], .int .i64 152]) ∧ Below w.heap.size w w' := by
  have HE := fun W => hide (fun hW : Below w.heap.size w W => held_x (d := d) (c := c) (g := g) (node := node) (hl.below hW) (h.below hW) hw rfl rfl rfl)
  have HF := hide (fun e => held_facts (node := node) (g := g) hw hlw e)
  have HAW := hide hw
  generalize heldE l g A node = E at *
  generalize heldR l g A node = R at *
  generalize heldH l g A node = X at *
  subst h1
  clear hl hlw h hw HF HAW
  obtain ⟨w1, ew, hb1, ha1, hz1⟩ := acc_rt w A a n c
  have HB1 := hide hb1
  have HA1 := hide ha1
  have HZ1 := hide hz1
  obtain ⟨z0, z1, z2, z3, z4, z5, z6, z7, z8, z9⟩ := HA1.out.at_
  clear hb1 ha1 hz1
  go_enter Try.func26, Try.ntmps26
  go_wp2_with fail
  rw [← ew]
  clear ew
  refine ((HE _).out HB1.out).mono ?_
  rintro e w2 ⟨rfl, hb⟩
  have HB2 : Hid (Below w.heap.size w w2) := HB1.out.trans (hb.mono HB1.out.size)
  have HA2 := hide (HA1.out.below hb)
  have HZ2 := hide (HZ1.out.below hb)
  have hzl : w.heap.size + 1 < w2.heap.size := HZ2.out.lt
  have hal : w.heap.size < w2.heap.size := HA2.out.lt
  clear hb z0 z1 z2 z3 z4 z5 z6 z7 z8 z9 HE HB1 HA1 HZ1
  obtain ⟨w3, e3, hb3, hr3, hk3⟩ := rx_new w2 R X
  have HS : Hid (Sz w w3 A a n c w2.heap.size R X) := ⟨HB2.out.trans (hb3.mono HB2.out.size), HA2.out.below hb3, hr3, hk3⟩
  have HZ := hide (HZ2.out.below hb3)
  clear hb3 hr3 hk3 HB2 HA2 HZ2
  go_upto_region 2 with fail
  rw [← e3]
  clear e3
  obtain ⟨p, ep⟩ : ∃ p, p = w2.heap.size := ⟨_, rfl⟩
  rw [← ep] at HS hal hzl ⊢
  clear ep
  obtain ⟨z0, z1, z2, z3, z4, z5, z6, z7, z8, z9⟩ := HS.out.ab.at_
  obtain ⟨r0, r1, r2, r3⟩ := HS.out.rb.at_
  obtain ⟨x0, x1, x2, x3⟩ := HS.out.hk.at_
  go_upto_region 7 with (fail)
  go_wp2_with ((refine wpList_store_row rfl 43 (.tmp 10) (.tmp 42) rfl (w.heap.size + 1) #[.int .i64 0, .string ⟨#[]⟩, .int .i64 0, .int .i64 0] rfl rfl 43 #[.int .i64 0, .string ⟨#[]⟩, .int .i64 0, .int .i64 0] HZ.out.row rt_info rfl (by simp [Value.oneCell']) ?_))
  refine bodyPost_ret (v := .tuple #[.agg #[.int .i64 0, .string ⟨#[]⟩, .int .i64 0, .int .i64 0], .int .i64 152]) ?r ?d ?_
  case r => exact results_cell_tmp' rfl _ _ (w.heap.size + 1) 43 #[.int .i64 0, .string ⟨#[]⟩, .int .i64 0, .int .i64 0] (0, 0) _ (.int .i64 152) rfl rfl (setRow_heap _ _ _ _ _ _ HZ.out.row) Try.underlying43 rfl rt_info
  case d => rfl
  exact ⟨rfl, below_setRow HS.out.bl (by omega) _⟩
set_option maxRecDepth 100000 in
set_option maxHeartbeats 8000000 in
theorem spend_far {w : World} {b a : Option Addr} {m d n c : Nat} {l : List Rt} {g node v : Int} {A : Ac} (hl : Rs w b m l) (hlw : ∀ x ∈ l, RtW x) (h : Hs w a n A.hs) (hw : AcW A) (hv : I64 v) (h1 : heldE l g A node = 0) (h2 : ¬ v = 0) (h3 : A.rd = 0) (h4 : ¬ I64 ((heldR l g A node).nt + v)) :
    Calls Try.prog 26 #[.slice b m d, .int .i64 g, .agg #[.string A.key, .int .i64 A.lo, .int .i64 A.hi, .int .i64 A.base, .int .i64 A.rd, .slice a n c, .int .i64 A.lk.c, .int .i64 A.lk.s, .int .i64 A.lk.h, .int .i64 A.lk.n], .int .i64 node, .int .i64 v] w fun e w' => e = .returned (.tuple #[.agg #[.int .i64 0, .string ⟨#[]⟩, .int .i64 0, .int .i64 0], .int .i64 150]) ∧ Below w.heap.size w w' := by
  have HE := fun W => hide (fun hW : Below w.heap.size w W => held_x (d := d) (c := c) (g := g) (node := node) (hl.below hW) (h.below hW) hw rfl rfl rfl)
  have HF := hide (fun e => held_facts (node := node) (g := g) hw hlw e)
  have HAW := hide hw
  have hn := (HF.out h1).2.2.2.2.2.1
  have AD := fun W => hide (add_no (heldR l g A node).nt v W hn.1 hn.2 hv.1 hv.2 (by unfold I64 at h4; omega))
  generalize heldE l g A node = E at *
  generalize heldR l g A node = R at *
  generalize heldH l g A node = X at *
  subst h1
  have H3 := hide h3
  clear hl hlw h hw HF HAW hv hn h4 h3
  obtain ⟨w1, ew, hb1, ha1, hz1⟩ := acc_rt w A a n c
  have HB1 := hide hb1
  have HA1 := hide ha1
  have HZ1 := hide hz1
  obtain ⟨z0, z1, z2, z3, z4, z5, z6, z7, z8, z9⟩ := HA1.out.at_
  clear hb1 ha1 hz1
  go_enter Try.func26, Try.ntmps26
  go_wp2_with fail
  rw [← ew]
  clear ew
  refine ((HE _).out HB1.out).mono ?_
  rintro e w2 ⟨rfl, hb⟩
  have HB2 : Hid (Below w.heap.size w w2) := HB1.out.trans (hb.mono HB1.out.size)
  have HA2 := hide (HA1.out.below hb)
  have HZ2 := hide (HZ1.out.below hb)
  have hzl : w.heap.size + 1 < w2.heap.size := HZ2.out.lt
  have hal : w.heap.size < w2.heap.size := HA2.out.lt
  clear hb z0 z1 z2 z3 z4 z5 z6 z7 z8 z9 HE HB1 HA1 HZ1
  obtain ⟨w3, e3, hb3, hr3, hk3⟩ := rx_new w2 R X
  have HS : Hid (Sz w w3 A a n c w2.heap.size R X) := ⟨HB2.out.trans (hb3.mono HB2.out.size), HA2.out.below hb3, hr3, hk3⟩
  have HZ := hide (HZ2.out.below hb3)
  clear hb3 hr3 hk3 HB2 HA2 HZ2
  go_upto_region 2 with fail
  rw [← e3]
  clear e3
  obtain ⟨p, ep⟩ : ∃ p, p = w2.heap.size := ⟨_, rfl⟩
  rw [← ep] at HS hal hzl ⊢
  clear ep
  obtain ⟨z0, z1, z2, z3, z4, z5, z6, z7, z8, z9⟩ := HS.out.ab.at_
  obtain ⟨r0, r1, r2, r3⟩ := HS.out.rb.at_
  obtain ⟨x0, x1, x2, x3⟩ := HS.out.hk.at_
  have h3 := H3.out
  go_upto_region 10 with ((go_at_call 68; refine (AD _).out.mono ?_; rintro e w' ⟨rfl, hw⟩; rw [hw]; clear hw) )
  go_wp2_with ((refine wpList_store_row rfl 43 (.tmp 10) (.tmp 58) rfl (w.heap.size + 1) #[.int .i64 0, .string ⟨#[]⟩, .int .i64 0, .int .i64 0] rfl rfl 43 #[.int .i64 0, .string ⟨#[]⟩, .int .i64 0, .int .i64 0] HZ.out.row rt_info rfl (by simp [Value.oneCell']) ?_))
  refine bodyPost_ret (v := .tuple #[.agg #[.int .i64 0, .string ⟨#[]⟩, .int .i64 0, .int .i64 0], .int .i64 150]) ?r ?d ?_
  case r => exact results_cell_tmp' rfl _ _ (w.heap.size + 1) 43 #[.int .i64 0, .string ⟨#[]⟩, .int .i64 0, .int .i64 0] (0, 0) _ (.int .i64 150) rfl rfl (setRow_heap _ _ _ _ _ _ HZ.out.row) Try.underlying43 rfl rt_info
  case d => rfl
  exact ⟨rfl, below_setRow HS.out.bl (by omega) _⟩
set_option maxRecDepth 100000 in
set_option maxHeartbeats 8000000 in
theorem spend_bound {w : World} {b a : Option Addr} {m d n c : Nat} {l : List Rt} {g node v : Int} {A : Ac} (hl : Rs w b m l) (hlw : ∀ x ∈ l, RtW x) (h : Hs w a n A.hs) (hw : AcW A) (hv : I64 v) (h1 : heldE l g A node = 0) (h2 : ¬ v = 0) (h3 : A.rd = 0) (h4 : I64 ((heldR l g A node).nt + v)) (h5 : ¬ spB (heldH l g A node) ((heldR l g A node).nt + v) = true) :
    Calls Try.prog 26 #[.slice b m d, .int .i64 g, .agg #[.string A.key, .int .i64 A.lo, .int .i64 A.hi, .int .i64 A.base, .int .i64 A.rd, .slice a n c, .int .i64 A.lk.c, .int .i64 A.lk.s, .int .i64 A.lk.h, .int .i64 A.lk.n], .int .i64 node, .int .i64 v] w fun e w' => e = .returned (.tuple #[.agg #[.int .i64 0, .string ⟨#[]⟩, .int .i64 0, .int .i64 0], .int .i64 150]) ∧ Below w.heap.size w w' := by
  have HE := fun W => hide (fun hW : Below w.heap.size w W => held_x (d := d) (c := c) (g := g) (node := node) (hl.below hW) (h.below hW) hw rfl rfl rfl)
  have HF := hide (fun e => held_facts (node := node) (g := g) hw hlw e)
  have HAW := hide hw
  have hf := HF.out h1
  have hn := hf.2.2.2.2.2.1
  have AD := fun W => hide (add_yes (heldR l g A node).nt v W hn.1 hn.2 hv.1 hv.2 h4.1 h4.2)
  have SP := fun W => hide (spend_any (heldH l g A node) ((heldR l g A node).nt + v) W hf.2.2.2.2.2.2.2.1 hf.2.2.2.2.2.2.1.dn.2)
  rw [show spB (heldH l g A node) ((heldR l g A node).nt + v) = false by simpa using h5] at SP
  clear hf
  generalize heldE l g A node = E at *
  generalize heldR l g A node = R at *
  generalize heldH l g A node = X at *
  subst h1
  generalize R.nt + v = y at AD SP
  have H3 := hide h3
  clear hl hlw h hw HF HAW hv hn h4 h5 h3
  obtain ⟨w1, ew, hb1, ha1, hz1⟩ := acc_rt w A a n c
  have HB1 := hide hb1
  have HA1 := hide ha1
  have HZ1 := hide hz1
  obtain ⟨z0, z1, z2, z3, z4, z5, z6, z7, z8, z9⟩ := HA1.out.at_
  clear hb1 ha1 hz1
  go_enter Try.func26, Try.ntmps26
  go_wp2_with fail
  rw [← ew]
  clear ew
  refine ((HE _).out HB1.out).mono ?_
  rintro e w2 ⟨rfl, hb⟩
  have HB2 : Hid (Below w.heap.size w w2) := HB1.out.trans (hb.mono HB1.out.size)
  have HA2 := hide (HA1.out.below hb)
  have HZ2 := hide (HZ1.out.below hb)
  have hzl : w.heap.size + 1 < w2.heap.size := HZ2.out.lt
  have hal : w.heap.size < w2.heap.size := HA2.out.lt
  clear hb z0 z1 z2 z3 z4 z5 z6 z7 z8 z9 HE HB1 HA1 HZ1
  obtain ⟨w3, e3, hb3, hr3, hk3⟩ := rx_new w2 R X
  have HS : Hid (Sz w w3 A a n c w2.heap.size R X) := ⟨HB2.out.trans (hb3.mono HB2.out.size), HA2.out.below hb3, hr3, hk3⟩
  have HZ := hide (HZ2.out.below hb3)
  clear hb3 hr3 hk3 HB2 HA2 HZ2
  go_upto_region 2 with fail
  rw [← e3]
  clear e3
  obtain ⟨p, ep⟩ : ∃ p, p = w2.heap.size := ⟨_, rfl⟩
  rw [← ep] at HS hal hzl ⊢
  clear ep
  obtain ⟨z0, z1, z2, z3, z4, z5, z6, z7, z8, z9⟩ := HS.out.ab.at_
  obtain ⟨r0, r1, r2, r3⟩ := HS.out.rb.at_
  obtain ⟨x0, x1, x2, x3⟩ := HS.out.hk.at_
  have h3 := H3.out
  go_wp2_with (go_at_call 68; refine (AD _).out.mono ?_; rintro e w' ⟨rfl, hw⟩; rw [hw]; clear hw)
  refine (SP _).out.mono ?_
  rintro e w4 ⟨rfl, hb⟩
  have HS4 := hide (HS.out.below hb)
  have HZ4 := hide (HZ.out.below hb)
  clear hb r0 r1 r2 r3 x0 x1 x2 x3 z0 z1 z2 z3 z4 z5 z6 z7 z8 z9
  go_upto_region 10 with (fail)
  go_wp2_with ((refine wpList_store_row rfl 43 (.tmp 10) (.tmp 58) rfl (w.heap.size + 1) #[.int .i64 0, .string ⟨#[]⟩, .int .i64 0, .int .i64 0] rfl rfl 43 #[.int .i64 0, .string ⟨#[]⟩, .int .i64 0, .int .i64 0] HZ4.out.row rt_info rfl (by simp [Value.oneCell']) ?_))
  refine bodyPost_ret (v := .tuple #[.agg #[.int .i64 0, .string ⟨#[]⟩, .int .i64 0, .int .i64 0], .int .i64 150]) ?r ?d ?_
  case r => exact results_cell_tmp' rfl _ _ (w.heap.size + 1) 43 #[.int .i64 0, .string ⟨#[]⟩, .int .i64 0, .int .i64 0] (0, 0) _ (.int .i64 150) rfl rfl (setRow_heap _ _ _ _ _ _ HZ4.out.row) Try.underlying43 rfl rt_info
  case d => rfl
  exact ⟨rfl, below_setRow HS4.out.bl (by omega) _⟩
set_option maxRecDepth 100000 in
set_option maxHeartbeats 8000000 in
theorem spend_yes {w : World} {b a : Option Addr} {m d n c : Nat} {l : List Rt} {g node v : Int} {A : Ac} (hl : Rs w b m l) (hlw : ∀ x ∈ l, RtW x) (h : Hs w a n A.hs) (hw : AcW A) (hv : I64 v) (h1 : heldE l g A node = 0) (h2 : ¬ v = 0) (h3 : A.rd = 0) (h4 : I64 ((heldR l g A node).nt + v)) (h5 : spB (heldH l g A node) ((heldR l g A node).nt + v) = true) :
    Calls Try.prog 26 #[.slice b m d, .int .i64 g, .agg #[.string A.key, .int .i64 A.lo, .int .i64 A.hi, .int .i64 A.base, .int .i64 A.rd, .slice a n c, .int .i64 A.lk.c, .int .i64 A.lk.s, .int .i64 A.lk.h, .int .i64 A.lk.n], .int .i64 node, .int .i64 v] w fun e w' => e = .returned (.tuple #[.agg #[.int .i64 (heldR l g A node).g, .string (heldR l g A node).k, .int .i64 (heldR l g A node).ls, .int .i64 ((heldR l g A node).nt + v)], .int .i64 0]) ∧ Below w.heap.size w w' := by
  have HE := fun W => hide (fun hW : Below w.heap.size w W => held_x (d := d) (c := c) (g := g) (node := node) (hl.below hW) (h.below hW) hw rfl rfl rfl)
  have HF := hide (fun e => held_facts (node := node) (g := g) hw hlw e)
  have HAW := hide hw
  have hf := HF.out h1
  have hn := hf.2.2.2.2.2.1
  have AD := fun W => hide (add_yes (heldR l g A node).nt v W hn.1 hn.2 hv.1 hv.2 h4.1 h4.2)
  have SP := fun W => hide (spend_any (heldH l g A node) ((heldR l g A node).nt + v) W hf.2.2.2.2.2.2.2.1 hf.2.2.2.2.2.2.1.dn.2)
  rw [h5] at SP
  clear hf h5
  generalize heldE l g A node = E at *
  generalize heldR l g A node = R at *
  generalize heldH l g A node = X at *
  subst h1
  generalize R.nt + v = y at AD SP ⊢
  have H3 := hide h3
  clear hl hlw h hw HF HAW hv hn h4 h3
  obtain ⟨w1, ew, hb1, ha1, hz1⟩ := acc_rt w A a n c
  have HB1 := hide hb1
  have HA1 := hide ha1
  have HZ1 := hide hz1
  obtain ⟨z0, z1, z2, z3, z4, z5, z6, z7, z8, z9⟩ := HA1.out.at_
  clear hb1 ha1 hz1
  go_enter Try.func26, Try.ntmps26
  go_wp2_with fail
  rw [← ew]
  clear ew
  refine ((HE _).out HB1.out).mono ?_
  rintro e w2 ⟨rfl, hb⟩
  have HB2 : Hid (Below w.heap.size w w2) := HB1.out.trans (hb.mono HB1.out.size)
  have HA2 := hide (HA1.out.below hb)
  have HZ2 := hide (HZ1.out.below hb)
  have hzl : w.heap.size + 1 < w2.heap.size := HZ2.out.lt
  have hal : w.heap.size < w2.heap.size := HA2.out.lt
  clear hb z0 z1 z2 z3 z4 z5 z6 z7 z8 z9 HE HB1 HA1 HZ1
  obtain ⟨w3, e3, hb3, hr3, hk3⟩ := rx_new w2 R X
  have HS : Hid (Sz w w3 A a n c w2.heap.size R X) := ⟨HB2.out.trans (hb3.mono HB2.out.size), HA2.out.below hb3, hr3, hk3⟩
  have HZ := hide (HZ2.out.below hb3)
  clear hb3 hr3 hk3 HB2 HA2 HZ2
  go_upto_region 2 with fail
  rw [← e3]
  clear e3
  obtain ⟨p, ep⟩ : ∃ p, p = w2.heap.size := ⟨_, rfl⟩
  rw [← ep] at HS hal hzl ⊢
  clear ep
  obtain ⟨z0, z1, z2, z3, z4, z5, z6, z7, z8, z9⟩ := HS.out.ab.at_
  obtain ⟨r0, r1, r2, r3⟩ := HS.out.rb.at_
  obtain ⟨x0, x1, x2, x3⟩ := HS.out.hk.at_
  have h3 := H3.out
  go_wp2_with (go_at_call 68; refine (AD _).out.mono ?_; rintro e w' ⟨rfl, hw⟩; rw [hw]; clear hw)
  refine (SP _).out.mono ?_
  rintro e w4 ⟨rfl, hb⟩
  have HS4 := hide (HS.out.below hb)
  have HZ4 := hide (HZ.out.below hb)
  clear hb r0 r1 r2 r3 x0 x1 x2 x3 z0 z1 z2 z3 z4 z5 z6 z7 z8 z9
  obtain ⟨r0, r1, r2, r3⟩ := HS4.out.rb.at_
  have fz := HS4.out.rb.fz
  have HW5 : Hid (Rb (w4.setCell ⟨p, 3, none⟩ (.int .i64 y)) p ⟨R.g, R.k, R.ls, y⟩) := ⟨put_row' HS4.out.rb.row⟩
  have HZ5 : Hid ((w4.setCell ⟨p, 3, none⟩ (.int .i64 y)).heap[w.heap.size + 1]? = some (.cells #[.int .i64 0, .string ⟨#[]⟩, .int .i64 0, .int .i64 0] 43 (0, 0))) := (put_far (by omega)).trans HZ4.out.row
  have HB5 : Hid (Below w.heap.size w (w4.setCell ⟨p, 3, none⟩ (.int .i64 y))) := HS4.out.bl.setCell (p := ⟨p, 3, none⟩) (by show w.heap.size ≤ p; omega) _
  go_upto_region 12 with fail
  obtain ⟨w5, e5⟩ : ∃ w5, w5 = w4.setCell ⟨p, 3, none⟩ (.int .i64 y) := ⟨_, rfl⟩
  rw [← e5] at HW5 HZ5 HB5 ⊢
  clear e5 r0 r1 r2 r3
  obtain ⟨r0, r1, r2, r3⟩ := HW5.out.at_
  go_wp2_with (refine wpList_store_row rfl 43 (.tmp 10) (.tmp 61) rfl (w.heap.size + 1) #[.int .i64 R.g, .string R.k, .int .i64 R.ls, .int .i64 y] rfl rfl 43 #[.int .i64 0, .string ⟨#[]⟩, .int .i64 0, .int .i64 0] HZ5.out rt_info rfl (by simp [Value.oneCell']) ?_)
  refine bodyPost_ret (v := .tuple #[.agg #[.int .i64 R.g, .string R.k, .int .i64 R.ls, .int .i64 y], .int .i64 0]) ?r ?d ?_
  case r => exact results_cell_tmp' rfl _ _ (w.heap.size + 1) 43 #[.int .i64 R.g, .string R.k, .int .i64 R.ls, .int .i64 y] (0, 0) _ (.int .i64 0) rfl rfl (setRow_heap _ _ _ _ _ _ HZ5.out) Try.underlying43 rfl rt_info
  case d => rfl
  exact ⟨rfl, below_setRow HB5.out (by omega) _⟩
theorem spend_x {w : World} {b a : Option Addr} {m d n c : Nat} {l : List Rt} {g node v E : Int} {A : Ac} {R : Rt} (hl : Rs w b m l) (hlw : ∀ x ∈ l, RtW x) (h : Hs w a n A.hs) (hw : AcW A) (hv : I64 v) (eE : spendE l g A node v = E) (eR : spendR l g A node v = R) :
    Calls Try.prog 26 #[.slice b m d, .int .i64 g, .agg #[.string A.key, .int .i64 A.lo, .int .i64 A.hi, .int .i64 A.base, .int .i64 A.rd, .slice a n c, .int .i64 A.lk.c, .int .i64 A.lk.s, .int .i64 A.lk.h, .int .i64 A.lk.n], .int .i64 node, .int .i64 v] w fun e w' => e = .returned (.tuple #[.agg #[.int .i64 R.g, .string R.k, .int .i64 R.ls, .int .i64 R.nt], .int .i64 E]) ∧ Below w.heap.size w w' := by
  subst eE
  subst eR
  by_cases h1 : heldE l g A node = 21
  · have e1 : spendE l g A node v = 21 := by unfold spendE; rw [if_pos h1]
    have e2 : spendR l g A node v = rt0 := by unfold spendR; rw [e1]; rfl
    rw [e1, e2]
    exact spend_form hl hlw h hw h1
  · by_cases h2 : v = 0
    · have e1 : spendE l g A node v = 1 := by unfold spendE; rw [if_neg h1, if_pos h2]
      have e2 : spendR l g A node v = rt0 := by unfold spendR; rw [e1]; rfl
      rw [e1, e2]
      exact spend_zero hl hlw h hw h1 h2
    · by_cases h3 : heldE l g A node = 0
      · by_cases h4 : A.rd = 0
        · by_cases h5 : spB (heldH l g A node) ((heldR l g A node).nt + v) = true
          · have e1 : spendE l g A node v = 0 := by unfold spendE; rw [if_neg h1, if_neg h2, if_pos h3, if_pos h4, if_pos h5]
            have e2 : spendR l g A node v = { heldR l g A node with nt := (heldR l g A node).nt + v } := by unfold spendR; rw [if_pos e1]
            rw [e1, e2]
            have hf := held_facts hw hlw h3
            have hX := hf.2.2.2.2.2.2.1
            have h6 : I64 ((heldR l g A node).nt + v) := by
              unfold spB at h5
              have := of_decide_eq_true h5
              have := hX.up
              have := hX.dn
              unfold I64 at *
              omega
            exact spend_yes hl hlw h hw hv h3 h2 h4 h6 h5
          · have e1 : spendE l g A node v = 150 := by unfold spendE; rw [if_neg h1, if_neg h2, if_pos h3, if_pos h4, if_neg h5]
            have e2 : spendR l g A node v = rt0 := by unfold spendR; rw [e1]; rfl
            rw [e1, e2]
            by_cases h6 : I64 ((heldR l g A node).nt + v)
            · exact spend_bound hl hlw h hw hv h3 h2 h4 h6 h5
            · exact spend_far hl hlw h hw hv h3 h2 h4 h6
        · have e1 : spendE l g A node v = 152 := by unfold spendE; rw [if_neg h1, if_neg h2, if_pos h3, if_neg h4]
          have e2 : spendR l g A node v = rt0 := by unfold spendR; rw [e1]; rfl
          rw [e1, e2]
          exact spend_frozen hl hlw h hw h3 h2 h4
      · have e1 : spendE l g A node v = heldE l g A node := by unfold spendE; rw [if_neg h1, if_neg h2, if_neg h3]
        have e2 : spendR l g A node v = rt0 := by unfold spendR; rw [if_neg (by rw [e1]; exact h3)]
        rw [e1, e2]
        exact spend_else hl hlw h hw h1 h2 h3
end Go.Proofs.Ytjcbhgkfbilifaa

namespace Go.Proofs.Ytjcbhgkfbilifaa
open Go.ChangeShapes Go.WideShapes Go.ChangeAt Go.RowKit Ao Lg
set_option linter.unusedVariables false

/-- a command of which only these say anything -/
structure Cmd where
  kind : Int
  node : Int
  key : ByteArray
  ls : Int
  rd : Int
  nt : Int
def cmd0 : Cmd := ⟨0, 0, ⟨#[]⟩, 0, 0, 0⟩
def repB (l : List Rt) (g : Int) (A : Ac) (node : Int) : Bool := decide (heldE l g A node = 0) && !decide (A.rd = 0)
def repC (l : List Rt) (g : Int) (A : Ac) (node : Int) : Cmd := if repB l g A node = true then ⟨2, node, A.key, (heldH l g A node).ls, A.rd, (heldR l g A node).nt⟩ else cmd0
theorem cm_info : (Try.prog.info? 63).map (·.size) = some 25 := by kernel_rfl
theorem acc_rc (w : World) (A : Ac) (a : Option Addr) (n c : Nat) : ∃ w1, w1 = (w.alloc (.cells #[.string A.key, .int .i64 A.lo, .int .i64 A.hi, .int .i64 A.base, .int .i64 A.rd, .slice a n c, .int .i64 A.lk.c, .int .i64 A.lk.s, .int .i64 A.lk.h, .int .i64 A.lk.n] 28)).alloc (.cells #[.int .i64 0, .int .i64 0, .int .i64 0, .int .i64 0, .int .i64 0, .int .i64 0, .string ⟨#[]⟩, .int .i64 0, .int .i64 0, .int .i64 0, .bool false, .int .i64 0, .string ⟨#[]⟩, .string ⟨#[]⟩, .int .i64 0, .int .i64 0, .int .i64 0, .int .i64 0, .int .i64 0, .int .i64 0, .string ⟨#[]⟩, .string ⟨#[]⟩, .int .i64 0, .int .i64 0, .slice none 0 0] 63) ∧ Below w.heap.size w w1 ∧ Ab w1 w.heap.size A a n c ∧ w1.heap[w.heap.size + 1]? = some (.cells #[.int .i64 0, .int .i64 0, .int .i64 0, .int .i64 0, .int .i64 0, .int .i64 0, .string ⟨#[]⟩, .int .i64 0, .int .i64 0, .int .i64 0, .bool false, .int .i64 0, .string ⟨#[]⟩, .string ⟨#[]⟩, .int .i64 0, .int .i64 0, .int .i64 0, .int .i64 0, .int .i64 0, .int .i64 0, .string ⟨#[]⟩, .string ⟨#[]⟩, .int .i64 0, .int .i64 0, .slice none 0 0] 63 (0, 0)) := by
  refine ⟨_, rfl, (Below.alloc (Below.refl _ _) (Nat.le_refl _) _).alloc (by simp) _, (ab_new w A a n c).below (Below.alloc (Below.refl _ _) (Nat.le_refl _) _), ?_⟩
  have := heap_alloc_new (w.alloc (.cells #[.string A.key, .int .i64 A.lo, .int .i64 A.hi, .int .i64 A.base, .int .i64 A.rd, .slice a n c, .int .i64 A.lk.c, .int .i64 A.lk.s, .int .i64 A.lk.h, .int .i64 A.lk.n] 28)) (.cells #[.int .i64 0, .int .i64 0, .int .i64 0, .int .i64 0, .int .i64 0, .int .i64 0, .string ⟨#[]⟩, .int .i64 0, .int .i64 0, .int .i64 0, .bool false, .int .i64 0, .string ⟨#[]⟩, .string ⟨#[]⟩, .int .i64 0, .int .i64 0, .int .i64 0, .int .i64 0, .int .i64 0, .int .i64 0, .string ⟨#[]⟩, .string ⟨#[]⟩, .int .i64 0, .int .i64 0, .slice none 0 0] 63)
  rw [World.size_alloc] at this
  exact this
set_option maxRecDepth 100000 in
set_option maxHeartbeats 8000000 in
theorem report_no {w : World} {b a : Option Addr} {m d n c : Nat} {l : List Rt} {g node v : Int} {A : Ac} (hl : Rs w b m l) (hlw : ∀ x ∈ l, RtW x) (h : Hs w a n A.hs) (hw : AcW A) (h1 : ¬ heldE l g A node = 0) :
    Calls Try.prog 30 #[.slice b m d, .int .i64 g, .agg #[.string A.key, .int .i64 A.lo, .int .i64 A.hi, .int .i64 A.base, .int .i64 A.rd, .slice a n c, .int .i64 A.lk.c, .int .i64 A.lk.s, .int .i64 A.lk.h, .int .i64 A.lk.n], .int .i64 node] w fun e w' => e = .returned (.tuple #[.agg #[.int .i64 0, .int .i64 0, .int .i64 0, .int .i64 0, .int .i64 0, .int .i64 0, .string ⟨#[]⟩, .int .i64 0, .int .i64 0, .int .i64 0, .bool false, .int .i64 0, .string ⟨#[]⟩, .string ⟨#[]⟩, .int .i64 0, .int .i64 0, .int .i64 0, .int .i64 0, .int .i64 0, .int .i64 0, .string ⟨#[]⟩, .string ⟨#[]⟩, .int .i64 0, .int .i64 0, .slice none 0 0], .bool false]) ∧ Below w.heap.size w w' := by
  have HE := fun W => hide (fun hW : Below w.heap.size w W => held_x (d := d) (c := c) (g := g) (node := node) (hl.below hW) (h.below hW) hw rfl rfl rfl)
  have HF := hide (fun e => held_facts (node := node) (g := g) hw hlw e)
  have HAW := hide hw
  generalize heldE l g A node = E at *
  generalize heldR l g A node = R at *
  generalize heldH l g A node = X at *
  have k3 : (E != (0 : Int)) = true := by simpa using h1
  clear hl hlw h hw HF HAW h1
  obtain ⟨w1, ew, hb1, ha1, hz1⟩ := acc_rc w A a n c
  have HB1 := hide hb1
  have HA1 := hide ha1
  have HZ1 : Hid (w1.heap[w.heap.size + 1]? = _) := hz1
  have hz1l : w.heap.size + 1 < w1.heap.size := (Array.getElem?_eq_some_iff.1 hz1).1
  obtain ⟨z0, z1, z2, z3, z4, z5, z6, z7, z8, z9⟩ := HA1.out.at_
  clear hb1 ha1 hz1
  go_enter Try.func30, Try.ntmps30
  go_wp2_with fail
  rw [← ew]
  clear ew
  refine ((HE _).out HB1.out).mono ?_
  rintro e w2 ⟨rfl, hb⟩
  have HB2 : Hid (Below w.heap.size w w2) := HB1.out.trans (hb.mono HB1.out.size)
  have HA2 := hide (HA1.out.below hb)
  have HZ2 : Hid (w2.heap[w.heap.size + 1]? = _) := (hb.block _ hz1l).trans HZ1.out
  have hzl : w.heap.size + 1 < w2.heap.size := Nat.lt_of_lt_of_le hz1l hb.size
  have hal : w.heap.size < w2.heap.size := HA2.out.lt
  clear hb z0 z1 z2 z3 z4 z5 z6 z7 z8 z9 HE HB1 HA1 HZ1 hz1l
  obtain ⟨w3, e3, hb3, hr3, hk3⟩ := rx_new w2 R X
  have HS : Hid (Sz w w3 A a n c w2.heap.size R X) := ⟨HB2.out.trans (hb3.mono HB2.out.size), HA2.out.below hb3, hr3, hk3⟩
  have HZ : Hid (w3.heap[w.heap.size + 1]? = _) := (hb3.block _ hzl).trans HZ2.out
  clear hb3 hr3 hk3 HB2 HA2 HZ2
  go_upto_region 2 with fail
  rw [← e3]
  clear e3
  obtain ⟨p, ep⟩ : ∃ p, p = w2.heap.size := ⟨_, rfl⟩
  rw [← ep] at HS hal hzl ⊢
  clear ep
  obtain ⟨z0, z1, z2, z3, z4, z5, z6, z7, z8, z9⟩ := HS.out.ab.at_
  obtain ⟨r0, r1, r2, r3⟩ := HS.out.rb.at_
  obtain ⟨x0, x1, x2, x3⟩ := HS.out.hk.at_
  go_upto_region 3 with (fail)
  go_wp2_with (refine wpList_store_row rfl 63 (.tmp 8) (.tmp 29) rfl (w.heap.size + 1) #[.int .i64 0, .int .i64 0, .int .i64 0, .int .i64 0, .int .i64 0, .int .i64 0, .string ⟨#[]⟩, .int .i64 0, .int .i64 0, .int .i64 0, .bool false, .int .i64 0, .string ⟨#[]⟩, .string ⟨#[]⟩, .int .i64 0, .int .i64 0, .int .i64 0, .int .i64 0, .int .i64 0, .int .i64 0, .string ⟨#[]⟩, .string ⟨#[]⟩, .int .i64 0, .int .i64 0, .slice none 0 0] rfl rfl 63 #[.int .i64 0, .int .i64 0, .int .i64 0, .int .i64 0, .int .i64 0, .int .i64 0, .string ⟨#[]⟩, .int .i64 0, .int .i64 0, .int .i64 0, .bool false, .int .i64 0, .string ⟨#[]⟩, .string ⟨#[]⟩, .int .i64 0, .int .i64 0, .int .i64 0, .int .i64 0, .int .i64 0, .int .i64 0, .string ⟨#[]⟩, .string ⟨#[]⟩, .int .i64 0, .int .i64 0, .slice none 0 0] HZ.out cm_info rfl (by simp [Value.oneCell']) ?_)
  refine bodyPost_ret (v := .tuple #[.agg #[.int .i64 0, .int .i64 0, .int .i64 0, .int .i64 0, .int .i64 0, .int .i64 0, .string ⟨#[]⟩, .int .i64 0, .int .i64 0, .int .i64 0, .bool false, .int .i64 0, .string ⟨#[]⟩, .string ⟨#[]⟩, .int .i64 0, .int .i64 0, .int .i64 0, .int .i64 0, .int .i64 0, .int .i64 0, .string ⟨#[]⟩, .string ⟨#[]⟩, .int .i64 0, .int .i64 0, .slice none 0 0], .bool false]) ?r ?d ?_
  case r => exact results_cell_tmp' rfl _ _ (w.heap.size + 1) 63 #[.int .i64 0, .int .i64 0, .int .i64 0, .int .i64 0, .int .i64 0, .int .i64 0, .string ⟨#[]⟩, .int .i64 0, .int .i64 0, .int .i64 0, .bool false, .int .i64 0, .string ⟨#[]⟩, .string ⟨#[]⟩, .int .i64 0, .int .i64 0, .int .i64 0, .int .i64 0, .int .i64 0, .int .i64 0, .string ⟨#[]⟩, .string ⟨#[]⟩, .int .i64 0, .int .i64 0, .slice none 0 0] (0, 0) _ (.bool false) rfl rfl (setRow_heap _ _ _ _ _ _ HZ.out) Try.underlying63 rfl cm_info
  case d => rfl
  exact ⟨rfl, below_setRow HS.out.bl (by omega) _⟩
set_option maxRecDepth 100000 in
set_option maxHeartbeats 8000000 in
theorem report_still {w : World} {b a : Option Addr} {m d n c : Nat} {l : List Rt} {g node v : Int} {A : Ac} (hl : Rs w b m l) (hlw : ∀ x ∈ l, RtW x) (h : Hs w a n A.hs) (hw : AcW A) (h1 : heldE l g A node = 0) (h3 : A.rd = 0) :
    Calls Try.prog 30 #[.slice b m d, .int .i64 g, .agg #[.string A.key, .int .i64 A.lo, .int .i64 A.hi, .int .i64 A.base, .int .i64 A.rd, .slice a n c, .int .i64 A.lk.c, .int .i64 A.lk.s, .int .i64 A.lk.h, .int .i64 A.lk.n], .int .i64 node] w fun e w' => e = .returned (.tuple #[.agg #[.int .i64 0, .int .i64 0, .int .i64 0, .int .i64 0, .int .i64 0, .int .i64 0, .string ⟨#[]⟩, .int .i64 0, .int .i64 0, .int .i64 0, .bool false, .int .i64 0, .string ⟨#[]⟩, .string ⟨#[]⟩, .int .i64 0, .int .i64 0, .int .i64 0, .int .i64 0, .int .i64 0, .int .i64 0, .string ⟨#[]⟩, .string ⟨#[]⟩, .int .i64 0, .int .i64 0, .slice none 0 0], .bool false]) ∧ Below w.heap.size w w' := by
  have HE := fun W => hide (fun hW : Below w.heap.size w W => held_x (d := d) (c := c) (g := g) (node := node) (hl.below hW) (h.below hW) hw rfl rfl rfl)
  have HF := hide (fun e => held_facts (node := node) (g := g) hw hlw e)
  have HAW := hide hw
  generalize heldE l g A node = E at *
  generalize heldR l g A node = R at *
  generalize heldH l g A node = X at *
  subst h1
  have H3 := hide h3
  clear hl hlw h hw HF HAW h3
  obtain ⟨w1, ew, hb1, ha1, hz1⟩ := acc_rc w A a n c
  have HB1 := hide hb1
  have HA1 := hide ha1
  have HZ1 : Hid (w1.heap[w.heap.size + 1]? = _) := hz1
  have hz1l : w.heap.size + 1 < w1.heap.size := (Array.getElem?_eq_some_iff.1 hz1).1
  obtain ⟨z0, z1, z2, z3, z4, z5, z6, z7, z8, z9⟩ := HA1.out.at_
  clear hb1 ha1 hz1
  go_enter Try.func30, Try.ntmps30
  go_wp2_with fail
  rw [← ew]
  clear ew
  refine ((HE _).out HB1.out).mono ?_
  rintro e w2 ⟨rfl, hb⟩
  have HB2 : Hid (Below w.heap.size w w2) := HB1.out.trans (hb.mono HB1.out.size)
  have HA2 := hide (HA1.out.below hb)
  have HZ2 : Hid (w2.heap[w.heap.size + 1]? = _) := (hb.block _ hz1l).trans HZ1.out
  have hzl : w.heap.size + 1 < w2.heap.size := Nat.lt_of_lt_of_le hz1l hb.size
  have hal : w.heap.size < w2.heap.size := HA2.out.lt
  clear hb z0 z1 z2 z3 z4 z5 z6 z7 z8 z9 HE HB1 HA1 HZ1 hz1l
  obtain ⟨w3, e3, hb3, hr3, hk3⟩ := rx_new w2 R X
  have HS : Hid (Sz w w3 A a n c w2.heap.size R X) := ⟨HB2.out.trans (hb3.mono HB2.out.size), HA2.out.below hb3, hr3, hk3⟩
  have HZ : Hid (w3.heap[w.heap.size + 1]? = _) := (hb3.block _ hzl).trans HZ2.out
  clear hb3 hr3 hk3 HB2 HA2 HZ2
  go_upto_region 2 with fail
  rw [← e3]
  clear e3
  obtain ⟨p, ep⟩ : ∃ p, p = w2.heap.size := ⟨_, rfl⟩
  rw [← ep] at HS hal hzl ⊢
  clear ep
  obtain ⟨z0, z1, z2, z3, z4, z5, z6, z7, z8, z9⟩ := HS.out.ab.at_
  obtain ⟨r0, r1, r2, r3⟩ := HS.out.rb.at_
  obtain ⟨x0, x1, x2, x3⟩ := HS.out.hk.at_
  have h3 := H3.out
  go_upto_region 3 with (fail)
  go_wp2_with (refine wpList_store_row rfl 63 (.tmp 8) (.tmp 29) rfl (w.heap.size + 1) #[.int .i64 0, .int .i64 0, .int .i64 0, .int .i64 0, .int .i64 0, .int .i64 0, .string ⟨#[]⟩, .int .i64 0, .int .i64 0, .int .i64 0, .bool false, .int .i64 0, .string ⟨#[]⟩, .string ⟨#[]⟩, .int .i64 0, .int .i64 0, .int .i64 0, .int .i64 0, .int .i64 0, .int .i64 0, .string ⟨#[]⟩, .string ⟨#[]⟩, .int .i64 0, .int .i64 0, .slice none 0 0] rfl rfl 63 #[.int .i64 0, .int .i64 0, .int .i64 0, .int .i64 0, .int .i64 0, .int .i64 0, .string ⟨#[]⟩, .int .i64 0, .int .i64 0, .int .i64 0, .bool false, .int .i64 0, .string ⟨#[]⟩, .string ⟨#[]⟩, .int .i64 0, .int .i64 0, .int .i64 0, .int .i64 0, .int .i64 0, .int .i64 0, .string ⟨#[]⟩, .string ⟨#[]⟩, .int .i64 0, .int .i64 0, .slice none 0 0] HZ.out cm_info rfl (by simp [Value.oneCell']) ?_)
  refine bodyPost_ret (v := .tuple #[.agg #[.int .i64 0, .int .i64 0, .int .i64 0, .int .i64 0, .int .i64 0, .int .i64 0, .string ⟨#[]⟩, .int .i64 0, .int .i64 0, .int .i64 0, .bool false, .int .i64 0, .string ⟨#[]⟩, .string ⟨#[]⟩, .int .i64 0, .int .i64 0, .int .i64 0, .int .i64 0, .int .i64 0, .int .i64 0, .string ⟨#[]⟩, .string ⟨#[]⟩, .int .i64 0, .int .i64 0, .slice none 0 0], .bool false]) ?r ?d ?_
  case r => exact results_cell_tmp' rfl _ _ (w.heap.size + 1) 63 #[.int .i64 0, .int .i64 0, .int .i64 0, .int .i64 0, .int .i64 0, .int .i64 0, .string ⟨#[]⟩, .int .i64 0, .int .i64 0, .int .i64 0, .bool false, .int .i64 0, .string ⟨#[]⟩, .string ⟨#[]⟩, .int .i64 0, .int .i64 0, .int .i64 0, .int .i64 0, .int .i64 0, .int .i64 0, .string ⟨#[]⟩, .string ⟨#[]⟩, .int .i64 0, .int .i64 0, .slice none 0 0] (0, 0) _ (.bool false) rfl rfl (setRow_heap _ _ _ _ _ _ HZ.out) Try.underlying63 rfl cm_info
  case d => rfl
  exact ⟨rfl, below_setRow HS.out.bl (by omega) _⟩
set_option maxRecDepth 100000 in
set_option maxHeartbeats 8000000 in
theorem report_yes {w : World} {b a : Option Addr} {m d n c : Nat} {l : List Rt} {g node v : Int} {A : Ac} (hl : Rs w b m l) (hlw : ∀ x ∈ l, RtW x) (h : Hs w a n A.hs) (hw : AcW A) (h1 : heldE l g A node = 0) (h3 : ¬ A.rd = 0) :
    Calls Try.prog 30 #[.slice b m d, .int .i64 g, .agg #[.string A.key, .int .i64 A.lo, .int .i64 A.hi, .int .i64 A.base, .int .i64 A.rd, .slice a n c, .int .i64 A.lk.c, .int .i64 A.lk.s, .int .i64 A.lk.h, .int .i64 A.lk.n], .int .i64 node] w fun e w' => e = .returned (.tuple #[.agg #[.int .i64 2, .int .i64 0, .int .i64 0, .int .i64 0, .int .i64 node, .int .i64 0, .string A.key, .int .i64 (heldH l g A node).ls, .int .i64 A.rd, .int .i64 (heldR l g A node).nt, .bool false, .int .i64 0, .string ⟨#[]⟩, .string ⟨#[]⟩, .int .i64 0, .int .i64 0, .int .i64 0, .int .i64 0, .int .i64 0, .int .i64 0, .string ⟨#[]⟩, .string ⟨#[]⟩, .int .i64 0, .int .i64 0, .slice none 0 0], .bool true]) ∧ Below w.heap.size w w' := by
  have HE := fun W => hide (fun hW : Below w.heap.size w W => held_x (d := d) (c := c) (g := g) (node := node) (hl.below hW) (h.below hW) hw rfl rfl rfl)
  have HF := hide (fun e => held_facts (node := node) (g := g) hw hlw e)
  have HAW := hide hw
  generalize heldE l g A node = E at *
  generalize heldR l g A node = R at *
  generalize heldH l g A node = X at *
  subst h1
  have k3 : (A.rd == (0 : Int)) = false := by simpa using h3
  clear hl hlw h hw HF HAW h3
  obtain ⟨w1, ew, hb1, ha1, hz1⟩ := acc_rc w A a n c
  have HB1 := hide hb1
  have HA1 := hide ha1
  have HZ1 : Hid (w1.heap[w.heap.size + 1]? = _) := hz1
  have hz1l : w.heap.size + 1 < w1.heap.size := (Array.getElem?_eq_some_iff.1 hz1).1
  obtain ⟨z0, z1, z2, z3, z4, z5, z6, z7, z8, z9⟩ := HA1.out.at_
  clear hb1 ha1 hz1
  go_enter Try.func30, Try.ntmps30
  go_wp2_with fail
  rw [← ew]
  clear ew
  refine ((HE _).out HB1.out).mono ?_
  rintro e w2 ⟨rfl, hb⟩
  have HB2 : Hid (Below w.heap.size w w2) := HB1.out.trans (hb.mono HB1.out.size)
  have HA2 := hide (HA1.out.below hb)
  have HZ2 : Hid (w2.heap[w.heap.size + 1]? = _) := (hb.block _ hz1l).trans HZ1.out
  have hzl : w.heap.size + 1 < w2.heap.size := Nat.lt_of_lt_of_le hz1l hb.size
  have hal : w.heap.size < w2.heap.size := HA2.out.lt
  clear hb z0 z1 z2 z3 z4 z5 z6 z7 z8 z9 HE HB1 HA1 HZ1 hz1l
  obtain ⟨w3, e3, hb3, hr3, hk3⟩ := rx_new w2 R X
  have HS : Hid (Sz w w3 A a n c w2.heap.size R X) := ⟨HB2.out.trans (hb3.mono HB2.out.size), HA2.out.below hb3, hr3, hk3⟩
  have HZ : Hid (w3.heap[w.heap.size + 1]? = _) := (hb3.block _ hzl).trans HZ2.out
  clear hb3 hr3 hk3 HB2 HA2 HZ2
  go_upto_region 2 with fail
  rw [← e3]
  clear e3
  obtain ⟨p, ep⟩ : ∃ p, p = w2.heap.size := ⟨_, rfl⟩
  rw [← ep] at HS hal hzl ⊢
  clear ep
  obtain ⟨z0, z1, z2, z3, z4, z5, z6, z7, z8, z9⟩ := HS.out.ab.at_
  obtain ⟨r0, r1, r2, r3⟩ := HS.out.rb.at_
  obtain ⟨x0, x1, x2, x3⟩ := HS.out.hk.at_
  go_upto_region 4 with (fail)
  go_wp2_with (refine wpList_store_row rfl 63 (.tmp 8) (.tmp 39) rfl (w.heap.size + 1) #[.int .i64 2, .int .i64 0, .int .i64 0, .int .i64 0, .int .i64 node, .int .i64 0, .string A.key, .int .i64 X.ls, .int .i64 A.rd, .int .i64 R.nt, .bool false, .int .i64 0, .string ⟨#[]⟩, .string ⟨#[]⟩, .int .i64 0, .int .i64 0, .int .i64 0, .int .i64 0, .int .i64 0, .int .i64 0, .string ⟨#[]⟩, .string ⟨#[]⟩, .int .i64 0, .int .i64 0, .slice none 0 0] rfl rfl 63 #[.int .i64 0, .int .i64 0, .int .i64 0, .int .i64 0, .int .i64 0, .int .i64 0, .string ⟨#[]⟩, .int .i64 0, .int .i64 0, .int .i64 0, .bool false, .int .i64 0, .string ⟨#[]⟩, .string ⟨#[]⟩, .int .i64 0, .int .i64 0, .int .i64 0, .int .i64 0, .int .i64 0, .int .i64 0, .string ⟨#[]⟩, .string ⟨#[]⟩, .int .i64 0, .int .i64 0, .slice none 0 0] HZ.out cm_info rfl (by simp [Value.oneCell']) ?_)
  refine bodyPost_ret (v := .tuple #[.agg #[.int .i64 2, .int .i64 0, .int .i64 0, .int .i64 0, .int .i64 node, .int .i64 0, .string A.key, .int .i64 X.ls, .int .i64 A.rd, .int .i64 R.nt, .bool false, .int .i64 0, .string ⟨#[]⟩, .string ⟨#[]⟩, .int .i64 0, .int .i64 0, .int .i64 0, .int .i64 0, .int .i64 0, .int .i64 0, .string ⟨#[]⟩, .string ⟨#[]⟩, .int .i64 0, .int .i64 0, .slice none 0 0], .bool true]) ?r ?d ?_
  case r => exact results_cell_tmp' rfl _ _ (w.heap.size + 1) 63 #[.int .i64 2, .int .i64 0, .int .i64 0, .int .i64 0, .int .i64 node, .int .i64 0, .string A.key, .int .i64 X.ls, .int .i64 A.rd, .int .i64 R.nt, .bool false, .int .i64 0, .string ⟨#[]⟩, .string ⟨#[]⟩, .int .i64 0, .int .i64 0, .int .i64 0, .int .i64 0, .int .i64 0, .int .i64 0, .string ⟨#[]⟩, .string ⟨#[]⟩, .int .i64 0, .int .i64 0, .slice none 0 0] (0, 0) _ (.bool true) rfl rfl (setRow_heap _ _ _ _ _ _ HZ.out) Try.underlying63 rfl cm_info
  case d => rfl
  exact ⟨rfl, below_setRow HS.out.bl (by omega) _⟩
theorem report_lx {w : World} {b a : Option Addr} {m d n c : Nat} {l : List Rt} {g node : Int} {A : Ac} {C : Cmd} {z : Bool} (hl : Rs w b m l) (hlw : ∀ x ∈ l, RtW x) (h : Hs w a n A.hs) (hw : AcW A) (eB : repB l g A node = z) (eC : repC l g A node = C) :
    Calls Try.prog 30 #[.slice b m d, .int .i64 g, .agg #[.string A.key, .int .i64 A.lo, .int .i64 A.hi, .int .i64 A.base, .int .i64 A.rd, .slice a n c, .int .i64 A.lk.c, .int .i64 A.lk.s, .int .i64 A.lk.h, .int .i64 A.lk.n], .int .i64 node] w fun e w' => e = .returned (.tuple #[.agg #[.int .i64 C.kind, .int .i64 0, .int .i64 0, .int .i64 0, .int .i64 C.node, .int .i64 0, .string C.key, .int .i64 C.ls, .int .i64 C.rd, .int .i64 C.nt, .bool false, .int .i64 0, .string ⟨#[]⟩, .string ⟨#[]⟩, .int .i64 0, .int .i64 0, .int .i64 0, .int .i64 0, .int .i64 0, .int .i64 0, .string ⟨#[]⟩, .string ⟨#[]⟩, .int .i64 0, .int .i64 0, .slice none 0 0], .bool z]) ∧ Below w.heap.size w w' := by
  subst eB
  subst eC
  by_cases h1 : heldE l g A node = 0
  · by_cases h3 : A.rd = 0
    · have e1 : repB l g A node = false := by unfold repB; rw [decide_eq_true h3]; simp
      have e2 : repC l g A node = cmd0 := by unfold repC; rw [e1]; rfl
      rw [e1, e2]
      exact report_still (v := 0) hl hlw h hw h1 h3
    · have e1 : repB l g A node = true := by unfold repB; rw [decide_eq_true h1, decide_eq_false h3]; rfl
      have e2 : repC l g A node = ⟨2, node, A.key, (heldH l g A node).ls, A.rd, (heldR l g A node).nt⟩ := by unfold repC; rw [if_pos e1]
      rw [e1, e2]
      exact report_yes (v := 0) hl hlw h hw h1 h3
  · have e1 : repB l g A node = false := by unfold repB; rw [decide_eq_false h1]; rfl
    have e2 : repC l g A node = cmd0 := by unfold repC; rw [e1]; rfl
    rw [e1, e2]
    exact report_no (v := 0) hl hlw h hw h1
end Go.Proofs.Ytjcbhgkfbilifaa

namespace Go.Proofs.Ytjcbhgkfbilifaa
open Go.ChangeShapes Go.WideShapes Go.ChangeAt Go.RowKit Ao Lg
set_option linter.unusedVariables false

theorem one_le {A : Ac} {node : Int} {x : Hd} (hr : Ao.Right A) (h : findH A.hs node = some x) : x.up ≤ ups A.hs ∧ x.dn ≤ downs A.hs := by
  have h1 := sums_drop node hr.hs
  have h2 := ups_nonneg (hs_drop node hr.hs)
  rw [h] at h1
  simp only [upOf, dnOf] at h1
  omega
theorem br_facts {l : List Rt} {g node : Int} {A : Ac} (hw : AcW A) (hlw : ∀ x ∈ l, RtW x) (h : heldE l g A node = 0) (hs : spB (heldH l g A node) (heldR l g A node).nt = true) :
    A.lo ≤ A.lo + (heldH l g A node).dn ∧ A.lo + (heldH l g A node).dn ≤ A.hi ∧ A.lo ≤ A.lo + (heldH l g A node).dn + (heldR l g A node).nt ∧ A.lo + (heldH l g A node).dn + (heldR l g A node).nt ≤ A.hi ∧ A.lo ≤ A.hi - (heldH l g A node).up ∧ A.hi - (heldH l g A node).up ≤ A.hi ∧ A.lo ≤ A.hi - (heldH l g A node).up + (heldR l g A node).nt ∧ A.hi - (heldH l g A node).up + (heldR l g A node).nt ≤ A.hi := by
  have hf := held_facts hw hlw h
  obtain ⟨h1, _, _, h4, _, _, _, h8, h9, _⟩ := hf
  have ho := one_le h1 h4
  have hb := h1.base
  have hu := h1.up
  have hd := h1.dn
  have hn := ups_nonneg h1.hs
  have := of_decide_eq_true (show decide _ = true from hs)
  omega
set_option maxRecDepth 100000 in
set_option maxHeartbeats 8000000 in
theorem bracket_no {w : World} {b a : Option Addr} {m d n c : Nat} {l : List Rt} {g node v : Int} {A : Ac} (hl : Rs w b m l) (hlw : ∀ x ∈ l, RtW x) (h : Hs w a n A.hs) (hw : AcW A) (h1 : ¬ heldE l g A node = 0) :
    Calls Try.prog 28 #[.slice b m d, .int .i64 g, .agg #[.string A.key, .int .i64 A.lo, .int .i64 A.hi, .int .i64 A.base, .int .i64 A.rd, .slice a n c, .int .i64 A.lk.c, .int .i64 A.lk.s, .int .i64 A.lk.h, .int .i64 A.lk.n], .int .i64 node] w fun e w' => e = .returned (.tuple #[.int .i64 0, .int .i64 0, .int .i64 (heldE l g A node)]) ∧ Below w.heap.size w w' := by
  have HE := fun W => hide (fun hW : Below w.heap.size w W => held_x (d := d) (c := c) (g := g) (node := node) (hl.below hW) (h.below hW) hw rfl rfl rfl)
  have HF := hide (fun e => held_facts (node := node) (g := g) hw hlw e)
  have HAW := hide hw
  generalize heldE l g A node = E at *
  generalize heldR l g A node = R at *
  generalize heldH l g A node = X at *
  have k3 : (E != (0 : Int)) = true := by simpa using h1
  clear hl hlw h hw HF HAW h1
  obtain ⟨w1, ew, hb1, ha1⟩ := one_new w A a n c
  have HB1 := hide hb1
  have HA1 := hide ha1
  obtain ⟨z0, z1, z2, z3, z4, z5, z6, z7, z8, z9⟩ := HA1.out.at_
  clear hb1 ha1
  go_enter Try.func28, Try.ntmps28
  go_wp2_with fail
  rw [← ew]
  clear ew
  refine ((HE _).out HB1.out).mono ?_
  rintro e w2 ⟨rfl, hb⟩
  have HB2 : Hid (Below w.heap.size w w2) := HB1.out.trans (hb.mono HB1.out.size)
  have HA2 := hide (HA1.out.below hb)
  have hal : w.heap.size < w2.heap.size := HA2.out.lt
  clear hb z0 z1 z2 z3 z4 z5 z6 z7 z8 z9 HE HB1 HA1
  obtain ⟨w3, e3, hb3, hr3, hk3⟩ := rx_new w2 R X
  have HS : Hid (Sz w w3 A a n c w2.heap.size R X) := ⟨HB2.out.trans (hb3.mono HB2.out.size), HA2.out.below hb3, hr3, hk3⟩
  clear hb3 hr3 hk3 HB2 HA2
  go_upto_region 2 with fail
  rw [← e3]
  clear e3
  obtain ⟨p, ep⟩ : ∃ p, p = w2.heap.size := ⟨_, rfl⟩
  rw [← ep] at HS hal ⊢
  clear ep
  obtain ⟨z0, z1, z2, z3, z4, z5, z6, z7, z8, z9⟩ := HS.out.ab.at_
  obtain ⟨r0, r1, r2, r3⟩ := HS.out.rb.at_
  obtain ⟨x0, x1, x2, x3⟩ := HS.out.hk.at_
  go_wp2_with fail
  go_returns
  exact ⟨rfl, HS.out.bl⟩
set_option maxRecDepth 100000 in
set_option maxHeartbeats 8000000 in
theorem bracket_frozen {w : World} {b a : Option Addr} {m d n c : Nat} {l : List Rt} {g node v : Int} {A : Ac} (hl : Rs w b m l) (hlw : ∀ x ∈ l, RtW x) (h : Hs w a n A.hs) (hw : AcW A) (h1 : heldE l g A node = 0) (h3 : ¬ A.rd = 0) :
    Calls Try.prog 28 #[.slice b m d, .int .i64 g, .agg #[.string A.key, .int .i64 A.lo, .int .i64 A.hi, .int .i64 A.base, .int .i64 A.rd, .slice a n c, .int .i64 A.lk.c, .int .i64 A.lk.s, .int .i64 A.lk.h, .int .i64 A.lk.n], .int .i64 node] w fun e w' => e = .returned (.tuple #[.int .i64 0, .int .i64 0, .int .i64 152]) ∧ Below w.heap.size w w' := by
  have HE := fun W => hide (fun hW : Below w.heap.size w W => held_x (d := d) (c := c) (g := g) (node := node) (hl.below hW) (h.below hW) hw rfl rfl rfl)
  have HF := hide (fun e => held_facts (node := node) (g := g) hw hlw e)
  have HAW := hide hw
  generalize heldE l g A node = E at *
  generalize heldR l g A node = R at *
  generalize heldH l g A node = X at *
  have k3 : (A.rd != (0 : Int)) = true := by simpa using h3
  subst h1
  clear hl hlw h hw HF HAW h3
  obtain ⟨w1, ew, hb1, ha1⟩ := one_new w A a n c
  have HB1 := hide hb1
  have HA1 := hide ha1
  obtain ⟨z0, z1, z2, z3, z4, z5, z6, z7, z8, z9⟩ := HA1.out.at_
  clear hb1 ha1
  go_enter Try.func28, Try.ntmps28
  go_wp2_with fail
  rw [← ew]
  clear ew
  refine ((HE _).out HB1.out).mono ?_
  rintro e w2 ⟨rfl, hb⟩
  have HB2 : Hid (Below w.heap.size w w2) := HB1.out.trans (hb.mono HB1.out.size)
  have HA2 := hide (HA1.out.below hb)
  have hal : w.heap.size < w2.heap.size := HA2.out.lt
  clear hb z0 z1 z2 z3 z4 z5 z6 z7 z8 z9 HE HB1 HA1
  obtain ⟨w3, e3, hb3, hr3, hk3⟩ := rx_new w2 R X
  have HS : Hid (Sz w w3 A a n c w2.heap.size R X) := ⟨HB2.out.trans (hb3.mono HB2.out.size), HA2.out.below hb3, hr3, hk3⟩
  clear hb3 hr3 hk3 HB2 HA2
  go_upto_region 2 with fail
  rw [← e3]
  clear e3
  obtain ⟨p, ep⟩ : ∃ p, p = w2.heap.size := ⟨_, rfl⟩
  rw [← ep] at HS hal ⊢
  clear ep
  obtain ⟨z0, z1, z2, z3, z4, z5, z6, z7, z8, z9⟩ := HS.out.ab.at_
  obtain ⟨r0, r1, r2, r3⟩ := HS.out.rb.at_
  obtain ⟨x0, x1, x2, x3⟩ := HS.out.hk.at_
  go_wp2_with fail
  go_returns
  exact ⟨rfl, HS.out.bl⟩
set_option maxRecDepth 100000 in
set_option maxHeartbeats 8000000 in
theorem bracket_bound {w : World} {b a : Option Addr} {m d n c : Nat} {l : List Rt} {g node v : Int} {A : Ac} (hl : Rs w b m l) (hlw : ∀ x ∈ l, RtW x) (h : Hs w a n A.hs) (hw : AcW A) (h1 : heldE l g A node = 0) (h3 : A.rd = 0) (h5 : ¬ spB (heldH l g A node) (heldR l g A node).nt = true) :
    Calls Try.prog 28 #[.slice b m d, .int .i64 g, .agg #[.string A.key, .int .i64 A.lo, .int .i64 A.hi, .int .i64 A.base, .int .i64 A.rd, .slice a n c, .int .i64 A.lk.c, .int .i64 A.lk.s, .int .i64 A.lk.h, .int .i64 A.lk.n], .int .i64 node] w fun e w' => e = .returned (.tuple #[.int .i64 0, .int .i64 0, .int .i64 150]) ∧ Below w.heap.size w w' := by
  have HE := fun W => hide (fun hW : Below w.heap.size w W => held_x (d := d) (c := c) (g := g) (node := node) (hl.below hW) (h.below hW) hw rfl rfl rfl)
  have HF := hide (fun e => held_facts (node := node) (g := g) hw hlw e)
  have HAW := hide hw
  have hf := HF.out h1
  have SP := fun W => hide (spend_any (heldH l g A node) (heldR l g A node).nt W hf.2.2.2.2.2.2.2.1 hf.2.2.2.2.2.2.1.dn.2)
  rw [show spB (heldH l g A node) (heldR l g A node).nt = false by simpa using h5] at SP
  have k3 : (A.rd != (0 : Int)) = false := by simpa using h3
  clear hf h5 h3
  generalize heldE l g A node = E at *
  generalize heldR l g A node = R at *
  generalize heldH l g A node = X at *
  subst h1
  clear hl hlw h hw HF HAW
  obtain ⟨w1, ew, hb1, ha1⟩ := one_new w A a n c
  have HB1 := hide hb1
  have HA1 := hide ha1
  obtain ⟨z0, z1, z2, z3, z4, z5, z6, z7, z8, z9⟩ := HA1.out.at_
  clear hb1 ha1
  go_enter Try.func28, Try.ntmps28
  go_wp2_with fail
  rw [← ew]
  clear ew
  refine ((HE _).out HB1.out).mono ?_
  rintro e w2 ⟨rfl, hb⟩
  have HB2 : Hid (Below w.heap.size w w2) := HB1.out.trans (hb.mono HB1.out.size)
  have HA2 := hide (HA1.out.below hb)
  have hal : w.heap.size < w2.heap.size := HA2.out.lt
  clear hb z0 z1 z2 z3 z4 z5 z6 z7 z8 z9 HE HB1 HA1
  obtain ⟨w3, e3, hb3, hr3, hk3⟩ := rx_new w2 R X
  have HS : Hid (Sz w w3 A a n c w2.heap.size R X) := ⟨HB2.out.trans (hb3.mono HB2.out.size), HA2.out.below hb3, hr3, hk3⟩
  clear hb3 hr3 hk3 HB2 HA2
  go_upto_region 2 with fail
  rw [← e3]
  clear e3
  obtain ⟨p, ep⟩ : ∃ p, p = w2.heap.size := ⟨_, rfl⟩
  rw [← ep] at HS hal ⊢
  clear ep
  obtain ⟨z0, z1, z2, z3, z4, z5, z6, z7, z8, z9⟩ := HS.out.ab.at_
  obtain ⟨r0, r1, r2, r3⟩ := HS.out.rb.at_
  obtain ⟨x0, x1, x2, x3⟩ := HS.out.hk.at_
  go_wp2_with fail
  refine (SP _).out.mono ?_
  rintro e w4 ⟨rfl, hb⟩
  have HS4 := hide (HS.out.below hb)
  clear hb r0 r1 r2 r3 x0 x1 x2 x3 z0 z1 z2 z3 z4 z5 z6 z7 z8 z9
  go_wp2_with fail
  go_returns
  exact ⟨rfl, HS4.out.bl⟩
set_option maxRecDepth 100000 in
set_option maxHeartbeats 8000000 in
theorem bracket_yes {w : World} {b a : Option Addr} {m d n c : Nat} {l : List Rt} {g node v : Int} {A : Ac} (hl : Rs w b m l) (hlw : ∀ x ∈ l, RtW x) (h : Hs w a n A.hs) (hw : AcW A) (h1 : heldE l g A node = 0) (h3 : A.rd = 0) (h5 : spB (heldH l g A node) (heldR l g A node).nt = true) :
    Calls Try.prog 28 #[.slice b m d, .int .i64 g, .agg #[.string A.key, .int .i64 A.lo, .int .i64 A.hi, .int .i64 A.base, .int .i64 A.rd, .slice a n c, .int .i64 A.lk.c, .int .i64 A.lk.s, .int .i64 A.lk.h, .int .i64 A.lk.n], .int .i64 node] w fun e w' => e = .returned (.tuple #[.int .i64 (A.lo + (heldH l g A node).dn + (heldR l g A node).nt), .int .i64 (A.hi - (heldH l g A node).up + (heldR l g A node).nt), .int .i64 0]) ∧ Below w.heap.size w w' := by
  have HE := fun W => hide (fun hW : Below w.heap.size w W => held_x (d := d) (c := c) (g := g) (node := node) (hl.below hW) (h.below hW) hw rfl rfl rfl)
  have HF := hide (fun e => held_facts (node := node) (g := g) hw hlw e)
  have HAW := hide hw
  have hf := HF.out h1
  have SP := fun W => hide (spend_any (heldH l g A node) (heldR l g A node).nt W hf.2.2.2.2.2.2.2.1 hf.2.2.2.2.2.2.1.dn.2)
  have B := br_facts hw hlw h1 h5
  rw [h5] at SP
  have k3 : (A.rd != (0 : Int)) = false := by simpa using h3
  have b1 := hw.lo
  have b2 := hw.hi
  clear hf h5 h3
  generalize heldE l g A node = E at *
  generalize heldR l g A node = R at *
  generalize heldH l g A node = X at *
  subst h1
  unfold I64 at b1 b2
  have v1 : IntKind.i64.wrap (A.lo + X.dn) = A.lo + X.dn := by rw [IntKind.wrap_i64]; omega
  have v2 : IntKind.i64.wrap (A.lo + X.dn + R.nt) = A.lo + X.dn + R.nt := by rw [IntKind.wrap_i64]; omega
  have v3 : IntKind.i64.wrap (A.hi - X.up) = A.hi - X.up := by rw [IntKind.wrap_i64]; omega
  have v4 : IntKind.i64.wrap (A.hi - X.up + R.nt) = A.hi - X.up + R.nt := by rw [IntKind.wrap_i64]; omega
  clear hl hlw h hw HF HAW B b1 b2
  obtain ⟨w1, ew, hb1, ha1⟩ := one_new w A a n c
  have HB1 := hide hb1
  have HA1 := hide ha1
  obtain ⟨z0, z1, z2, z3, z4, z5, z6, z7, z8, z9⟩ := HA1.out.at_
  clear hb1 ha1
  go_enter Try.func28, Try.ntmps28
  go_wp2_with fail
  rw [← ew]
  clear ew
  refine ((HE _).out HB1.out).mono ?_
  rintro e w2 ⟨rfl, hb⟩
  have HB2 : Hid (Below w.heap.size w w2) := HB1.out.trans (hb.mono HB1.out.size)
  have HA2 := hide (HA1.out.below hb)
  have hal : w.heap.size < w2.heap.size := HA2.out.lt
  clear hb z0 z1 z2 z3 z4 z5 z6 z7 z8 z9 HE HB1 HA1
  obtain ⟨w3, e3, hb3, hr3, hk3⟩ := rx_new w2 R X
  have HS : Hid (Sz w w3 A a n c w2.heap.size R X) := ⟨HB2.out.trans (hb3.mono HB2.out.size), HA2.out.below hb3, hr3, hk3⟩
  clear hb3 hr3 hk3 HB2 HA2
  go_upto_region 2 with fail
  rw [← e3]
  clear e3
  obtain ⟨p, ep⟩ : ∃ p, p = w2.heap.size := ⟨_, rfl⟩
  rw [← ep] at HS hal ⊢
  clear ep
  obtain ⟨z0, z1, z2, z3, z4, z5, z6, z7, z8, z9⟩ := HS.out.ab.at_
  obtain ⟨r0, r1, r2, r3⟩ := HS.out.rb.at_
  obtain ⟨x0, x1, x2, x3⟩ := HS.out.hk.at_
  go_wp2_with fail
  refine (SP _).out.mono ?_
  rintro e w4 ⟨rfl, hb⟩
  have HS4 := hide (HS.out.below hb)
  clear hb r0 r1 r2 r3 x0 x1 x2 x3 z0 z1 z2 z3 z4 z5 z6 z7 z8 z9
  have c1 := HS4.out.ab.at_.c1
  have c2 := HS4.out.ab.at_.c2
  have c3 := HS4.out.rb.at_.c3
  obtain ⟨_, _, c4, c5⟩ := HS4.out.hk.at_
  go_wp2_with fail
  refine wp_region_cells w [(⟨w.heap.size, 1, none⟩, .int .i64 A.lo), (⟨w.heap.size, 2, none⟩, .int .i64 A.hi), (⟨p, 3, none⟩, .int .i64 R.nt), (⟨p + 1, 2, none⟩, .int .i64 X.up), (⟨p + 1, 3, none⟩, .int .i64 X.dn)] (by kernel_rfl) (by kernel_rfl) HS4.out.bl (by simp at c3; simp [AllCells, c1, c2, c3, c4, c5]) ?_
  intro hne qq
  simp only [AllCells, and_true] at qq
  clear c1 c2 c3 c4 c5
  repeat (go_big_quiet_step (fail))
  refine wpQuiet_nil ?_
  rintro _ ⟨y9, rfl⟩
  have BQ : Hid (Below w.heap.size w y9.x) := y9.below
  clear qq hne
  go_wp2_with fail
  go_returns
  exact ⟨rfl, BQ.out⟩
theorem bracket_x {w : World} {b a : Option Addr} {m d n c : Nat} {l : List Rt} {g node E x y : Int} {A : Ac} (hl : Rs w b m l) (hlw : ∀ x ∈ l, RtW x) (h : Hs w a n A.hs) (hw : AcW A) (eE : brE l g A node = E) (eL : brLo l g A node = x) (eH : brHi l g A node = y) :
    Calls Try.prog 28 #[.slice b m d, .int .i64 g, .agg #[.string A.key, .int .i64 A.lo, .int .i64 A.hi, .int .i64 A.base, .int .i64 A.rd, .slice a n c, .int .i64 A.lk.c, .int .i64 A.lk.s, .int .i64 A.lk.h, .int .i64 A.lk.n], .int .i64 node] w fun e w' => e = .returned (.tuple #[.int .i64 x, .int .i64 y, .int .i64 E]) ∧ Below w.heap.size w w' := by
  subst eE
  subst eL
  subst eH
  by_cases h1 : heldE l g A node = 0
  · by_cases h3 : A.rd = 0
    · by_cases h5 : spB (heldH l g A node) (heldR l g A node).nt = true
      · have e1 : brE l g A node = 0 := by unfold brE; rw [if_pos h1, if_pos h3, if_pos h5]
        have e2 : brLo l g A node = A.lo + (heldH l g A node).dn + (heldR l g A node).nt := by unfold brLo; rw [if_pos e1]
        have e3 : brHi l g A node = A.hi - (heldH l g A node).up + (heldR l g A node).nt := by unfold brHi; rw [if_pos e1]
        rw [e1, e2, e3]
        exact bracket_yes (v := 0) hl hlw h hw h1 h3 h5
      · have e1 : brE l g A node = 150 := by unfold brE; rw [if_pos h1, if_pos h3, if_neg h5]
        have e2 : brLo l g A node = 0 := by unfold brLo; rw [if_neg (by omega)]
        have e3 : brHi l g A node = 0 := by unfold brHi; rw [if_neg (by omega)]
        rw [e1, e2, e3]
        exact bracket_bound (v := 0) hl hlw h hw h1 h3 h5
    · have e1 : brE l g A node = 152 := by unfold brE; rw [if_pos h1, if_neg h3]
      have e2 : brLo l g A node = 0 := by unfold brLo; rw [if_neg (by omega)]
      have e3 : brHi l g A node = 0 := by unfold brHi; rw [if_neg (by omega)]
      rw [e1, e2, e3]
      exact bracket_frozen (v := 0) hl hlw h hw h1 h3
  · have e1 : brE l g A node = heldE l g A node := by unfold brE; rw [if_neg h1]
    have e2 : brLo l g A node = 0 := by unfold brLo; rw [if_neg (by rw [e1]; exact h1)]
    have e3 : brHi l g A node = 0 := by unfold brHi; rw [if_neg (by rw [e1]; exact h1)]
    rw [e1, e2, e3]
    exact bracket_no (v := 0) hl hlw h hw h1
end Go.Proofs.Ytjcbhgkfbilifaa
