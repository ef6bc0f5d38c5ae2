/- What a node reports, and between which numbers it knows the total: the landed Report, Bracket. Condition: the ledger and the account can be read. -/
import Derived.Test.YtjcbhgkfbilifabLgSpend
namespace Go.Proofs.Ytjcbhgkfbilifab
open Go.ChangeShapes Go.WideShapes Go.ChangeAt Go.RowKit Ao Lg
set_option linter.unusedVariables false

/-- a command of which only these say anything -/
structure Cmd where
  kind : Int
  node : Int
  key : ByteArray
  ls : Int
  rd : Int
  nt : Int
def cmd0 : Cmd := ⟨0, 0, ⟨#[]⟩, 0, 0, 0⟩
def repB (l : List Rt) (g : Int) (A : Ac) (node : Int) : Bool := decide (heldE l g A node = 0) && !decide (A.rd = 0)
def repC (l : List Rt) (g : Int) (A : Ac) (node : Int) : Cmd := if repB l g A node = true then ⟨2, node, A.key, (heldH l g A node).ls, A.rd, (heldR l g A node).nt⟩ else cmd0
theorem cm_info : (Try.prog.info? 52).map (·.size) = some 25 := by kernel_rfl
theorem acc_rc (w : World) (A : Ac) (a : Option Addr) (n c : Nat) : ∃ w1, w1 = (w.alloc (.cells #[.string A.key, .int .i64 A.lo, .int .i64 A.hi, .int .i64 A.base, .int .i64 A.rd, .slice a n c, .int .i64 A.lk.c, .int .i64 A.lk.s, .int .i64 A.lk.h, .int .i64 A.lk.n] 28)).alloc (.cells #[.int .i64 0, .int .i64 0, .int .i64 0, .int .i64 0, .int .i64 0, .int .i64 0, .string ⟨#[]⟩, .int .i64 0, .int .i64 0, .int .i64 0, .bool false, .int .i64 0, .string ⟨#[]⟩, .string ⟨#[]⟩, .int .i64 0, .int .i64 0, .int .i64 0, .int .i64 0, .int .i64 0, .int .i64 0, .string ⟨#[]⟩, .string ⟨#[]⟩, .int .i64 0, .int .i64 0, .slice none 0 0] 52) ∧ Below w.heap.size w w1 ∧ Ab w1 w.heap.size A a n c ∧ w1.heap[w.heap.size + 1]? = some (.cells #[.int .i64 0, .int .i64 0, .int .i64 0, .int .i64 0, .int .i64 0, .int .i64 0, .string ⟨#[]⟩, .int .i64 0, .int .i64 0, .int .i64 0, .bool false, .int .i64 0, .string ⟨#[]⟩, .string ⟨#[]⟩, .int .i64 0, .int .i64 0, .int .i64 0, .int .i64 0, .int .i64 0, .int .i64 0, .string ⟨#[]⟩, .string ⟨#[]⟩, .int .i64 0, .int .i64 0, .slice none 0 0] 52 (0, 0)) := by
  refine ⟨_, rfl, (Below.alloc (Below.refl _ _) (Nat.le_refl _) _).alloc (by simp) _, (ab_new w A a n c).below (Below.alloc (Below.refl _ _) (Nat.le_refl _) _), ?_⟩
  have := heap_alloc_new (w.alloc (.cells #[.string A.key, .int .i64 A.lo, .int .i64 A.hi, .int .i64 A.base, .int .i64 A.rd, .slice a n c, .int .i64 A.lk.c, .int .i64 A.lk.s, .int .i64 A.lk.h, .int .i64 A.lk.n] 28)) (.cells #[.int .i64 0, .int .i64 0, .int .i64 0, .int .i64 0, .int .i64 0, .int .i64 0, .string ⟨#[]⟩, .int .i64 0, .int .i64 0, .int .i64 0, .bool false, .int .i64 0, .string ⟨#[]⟩, .string ⟨#[]⟩, .int .i64 0, .int .i64 0, .int .i64 0, .int .i64 0, .int .i64 0, .int .i64 0, .string ⟨#[]⟩, .string ⟨#[]⟩, .int .i64 0, .int .i64 0, .slice none 0 0] 52)
  rw [World.size_alloc] at this
  exact this
set_option maxRecDepth 100000 in
set_option maxHeartbeats 8000000 in
theorem report_no {w : World} {b a : Option Addr} {m d n c : Nat} {l : List Rt} {g node v : Int} {A : Ac} (hl : Rs w b m l) (hlw : ∀ x ∈ l, RtW x) (h : Hs w a n A.hs) (hw : AcW A) (h1 : ¬ heldE l g A node = 0) :
    Calls Try.prog 10 #[.slice b m d, .int .i64 g, .agg #[.string A.key, .int .i64 A.lo, .int .i64 A.hi, .int .i64 A.base, .int .i64 A.rd, .slice a n c, .int .i64 A.lk.c, .int .i64 A.lk.s, .int .i64 A.lk.h, .int .i64 A.lk.n], .int .i64 node] w fun e w' => e = .returned (.tuple #[.agg #[.int .i64 0, .int .i64 0, .int .i64 0, .int .i64 0, .int .i64 0, .int .i64 0, .string ⟨#[]⟩, .int .i64 0, .int .i64 0, .int .i64 0, .bool false, .int .i64 0, .string ⟨#[]⟩, .string ⟨#[]⟩, .int .i64 0, .int .i64 0, .int .i64 0, .int .i64 0, .int .i64 0, .int .i64 0, .string ⟨#[]⟩, .string ⟨#[]⟩, .int .i64 0, .int .i64 0, .slice none 0 0], .bool false]) ∧ Below w.heap.size w w' := by
  have HE := fun W => hide (fun hW : Below w.heap.size w W => held_x (d := d) (c := c) (g := g) (node := node) (hl.below hW) (h.below hW) hw rfl rfl rfl)
  have HF := hide (fun e => held_facts (node := node) (g := g) hw hlw e)
  have HAW := hide hw
  generalize heldE l g A node = E at *
  generalize heldR l g A node = R at *
  generalize heldH l g A node = X at *
  have k3 : (E != (0 : Int)) = true := by simpa using h1
  clear hl hlw h hw HF HAW h1
  obtain ⟨w1, ew, hb1, ha1, hz1⟩ := acc_rc w A a n c
  have HB1 := hide hb1
  have HA1 := hide ha1
  have HZ1 : Hid (w1.heap[w.heap.size + 1]? = _) := hz1
  have hz1l : w.heap.size + 1 < w1.heap.size := (Array.getElem?_eq_some_iff.1 hz1).1
  obtain ⟨z0, z1, z2, z3, z4, z5, z6, z7, z8, z9⟩ := HA1.out.at_
  clear hb1 ha1 hz1
  go_enter Try.func10, Try.ntmps10
  go_wp2_with fail
  rw [← ew]
  clear ew
  refine ((HE _).out HB1.out).mono ?_
  rintro e w2 ⟨rfl, hb⟩
  have HB2 : Hid (Below w.heap.size w w2) := HB1.out.trans (hb.mono HB1.out.size)
  have HA2 := hide (HA1.out.below hb)
  have HZ2 : Hid (w2.heap[w.heap.size + 1]? = _) := (hb.block _ hz1l).trans HZ1.out
  have hzl : w.heap.size + 1 < w2.heap.size := Nat.lt_of_lt_of_le hz1l hb.size
  have hal : w.heap.size < w2.heap.size := HA2.out.lt
  clear hb z0 z1 z2 z3 z4 z5 z6 z7 z8 z9 HE HB1 HA1 HZ1 hz1l
  obtain ⟨w3, e3, hb3, hr3, hk3⟩ := rx_new w2 R X
  have HS : Hid (Sz w w3 A a n c w2.heap.size R X) := ⟨HB2.out.trans (hb3.mono HB2.out.size), HA2.out.below hb3, hr3, hk3⟩
  have HZ : Hid (w3.heap[w.heap.size + 1]? = _) := (hb3.block _ hzl).trans HZ2.out
  clear hb3 hr3 hk3 HB2 HA2 HZ2
  go_upto_region 2 with fail
  rw [← e3]
  clear e3
  obtain ⟨p, ep⟩ : ∃ p, p = w2.heap.size := ⟨_, rfl⟩
  rw [← ep] at HS hal hzl ⊢
  clear ep
  obtain ⟨z0, z1, z2, z3, z4, z5, z6, z7, z8, z9⟩ := HS.out.ab.at_
  obtain ⟨r0, r1, r2, r3⟩ := HS.out.rb.at_
  obtain ⟨x0, x1, x2, x3⟩ := HS.out.hk.at_
  go_upto_region 3 with (fail)
  go_wp2_with (refine wpList_store_row rfl 52 (.tmp 8) (.tmp 29) rfl (w.heap.size + 1) #[.int .i64 0, .int .i64 0, .int .i64 0, .int .i64 0, .int .i64 0, .int .i64 0, .string ⟨#[]⟩, .int .i64 0, .int .i64 0, .int .i64 0, .bool false, .int .i64 0, .string ⟨#[]⟩, .string ⟨#[]⟩, .int .i64 0, .int .i64 0, .int .i64 0, .int .i64 0, .int .i64 0, .int .i64 0, .string ⟨#[]⟩, .string ⟨#[]⟩, .int .i64 0, .int .i64 0, .slice none 0 0] rfl rfl 52 #[.int .i64 0, .int .i64 0, .int .i64 0, .int .i64 0, .int .i64 0, .int .i64 0, .string ⟨#[]⟩, .int .i64 0, .int .i64 0, .int .i64 0, .bool false, .int .i64 0, .string ⟨#[]⟩, .string ⟨#[]⟩, .int .i64 0, .int .i64 0, .int .i64 0, .int .i64 0, .int .i64 0, .int .i64 0, .string ⟨#[]⟩, .string ⟨#[]⟩, .int .i64 0, .int .i64 0, .slice none 0 0] HZ.out cm_info rfl (by simp [Value.oneCell']) ?_)
  refine bodyPost_ret (v := .tuple #[.agg #[.int .i64 0, .int .i64 0, .int .i64 0, .int .i64 0, .int .i64 0, .int .i64 0, .string ⟨#[]⟩, .int .i64 0, .int .i64 0, .int .i64 0, .bool false, .int .i64 0, .string ⟨#[]⟩, .string ⟨#[]⟩, .int .i64 0, .int .i64 0, .int .i64 0, .int .i64 0, .int .i64 0, .int .i64 0, .string ⟨#[]⟩, .string ⟨#[]⟩, .int .i64 0, .int .i64 0, .slice none 0 0], .bool false]) ?r ?d ?_
  case r => exact results_cell_tmp' rfl _ _ (w.heap.size + 1) 52 #[.int .i64 0, .int .i64 0, .int .i64 0, .int .i64 0, .int .i64 0, .int .i64 0, .string ⟨#[]⟩, .int .i64 0, .int .i64 0, .int .i64 0, .bool false, .int .i64 0, .string ⟨#[]⟩, .string ⟨#[]⟩, .int .i64 0, .int .i64 0, .int .i64 0, .int .i64 0, .int .i64 0, .int .i64 0, .string ⟨#[]⟩, .string ⟨#[]⟩, .int .i64 0, .int .i64 0, .slice none 0 0] (0, 0) _ (.bool false) rfl rfl (setRow_heap _ _ _ _ _ _ HZ.out) Try.underlying52 rfl cm_info
  case d => rfl
  exact ⟨rfl, below_setRow HS.out.bl (by omega) _⟩
set_option maxRecDepth 100000 in
set_option maxHeartbeats 8000000 in
theorem report_still {w : World} {b a : Option Addr} {m d n c : Nat} {l : List Rt} {g node v : Int} {A : Ac} (hl : Rs w b m l) (hlw : ∀ x ∈ l, RtW x) (h : Hs w a n A.hs) (hw : AcW A) (h1 : heldE l g A node = 0) (h3 : A.rd = 0) :
    Calls Try.prog 10 #[.slice b m d, .int .i64 g, .agg #[.string A.key, .int .i64 A.lo, .int .i64 A.hi, .int .i64 A.base, .int .i64 A.rd, .slice a n c, .int .i64 A.lk.c, .int .i64 A.lk.s, .int .i64 A.lk.h, .int .i64 A.lk.n], .int .i64 node] w fun e w' => e = .returned (.tuple #[.agg #[.int .i64 0, .int .i64 0, .int .i64 0, .int .i64 0, .int .i64 0, .int .i64 0, .string ⟨#[]⟩, .int .i64 0, .int .i64 0, .int .i64 0, .bool false, .int .i64 0, .string ⟨#[]⟩, .string ⟨#[]⟩, .int .i64 0, .int .i64 0, .int .i64 0, .int .i64 0, .int .i64 0, .int .i64 0, .string ⟨#[]⟩, .string ⟨#[]⟩, .int .i64 0, .int .i64 0, .slice none 0 0], .bool false]) ∧ Below w.heap.size w w' := by
  have HE := fun W => hide (fun hW : Below w.heap.size w W => held_x (d := d) (c := c) (g := g) (node := node) (hl.below hW) (h.below hW) hw rfl rfl rfl)
  have HF := hide (fun e => held_facts (node := node) (g := g) hw hlw e)
  have HAW := hide hw
  generalize heldE l g A node = E at *
  generalize heldR l g A node = R at *
  generalize heldH l g A node = X at *
  subst h1
  have H3 := hide h3
  clear hl hlw h hw HF HAW h3
  obtain ⟨w1, ew, hb1, ha1, hz1⟩ := acc_rc w A a n c
  have HB1 := hide hb1
  have HA1 := hide ha1
  have HZ1 : Hid (w1.heap[w.heap.size + 1]? = _) := hz1
  have hz1l : w.heap.size + 1 < w1.heap.size := (Array.getElem?_eq_some_iff.1 hz1).1
  obtain ⟨z0, z1, z2, z3, z4, z5, z6, z7, z8, z9⟩ := HA1.out.at_
  clear hb1 ha1 hz1
  go_enter Try.func10, Try.ntmps10
  go_wp2_with fail
  rw [← ew]
  clear ew
  refine ((HE _).out HB1.out).mono ?_
  rintro e w2 ⟨rfl, hb⟩
  have HB2 : Hid (Below w.heap.size w w2) := HB1.out.trans (hb.mono HB1.out.size)
  have HA2 := hide (HA1.out.below hb)
  have HZ2 : Hid (w2.heap[w.heap.size + 1]? = _) := (hb.block _ hz1l).trans HZ1.out
  have hzl : w.heap.size + 1 < w2.heap.size := Nat.lt_of_lt_of_le hz1l hb.size
  have hal : w.heap.size < w2.heap.size := HA2.out.lt
  clear hb z0 z1 z2 z3 z4 z5 z6 z7 z8 z9 HE HB1 HA1 HZ1 hz1l
  obtain ⟨w3, e3, hb3, hr3, hk3⟩ := rx_new w2 R X
  have HS : Hid (Sz w w3 A a n c w2.heap.size R X) := ⟨HB2.out.trans (hb3.mono HB2.out.size), HA2.out.below hb3, hr3, hk3⟩
  have HZ : Hid (w3.heap[w.heap.size + 1]? = _) := (hb3.block _ hzl).trans HZ2.out
  clear hb3 hr3 hk3 HB2 HA2 HZ2
  go_upto_region 2 with fail
  rw [← e3]
  clear e3
  obtain ⟨p, ep⟩ : ∃ p, p = w2.heap.size := ⟨_, rfl⟩
  rw [← ep] at HS hal hzl ⊢
  clear ep
  obtain ⟨z0, z1, z2, z3, z4, z5, z6, z7, z8, z9⟩ := HS.out.ab.at_
  obtain ⟨r0, r1, r2, r3⟩ := HS.out.rb.at_
  obtain ⟨x0, x1, x2, x3⟩ := HS.out.hk.at_
  have h3 := H3.out
  go_upto_region 3 with (fail)
  go_wp2_with (refine wpList_store_row rfl 52 (.tmp 8) (.tmp 29) rfl (w.heap.size + 1) #[.int .i64 0, .int .i64 0, .int .i64 0, .int .i64 0, .int .i64 0, .int .i64 0, .string ⟨#[]⟩, .int .i64 0, .int .i64 0, .int .i64 0, .bool false, .int .i64 0, .string ⟨#[]⟩, .string ⟨#[]⟩, .int .i64 0, .int .i64 0, .int .i64 0, .int .i64 0, .int .i64 0, .int .i64 0, .string ⟨#[]⟩, .string ⟨#[]⟩, .int .i64 0, .int .i64 0, .slice none 0 0] rfl rfl 52 #[.int .i64 0, .int .i64 0, .int .i64 0, .int .i64 0, .int .i64 0, .int .i64 0, .string ⟨#[]⟩, .int .i64 0, .int .i64 0, .int .i64 0, .bool false, .int .i64 0, .string ⟨#[]⟩, .string ⟨#[]⟩, .int .i64 0, .int .i64 0, .int .i64 0, .int .i64 0, .int .i64 0, .int .i64 0, .string ⟨#[]⟩, .string ⟨#[]⟩, .int .i64 0, .int .i64 0, .slice none 0 0] HZ.out cm_info rfl (by simp [Value.oneCell']) ?_)
  refine bodyPost_ret (v := .tuple #[.agg #[.int .i64 0, .int .i64 0, .int .i64 0, .int .i64 0, .int .i64 0, .int .i64 0, .string ⟨#[]⟩, .int .i64 0, .int .i64 0, .int .i64 0, .bool false, .int .i64 0, .string ⟨#[]⟩, .string ⟨#[]⟩, .int .i64 0, .int .i64 0, .int .i64 0, .int .i64 0, .int .i64 0, .int .i64 0, .string ⟨#[]⟩, .string ⟨#[]⟩, .int .i64 0, .int .i64 0, .slice none 0 0], .bool false]) ?r ?d ?_
  case r => exact results_cell_tmp' rfl _ _ (w.heap.size + 1) 52 #[.int .i64 0, .int .i64 0, .int .i64 0, .int .i64 0, .int .i64 0, .int .i64 0, .string ⟨#[]⟩, .int .i64 0, .int .i64 0, .int .i64 0, .bool false, .int .i64 0, .string ⟨#[]⟩, .string ⟨#[]⟩, .int .i64 0, .int .i64 0, .int .i64 0, .int .i64 0, .int .i64 0, .int .i64 0, .string ⟨#[]⟩, .string ⟨#[]⟩, .int .i64 0, .int .i64 0, .slice none 0 0] (0, 0) _ (.bool false) rfl rfl (setRow_heap _ _ _ _ _ _ HZ.out) Try.underlying52 rfl cm_info
  case d => rfl
  exact ⟨rfl, below_setRow HS.out.bl (by omega) _⟩
set_option maxRecDepth 100000 in
set_option maxHeartbeats 8000000 in
theorem report_yes {w : World} {b a : Option Addr} {m d n c : Nat} {l : List Rt} {g node v : Int} {A : Ac} (hl : Rs w b m l) (hlw : ∀ x ∈ l, RtW x) (h : Hs w a n A.hs) (hw : AcW A) (h1 : heldE l g A node = 0) (h3 : ¬ A.rd = 0) :
    Calls Try.prog 10 #[.slice b m d, .int .i64 g, .agg #[.string A.key, .int .i64 A.lo, .int .i64 A.hi, .int .i64 A.base, .int .i64 A.rd, .slice a n c, .int .i64 A.lk.c, .int .i64 A.lk.s, .int .i64 A.lk.h, .int .i64 A.lk.n], .int .i64 node] w fun e w' => e = .returned (.tuple #[.agg #[.int .i64 2, .int .i64 0, .int .i64 0, .int .i64 0, .int .i64 node, .int .i64 0, .string A.key, .int .i64 (heldH l g A node).ls, .int .i64 A.rd, .int .i64 (heldR l g A node).nt, .bool false, .int .i64 0, .string ⟨#[]⟩, .string ⟨#[]⟩, .int .i64 0, .int .i64 0, .int .i64 0, .int .i64 0, .int .i64 0, .int .i64 0, .string ⟨#[]⟩, .string ⟨#[]⟩, .int .i64 0, .int .i64 0, .slice none 0 0], .bool true]) ∧ Below w.heap.size w w' := by
  have HE := fun W => hide (fun hW : Below w.heap.size w W => held_x (d := d) (c := c) (g := g) (node := node) (hl.below hW) (h.below hW) hw rfl rfl rfl)
  have HF := hide (fun e => held_facts (node := node) (g := g) hw hlw e)
  have HAW := hide hw
  generalize heldE l g A node = E at *
  generalize heldR l g A node = R at *
  generalize heldH l g A node = X at *
  subst h1
  have k3 : (A.rd == (0 : Int)) = false := by simpa using h3
  clear hl hlw h hw HF HAW h3
  obtain ⟨w1, ew, hb1, ha1, hz1⟩ := acc_rc w A a n c
  have HB1 := hide hb1
  have HA1 := hide ha1
  have HZ1 : Hid (w1.heap[w.heap.size + 1]? = _) := hz1
  have hz1l : w.heap.size + 1 < w1.heap.size := (Array.getElem?_eq_some_iff.1 hz1).1
  obtain ⟨z0, z1, z2, z3, z4, z5, z6, z7, z8, z9⟩ := HA1.out.at_
  clear hb1 ha1 hz1
  go_enter Try.func10, Try.ntmps10
  go_wp2_with fail
  rw [← ew]
  clear ew
  refine ((HE _).out HB1.out).mono ?_
  rintro e w2 ⟨rfl, hb⟩
  have HB2 : Hid (Below w.heap.size w w2) := HB1.out.trans (hb.mono HB1.out.size)
  have HA2 := hide (HA1.out.below hb)
  have HZ2 : Hid (w2.heap[w.heap.size + 1]? = _) := (hb.block _ hz1l).trans HZ1.out
  have hzl : w.heap.size + 1 < w2.heap.size := Nat.lt_of_lt_of_le hz1l hb.size
  have hal : w.heap.size < w2.heap.size := HA2.out.lt
  clear hb z0 z1 z2 z3 z4 z5 z6 z7 z8 z9 HE HB1 HA1 HZ1 hz1l
  obtain ⟨w3, e3, hb3, hr3, hk3⟩ := rx_new w2 R X
  have HS : Hid (Sz w w3 A a n c w2.heap.size R X) := ⟨HB2.out.trans (hb3.mono HB2.out.size), HA2.out.below hb3, hr3, hk3⟩
  have HZ : Hid (w3.heap[w.heap.size + 1]? = _) := (hb3.block _ hzl).trans HZ2.out
  clear hb3 hr3 hk3 HB2 HA2 HZ2
  go_upto_region 2 with fail
  rw [← e3]
  clear e3
  obtain ⟨p, ep⟩ : ∃ p, p = w2.heap.size := ⟨_, rfl⟩
  rw [← ep] at HS hal hzl ⊢
  clear ep
  obtain ⟨z0, z1, z2, z3, z4, z5, z6, z7, z8, z9⟩ := HS.out.ab.at_
  obtain ⟨r0, r1, r2, r3⟩ := HS.out.rb.at_
  obtain ⟨x0, x1, x2, x3⟩ := HS.out.hk.at_
  go_upto_region 4 with (fail)
  go_wp2_with (refine wpList_store_row rfl 52 (.tmp 8) (.tmp 39) rfl (w.heap.size + 1) #[.int .i64 2, .int .i64 0, .int .i64 0, .int .i64 0, .int .i64 node, .int .i64 0, .string A.key, .int .i64 X.ls, .int .i64 A.rd, .int .i64 R.nt, .bool false, .int .i64 0, .string ⟨#[]⟩, .string ⟨#[]⟩, .int .i64 0, .int .i64 0, .int .i64 0, .int .i64 0, .int .i64 0, .int .i64 0, .string ⟨#[]⟩, .string ⟨#[]⟩, .int .i64 0, .int .i64 0, .slice none 0 0] rfl rfl 52 #[.int .i64 0, .int .i64 0, .int .i64 0, .int .i64 0, .int .i64 0, .int .i64 0, .string ⟨#[]⟩, .int .i64 0, .int .i64 0, .int .i64 0, .bool false, .int .i64 0, .string ⟨#[]⟩, .string ⟨#[]⟩, .int .i64 0, .int .i64 0, .int .i64 0, .int .i64 0, .int .i64 0, .int .i64 0, .string ⟨#[]⟩, .string ⟨#[]⟩, .int .i64 0, .int .i64 0, .slice none 0 0] HZ.out cm_info rfl (by simp [Value.oneCell']) ?_)
  refine bodyPost_ret (v := .tuple #[.agg #[.int .i64 2, .int .i64 0, .int .i64 0, .int .i64 0, .int .i64 node, .int .i64 0, .string A.key, .int .i64 X.ls, .int .i64 A.rd, .int .i64 R.nt, .bool false, .int .i64 0, .string ⟨#[]⟩, .string ⟨#[]⟩, .int .i64 0, .int .i64 0, .int .i64 0, .int .i64 0, .int .i64 0, .int .i64 0, .string ⟨#[]⟩, .string ⟨#[]⟩, .int .i64 0, .int .i64 0, .slice none 0 0], .bool true]) ?r ?d ?_
  case r => exact results_cell_tmp' rfl _ _ (w.heap.size + 1) 52 #[.int .i64 2, .int .i64 0, .int .i64 0, .int .i64 0, .int .i64 node, .int .i64 0, .string A.key, .int .i64 X.ls, .int .i64 A.rd, .int .i64 R.nt, .bool false, .int .i64 0, .string ⟨#[]⟩, .string ⟨#[]⟩, .int .i64 0, .int .i64 0, .int .i64 0, .int .i64 0, .int .i64 0, .int .i64 0, .string ⟨#[]⟩, .string ⟨#[]⟩, .int .i64 0, .int .i64 0, .slice none 0 0] (0, 0) _ (.bool true) rfl rfl (setRow_heap _ _ _ _ _ _ HZ.out) Try.underlying52 rfl cm_info
  case d => rfl
  exact ⟨rfl, below_setRow HS.out.bl (by omega) _⟩
theorem report_lx {w : World} {b a : Option Addr} {m d n c : Nat} {l : List Rt} {g node : Int} {A : Ac} {C : Cmd} {z : Bool} (hl : Rs w b m l) (hlw : ∀ x ∈ l, RtW x) (h : Hs w a n A.hs) (hw : AcW A) (eB : repB l g A node = z) (eC : repC l g A node = C) :
    Calls Try.prog 10 #[.slice b m d, .int .i64 g, .agg #[.string A.key, .int .i64 A.lo, .int .i64 A.hi, .int .i64 A.base, .int .i64 A.rd, .slice a n c, .int .i64 A.lk.c, .int .i64 A.lk.s, .int .i64 A.lk.h, .int .i64 A.lk.n], .int .i64 node] w fun e w' => e = .returned (.tuple #[.agg #[.int .i64 C.kind, .int .i64 0, .int .i64 0, .int .i64 0, .int .i64 C.node, .int .i64 0, .string C.key, .int .i64 C.ls, .int .i64 C.rd, .int .i64 C.nt, .bool false, .int .i64 0, .string ⟨#[]⟩, .string ⟨#[]⟩, .int .i64 0, .int .i64 0, .int .i64 0, .int .i64 0, .int .i64 0, .int .i64 0, .string ⟨#[]⟩, .string ⟨#[]⟩, .int .i64 0, .int .i64 0, .slice none 0 0], .bool z]) ∧ Below w.heap.size w w' := by
  subst eB
  subst eC
  by_cases h1 : heldE l g A node = 0
  · by_cases h3 : A.rd = 0
    · have e1 : repB l g A node = false := by unfold repB; rw [decide_eq_true h3]; simp
      have e2 : repC l g A node = cmd0 := by unfold repC; rw [e1]; rfl
      rw [e1, e2]
      exact report_still (v := 0) hl hlw h hw h1 h3
    · have e1 : repB l g A node = true := by unfold repB; rw [decide_eq_true h1, decide_eq_false h3]; rfl
      have e2 : repC l g A node = ⟨2, node, A.key, (heldH l g A node).ls, A.rd, (heldR l g A node).nt⟩ := by unfold repC; rw [if_pos e1]
      rw [e1, e2]
      exact report_yes (v := 0) hl hlw h hw h1 h3
  · have e1 : repB l g A node = false := by unfold repB; rw [decide_eq_false h1]; rfl
    have e2 : repC l g A node = cmd0 := by unfold repC; rw [e1]; rfl
    rw [e1, e2]
    exact report_no (v := 0) hl hlw h hw h1
end Go.Proofs.Ytjcbhgkfbilifab
