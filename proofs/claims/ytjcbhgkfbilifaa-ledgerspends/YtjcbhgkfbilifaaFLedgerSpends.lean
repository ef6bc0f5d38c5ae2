/- LedgerSpends: what a node may spend, between which numbers it knows the total, and what it reports: as the document says; no condition. -/
import Derived.Test.YtjcbhgkfbilifaaFLgRefF
import Derived.Test.YtjcbhgkfbilifaaFLgHelp
namespace Go.Proofs.Ytjcbhgkfbilifaa
namespace LedgerSpends
open Go.ChangeShapes Go.WideShapes Go.ChangeAt Go.RowKit Ao Lg
set_option linter.unusedVariables false

theorem load_row_g {P : Program} {ops : Array Oper} {rest : List Oper} {o : Oper} {a : Act} {w : World} {Q : Exit → Act → World → Prop} (hw : Region.wanted o (yielded ops a.tmps) = true) (ty : TypeId) (x : Operand) (ho : o.op = .load ty x)
    (g : Nat) (hx : a.eval x = .pointer (some ⟨g, 0, none⟩)) (t : TypeId) (cs : Array Value) (fr : Nat × Nat) (d : TypeDesc) (hg : w.heap[g]? = some (.cells cs t fr))
    (hu : P.underlying ty = some d) (hd : (match d with | .struct _ | .array _ _ => true | _ => false) = true) (hi : (P.info? ty).map (·.size) = some cs.size)
    (h : wpList P ops Q rest (a.put o.dst (.agg cs)) w) : wpList P ops Q (o :: rest) a w := by
  unfold wpList
  rw [if_pos hw]
  exact .inl (wp_load_row ty x ho g hx t cs fr d hg hu hd hi h)
theorem rt_new (u : World) (R : Rt) : ∃ v, v = u.alloc (.cells #[.int .i64 R.g, .string R.k, .int .i64 R.ls, .int .i64 R.nt] 43) ∧ Below u.heap.size u v ∧ Rb v u.heap.size R := ⟨_, rfl, Below.alloc (Below.refl _ _) (Nat.le_refl _) _, rb_new u R⟩
/-- a command lies in the block b -/
structure Cb (w : World) (b : Nat) (C : Cmd) : Prop where
  row : w.heap[b]? = some (.cells #[.int .i64 C.kind, .int .i64 0, .int .i64 0, .int .i64 0, .int .i64 C.node, .int .i64 0, .string C.key, .int .i64 C.ls, .int .i64 C.rd, .int .i64 C.nt, .bool false, .int .i64 0, .string ⟨#[]⟩, .string ⟨#[]⟩, .int .i64 0, .int .i64 0, .int .i64 0, .int .i64 0, .int .i64 0, .int .i64 0, .string ⟨#[]⟩, .string ⟨#[]⟩, .int .i64 0, .int .i64 0, .slice none 0 0] 63 (0, 0))
theorem Cb.lt {w : World} {b : Nat} {C : Cmd} (h : Cb w b C) : b < w.heap.size := (Array.getElem?_eq_some_iff.1 h.row).1
theorem Cb.below {w w' : World} {b : Nat} {C : Cmd} (h : Cb w b C) (hb : Below w.heap.size w w') : Cb w' b C := ⟨(hb.block _ h.lt).trans h.row⟩
theorem Cb.at_ {w : World} {b : Nat} {C : Cmd} (h : Cb w b C) : w.cell? ⟨b, 0, none⟩ = some (.int .i64 C.kind) ∧ w.cell? ⟨b, 1, none⟩ = some (.int .i64 0) ∧ w.cell? ⟨b, 2, none⟩ = some (.int .i64 0) ∧ w.cell? ⟨b, 3, none⟩ = some (.int .i64 0) ∧ w.cell? ⟨b, 4, none⟩ = some (.int .i64 C.node) ∧ w.cell? ⟨b, 5, none⟩ = some (.int .i64 0) ∧ w.cell? ⟨b, 6, none⟩ = some (.string C.key) ∧ w.cell? ⟨b, 7, none⟩ = some (.int .i64 C.ls) ∧ w.cell? ⟨b, 8, none⟩ = some (.int .i64 C.rd) ∧ w.cell? ⟨b, 9, none⟩ = some (.int .i64 C.nt) ∧ w.cell? ⟨b, 10, none⟩ = some (.bool false) ∧ w.cell? ⟨b, 11, none⟩ = some (.int .i64 0) ∧ w.cell? ⟨b, 12, none⟩ = some (.string ⟨#[]⟩) ∧ w.cell? ⟨b, 13, none⟩ = some (.string ⟨#[]⟩) ∧ w.cell? ⟨b, 14, none⟩ = some (.int .i64 0) ∧ w.cell? ⟨b, 15, none⟩ = some (.int .i64 0) ∧ w.cell? ⟨b, 16, none⟩ = some (.int .i64 0) ∧ w.cell? ⟨b, 17, none⟩ = some (.int .i64 0) ∧ w.cell? ⟨b, 18, none⟩ = some (.int .i64 0) ∧ w.cell? ⟨b, 19, none⟩ = some (.int .i64 0) ∧ w.cell? ⟨b, 20, none⟩ = some (.string ⟨#[]⟩) ∧ w.cell? ⟨b, 21, none⟩ = some (.string ⟨#[]⟩) ∧ w.cell? ⟨b, 22, none⟩ = some (.int .i64 0) ∧ w.cell? ⟨b, 23, none⟩ = some (.int .i64 0) ∧ w.cell? ⟨b, 24, none⟩ = some (.slice none 0 0) := by
  refine ⟨?_, ?_, ?_, ?_, ?_, ?_, ?_, ?_, ?_, ?_, ?_, ?_, ?_, ?_, ?_, ?_, ?_, ?_, ?_, ?_, ?_, ?_, ?_, ?_, ?_⟩ <;> (rw [cell_of_row _ _ _ _ _ _ h.row]; rfl)
theorem cb_new (u : World) (C : Cmd) : ∃ v, v = (u.alloc (.cells #[.int .i64 0, .int .i64 0, .int .i64 0, .int .i64 0, .int .i64 0, .int .i64 0, .string ⟨#[]⟩, .int .i64 0, .int .i64 0, .int .i64 0, .bool false, .int .i64 0, .string ⟨#[]⟩, .string ⟨#[]⟩, .int .i64 0, .int .i64 0, .int .i64 0, .int .i64 0, .int .i64 0, .int .i64 0, .string ⟨#[]⟩, .string ⟨#[]⟩, .int .i64 0, .int .i64 0, .slice none 0 0] 63)).setRow u.heap.size #[.int .i64 C.kind, .int .i64 0, .int .i64 0, .int .i64 0, .int .i64 C.node, .int .i64 0, .string C.key, .int .i64 C.ls, .int .i64 C.rd, .int .i64 C.nt, .bool false, .int .i64 0, .string ⟨#[]⟩, .string ⟨#[]⟩, .int .i64 0, .int .i64 0, .int .i64 0, .int .i64 0, .int .i64 0, .int .i64 0, .string ⟨#[]⟩, .string ⟨#[]⟩, .int .i64 0, .int .i64 0, .slice none 0 0] ∧ Below u.heap.size u v ∧ Cb v u.heap.size C := ⟨_, rfl, below_setRow (Below.alloc (Below.refl _ _) (Nat.le_refl _) _) (Nat.le_refl _) _, ⟨setRow_heap _ _ _ _ _ _ (heap_alloc_new u _)⟩⟩
set_option maxRecDepth 100000 in
set_option maxHeartbeats 40000000 in
theorem walk {w : World} {b a : Option Addr} {m d n c : Nat} {l : List Rt} {g node v : Int} {A : Ac} (hl : Rs w b m l) (hlw : ∀ x ∈ l, RtW x) (hlc : Cp b m d) (h : Hs w a n A.hs) (hw : AcW A) (hc : Cp a n c) (hv : I64 v) :
    Calls Try.prog 5 #[.slice b m d, .int .i64 g, .agg #[.string A.key, .int .i64 A.lo, .int .i64 A.hi, .int .i64 A.base, .int .i64 A.rd, .slice a n c, .int .i64 A.lk.c, .int .i64 A.lk.s, .int .i64 A.lk.h, .int .i64 A.lk.n], .int .i64 node, .int .i64 v] w fun e w' => e = .returned (.bool true) ∧ Below w.heap.size w w' := by
  have L := hide hl
  have LC := hide hlc
  have H := hide h
  have HC := hide hc
  have HW := hide hw
  have HLW := hide hlw
  obtain ⟨E, eE⟩ : ∃ E, E = spendE l g A node v := ⟨_, rfl⟩
  obtain ⟨R, eR⟩ : ∃ R, R = spendR l g A node v := ⟨_, rfl⟩
  obtain ⟨E2, eE2⟩ : ∃ E, E = brE l g A node := ⟨_, rfl⟩
  obtain ⟨lo, elo⟩ : ∃ E, E = brLo l g A node := ⟨_, rfl⟩
  obtain ⟨hi, ehi⟩ : ∃ E, E = brHi l g A node := ⟨_, rfl⟩
  obtain ⟨C, eC⟩ : ∃ E, E = repC l g A node := ⟨_, rfl⟩
  obtain ⟨z, ez⟩ : ∃ E, E = repB l g A node := ⟨_, rfl⟩
  have Q1 := hide eE.symm
  have Q2 := hide eR.symm
  have Q3 := hide eE2.symm
  have Q4 := hide elo.symm
  have Q5 := hide ehi.symm
  have Q6 := hide eC.symm
  have Q7 := hide ez.symm
  have HV := hide hv
  clear hl hlw hlc h hw hc hv eE eR eE2 elo ehi eC ez
  obtain ⟨w1, ew, hb1, ha1⟩ := one_new w A a n c
  have HB1 := hide hb1
  have HA1 := hide ha1
  clear hb1 ha1
  go_enter Try.func5, Try.ntmps5
  go_wp2_with fail
  rw [← ew]
  clear ew
  refine (lown_any (L.out.below HB1.out) LC.out).mono ?_
  rintro e w2 ⟨gO, rfl, hb, ho⟩
  have HB2 : Hid (Below w.heap.size w w2) := HB1.out.trans (hb.mono HB1.out.size)
  have HA2 := hide (HA1.out.below hb)
  have HO2 := hide ho
  clear hb ho HB1 HA1
  obtain ⟨z0, z1, z2, z3, z4, z5, z6, z7, z8, z9⟩ := HA2.out.at_
  go_wp2_with fail
  clear z0 z1 z2 z3 z4 z5 z6 z7 z8 z9
  refine (copyacc_x (H.out.below HB2.out) HC.out).mono ?_
  rintro e w3 ⟨a3, c3, rfl, hh, hb, hcp⟩
  obtain ⟨w4, e4, hb4, ha4⟩ := one_new w3 A a3 n c3
  have hbx : Below w2.heap.size w2 w4 := hb.trans (hb4.mono hb.size)
  have HB4 : Hid (Below w.heap.size w w4) := HB2.out.trans (hbx.mono HB2.out.size)
  have HA4 := hide (HA2.out.below hbx)
  have HO4 := hide (HO2.out.below hbx)
  have HH4 := hide (hh.below hb4)
  have HD4 := hide ha4
  clear hb hb4 hbx hh hcp ha4 HB2 HA2 HO2
  go_upto_region 3 with fail
  rw [← e4]
  clear e4
  obtain ⟨p12, ep⟩ : ∃ p, p = w3.heap.size := ⟨_, rfl⟩
  rw [← ep] at HD4 ⊢
  clear ep
  obtain ⟨z0, z1, z2, z3, z4, z5, z6, z7, z8, z9⟩ := HD4.out.at_
  go_wp2_with fail
  clear z0 z1 z2 z3 z4 z5 z6 z7 z8 z9
  refine (spend_x HO4.out.rs HLW.out HH4.out HW.out HV.out Q1.out Q2.out).mono ?_
  rintro e w5 ⟨rfl, hb⟩
  obtain ⟨w6, e6, hb6, hr6⟩ := rt_new w5 R
  have hbx : Below w4.heap.size w4 w6 := hb.trans (hb6.mono hb.size)
  have HB6 : Hid (Below w.heap.size w w6) := HB4.out.trans (hbx.mono HB4.out.size)
  have HA6 := hide (HA4.out.below hbx)
  have HO6 := hide (HO4.out.below hbx)
  have HH6 := hide (HH4.out.below hbx)
  have HD6 := hide (HD4.out.below hbx)
  clear HB4 HA4 HO4 HH4 HD4
  have HR6 := hide hr6
  clear hb hb6 hbx hr6
  go_upto_region 4 with fail
  rw [← e6]
  clear e6
  obtain ⟨p13, ep⟩ : ∃ p, p = w5.heap.size := ⟨_, rfl⟩
  rw [← ep] at HR6 ⊢
  clear ep
  obtain ⟨z0, z1, z2, z3, z4, z5, z6, z7, z8, z9⟩ := HA6.out.at_
  go_wp2_with fail
  clear z0 z1 z2 z3 z4 z5 z6 z7 z8 z9
  refine (rspend_x (L.out.below HB6.out) HLW.out (H.out.below HB6.out) HW.out HV.out Q1.out Q2.out).mono ?_
  rintro e w7 ⟨rfl, hb⟩
  obtain ⟨w8, e8, hb8, hr8⟩ := rt_new w7 R
  have hbx : Below w6.heap.size w6 w8 := hb.trans (hb8.mono hb.size)
  have HB8 : Hid (Below w.heap.size w w8) := HB6.out.trans (hbx.mono HB6.out.size)
  have HA8 := hide (HA6.out.below hbx)
  have HO8 := hide (HO6.out.below hbx)
  have HH8 := hide (HH6.out.below hbx)
  have HD8 := hide (HD6.out.below hbx)
  have HR8 := hide (HR6.out.below hbx)
  clear HB6 HA6 HO6 HH6 HD6 HR6
  have HS8 := hide hr8
  clear hb hb8 hbx hr8
  go_upto_region 5 with fail
  rw [← e8]
  clear e8
  obtain ⟨p15, ep⟩ : ∃ p, p = w7.heap.size := ⟨_, rfl⟩
  rw [← ep] at HS8 ⊢
  clear ep
  obtain ⟨z0, z1, z2, z3, z4, z5, z6, z7, z8, z9⟩ := HD8.out.at_
  go_wp2_with fail
  clear z0 z1 z2 z3 z4 z5 z6 z7 z8 z9
  refine (bracket_x HO8.out.rs HLW.out HH8.out HW.out Q3.out Q4.out Q5.out).mono ?_
  rintro e w9 ⟨rfl, hbx⟩
  have HB9 : Hid (Below w.heap.size w w9) := HB8.out.trans (hbx.mono HB8.out.size)
  have HA9 := hide (HA8.out.below hbx)
  have HO9 := hide (HO8.out.below hbx)
  have HH9 := hide (HH8.out.below hbx)
  have HD9 := hide (HD8.out.below hbx)
  have HR9 := hide (HR8.out.below hbx)
  have HS9 := hide (HS8.out.below hbx)
  clear HB8 HA8 HO8 HH8 HD8 HR8 HS8
  clear hbx
  obtain ⟨z0, z1, z2, z3, z4, z5, z6, z7, z8, z9⟩ := HA9.out.at_
  go_wp2_with fail
  clear z0 z1 z2 z3 z4 z5 z6 z7 z8 z9
  refine (rbracket_x (L.out.below HB9.out) HLW.out (H.out.below HB9.out) HW.out Q3.out Q4.out Q5.out).mono ?_
  rintro e w10 ⟨rfl, hbx⟩
  have HB10 : Hid (Below w.heap.size w w10) := HB9.out.trans (hbx.mono HB9.out.size)
  have HA10 := hide (HA9.out.below hbx)
  have HO10 := hide (HO9.out.below hbx)
  have HH10 := hide (HH9.out.below hbx)
  have HD10 := hide (HD9.out.below hbx)
  have HR10 := hide (HR9.out.below hbx)
  have HS10 := hide (HS9.out.below hbx)
  clear HB9 HA9 HO9 HH9 HD9 HR9 HS9
  clear hbx
  obtain ⟨z0, z1, z2, z3, z4, z5, z6, z7, z8, z9⟩ := HD10.out.at_
  go_wp2_with fail
  clear z0 z1 z2 z3 z4 z5 z6 z7 z8 z9
  refine (report_lx HO10.out.rs HLW.out HH10.out HW.out Q7.out Q6.out).mono ?_
  rintro e w11 ⟨rfl, hb⟩
  obtain ⟨w12, e12, hb12, hr12⟩ := cb_new w11 C
  have hbx : Below w10.heap.size w10 w12 := hb.trans (hb12.mono hb.size)
  have HB12 : Hid (Below w.heap.size w w12) := HB10.out.trans (hbx.mono HB10.out.size)
  have HA12 := hide (HA10.out.below hbx)
  have HO12 := hide (HO10.out.below hbx)
  have HH12 := hide (HH10.out.below hbx)
  have HD12 := hide (HD10.out.below hbx)
  have HR12 := hide (HR10.out.below hbx)
  have HS12 := hide (HS10.out.below hbx)
  clear HB10 HA10 HO10 HH10 HD10 HR10 HS10
  have HE12 := hide hr12
  clear hb hb12 hbx hr12
  go_upto_region 8 with (refine wpList_store_row rfl 63 (.tmp 23) (.tmp 73) rfl w11.heap.size #[.int .i64 C.kind, .int .i64 0, .int .i64 0, .int .i64 0, .int .i64 C.node, .int .i64 0, .string C.key, .int .i64 C.ls, .int .i64 C.rd, .int .i64 C.nt, .bool false, .int .i64 0, .string ⟨#[]⟩, .string ⟨#[]⟩, .int .i64 0, .int .i64 0, .int .i64 0, .int .i64 0, .int .i64 0, .int .i64 0, .string ⟨#[]⟩, .string ⟨#[]⟩, .int .i64 0, .int .i64 0, .slice none 0 0] rfl rfl 63 #[.int .i64 0, .int .i64 0, .int .i64 0, .int .i64 0, .int .i64 0, .int .i64 0, .string ⟨#[]⟩, .int .i64 0, .int .i64 0, .int .i64 0, .bool false, .int .i64 0, .string ⟨#[]⟩, .string ⟨#[]⟩, .int .i64 0, .int .i64 0, .int .i64 0, .int .i64 0, .int .i64 0, .int .i64 0, .string ⟨#[]⟩, .string ⟨#[]⟩, .int .i64 0, .int .i64 0, .slice none 0 0] (heap_alloc_new w11 _) cm_info rfl (by simp [Value.oneCell']) ?_)
  rw [← e12]
  clear e12
  obtain ⟨p23, ep⟩ : ∃ p, p = w11.heap.size := ⟨_, rfl⟩
  rw [← ep] at HE12 ⊢
  clear ep
  obtain ⟨z0, z1, z2, z3, z4, z5, z6, z7, z8, z9⟩ := HA12.out.at_
  go_wp2_with fail
  clear z0 z1 z2 z3 z4 z5 z6 z7 z8 z9
  refine (rreport_x (L.out.below HB12.out) HLW.out (H.out.below HB12.out) HW.out Q7.out Q6.out).mono ?_
  rintro e w13 ⟨rfl, hb⟩
  obtain ⟨w14, e14, hb14, hr14⟩ := cb_new w13 C
  have hbx : Below w12.heap.size w12 w14 := hb.trans (hb14.mono hb.size)
  have HB14 : Hid (Below w.heap.size w w14) := HB12.out.trans (hbx.mono HB12.out.size)
  have HA14 := hide (HA12.out.below hbx)
  have HO14 := hide (HO12.out.below hbx)
  have HH14 := hide (HH12.out.below hbx)
  have HD14 := hide (HD12.out.below hbx)
  have HR14 := hide (HR12.out.below hbx)
  have HS14 := hide (HS12.out.below hbx)
  have HE14 := hide (HE12.out.below hbx)
  clear HB12 HA12 HO12 HH12 HD12 HR12 HS12 HE12
  have HF14 := hide hr14
  clear hb hb14 hbx hr14
  go_upto_region 9 with (refine wpList_store_row rfl 63 (.tmp 25) (.tmp 81) rfl w13.heap.size #[.int .i64 C.kind, .int .i64 0, .int .i64 0, .int .i64 0, .int .i64 C.node, .int .i64 0, .string C.key, .int .i64 C.ls, .int .i64 C.rd, .int .i64 C.nt, .bool false, .int .i64 0, .string ⟨#[]⟩, .string ⟨#[]⟩, .int .i64 0, .int .i64 0, .int .i64 0, .int .i64 0, .int .i64 0, .int .i64 0, .string ⟨#[]⟩, .string ⟨#[]⟩, .int .i64 0, .int .i64 0, .slice none 0 0] rfl rfl 63 #[.int .i64 0, .int .i64 0, .int .i64 0, .int .i64 0, .int .i64 0, .int .i64 0, .string ⟨#[]⟩, .int .i64 0, .int .i64 0, .int .i64 0, .bool false, .int .i64 0, .string ⟨#[]⟩, .string ⟨#[]⟩, .int .i64 0, .int .i64 0, .int .i64 0, .int .i64 0, .int .i64 0, .int .i64 0, .string ⟨#[]⟩, .string ⟨#[]⟩, .int .i64 0, .int .i64 0, .slice none 0 0] (heap_alloc_new w13 _) cm_info rfl (by simp [Value.oneCell']) ?_)
  rw [← e14]
  clear e14
  obtain ⟨p25, ep⟩ : ∃ p, p = w13.heap.size := ⟨_, rfl⟩
  rw [← ep] at HF14 ⊢
  clear ep
  have qE : ∀ w, (binOp .eql 43 (rval R) (rval R)).run Try.prog w = .ok (.bool true) w := fun w => by rw [FnR.eql_run, decide_eq_true rfl]
  unfold rval at qE
  go_wp2_with fail
  refine (lawake_any _).mono ?_
  rintro e v1 ⟨rfl, hbx⟩
  have HBv : Hid (Below w.heap.size w v1) := HB14.out.trans (hbx.mono HB14.out.size)
  have HAv := hide (HA14.out.below hbx)
  have HOv := hide (HO14.out.below hbx)
  have HHv := hide (HH14.out.below hbx)
  have HDv := hide (HD14.out.below hbx)
  have HRv := hide (HR14.out.below hbx)
  have HSv := hide (HS14.out.below hbx)
  have HEv := hide (HE14.out.below hbx)
  have HFv := hide (HF14.out.below hbx)
  clear hbx HB14 HA14 HO14 HH14 HD14 HR14 HS14 HE14 HF14
  obtain ⟨ra0, ra1, ra2, ra3⟩ := HRv.out.at_
  obtain ⟨rb0, rb1, rb2, rb3⟩ := HSv.out.at_
  go_wp2_with (first | (refine load_row_g (by rfl) 63 (.tmp 23) rfl p23 rfl 63 #[.int .i64 C.kind, .int .i64 0, .int .i64 0, .int .i64 0, .int .i64 C.node, .int .i64 0, .string C.key, .int .i64 C.ls, .int .i64 C.rd, .int .i64 C.nt, .bool false, .int .i64 0, .string ⟨#[]⟩, .string ⟨#[]⟩, .int .i64 0, .int .i64 0, .int .i64 0, .int .i64 0, .int .i64 0, .int .i64 0, .string ⟨#[]⟩, .string ⟨#[]⟩, .int .i64 0, .int .i64 0, .slice none 0 0] (0, 0) _ HEv.out.row Try.underlying63 rfl cm_info ?_) | (refine load_row_g (by rfl) 63 (.tmp 25) rfl p25 rfl 63 #[.int .i64 C.kind, .int .i64 0, .int .i64 0, .int .i64 0, .int .i64 C.node, .int .i64 0, .string C.key, .int .i64 C.ls, .int .i64 C.rd, .int .i64 C.nt, .bool false, .int .i64 0, .string ⟨#[]⟩, .string ⟨#[]⟩, .int .i64 0, .int .i64 0, .int .i64 0, .int .i64 0, .int .i64 0, .int .i64 0, .string ⟨#[]⟩, .string ⟨#[]⟩, .int .i64 0, .int .i64 0, .slice none 0 0] (0, 0) _ HFv.out.row Try.underlying63 rfl cm_info ?_))
  clear ra0 ra1 ra2 ra3 rb0 rb1 rb2 rb3
  refine (same_cmd C _).mono ?_
  rintro e v2 ⟨rfl, hbx⟩
  have HBu : Hid (Below w.heap.size w v2) := HBv.out.trans (hbx.mono HBv.out.size)
  have HAu := hide (HAv.out.below hbx)
  have HOu := hide (HOv.out.below hbx)
  have HHu := hide (HHv.out.below hbx)
  have HDu := hide (HDv.out.below hbx)
  have HRu := hide (HRv.out.below hbx)
  have HSu := hide (HSv.out.below hbx)
  have HEu := hide (HEv.out.below hbx)
  have HFu := hide (HFv.out.below hbx)
  clear hbx HBv HAv HOv HHv HDv HRv HSv HEv HFv
  go_wp2_with fail
  refine (lkept_any (cap := d) (L.out.below HBu.out) HOu.out).mono ?_
  rintro e v3 ⟨rfl, hbx⟩
  have HBt : Hid (Below w.heap.size w v3) := HBu.out.trans (hbx.mono HBu.out.size)
  have HAt := hide (HAu.out.below hbx)
  have HOt := hide (HOu.out.below hbx)
  have HHt := hide (HHu.out.below hbx)
  have HDt := hide (HDu.out.below hbx)
  have HRt := hide (HRu.out.below hbx)
  have HSt := hide (HSu.out.below hbx)
  have HEt := hide (HEu.out.below hbx)
  have HFt := hide (HFu.out.below hbx)
  clear hbx HBu HAu HOu HHu HDu HRu HSu HEu HFu
  obtain ⟨aa0, aa1, aa2, aa3, aa4, aa5, aa6, aa7, aa8, aa9⟩ := HDt.out.at_
  obtain ⟨ab0, ab1, ab2, ab3, ab4, ab5, ab6, ab7, ab8, ab9⟩ := HAt.out.at_
  go_wp2_with fail
  clear aa0 aa1 aa2 aa3 aa4 aa5 aa6 aa7 aa8 aa9 ab0 ab1 ab2 ab3 ab4 ab5 ab6 ab7 ab8 ab9
  refine (same_x (c := c3) (c' := c) HHt.out (H.out.below HBt.out) rfl).mono ?_
  rintro e v4 ⟨rfl, hbx⟩
  have HB9 : Hid (Below w.heap.size w v4) := HBt.out.trans (hbx.mono HBt.out.size)
  clear hbx
  go_wp2_with fail
  go_returns
  exact ⟨by first | rfl | simp, HB9.out⟩

set_option maxRecDepth 100000 in
theorem lifted (os : Os) (started : os.Started) (H : Type) (enc : TypeId × Value → H) :
    ReturnsInHanded {} Try.checked os 5 .any (Rows.ledgerSpendsSpec.pre6 enc Try.prog Try.f5 Rows.ledgerSpendsRow.domain false) (Rows.ledgerSpendsSpec.post enc Try.prog Try.f5 false true false false) := by
  refine returnsInHanded_of_change_sized (C := Try.checked) own started (by kernel_rfl) Try.func5
    (ChangeSpec.witness6 (enc := enc) (C := Try.checked) false ⟨#[], #[.slice none 0 0, .int .i64 0, .agg #[.string ByteArray.empty, .int .i64 0, .int .i64 0, .int .i64 0, .int .i64 0, .slice none 0 0, .int .i64 0, .int .i64 0, .int .i64 0, .int .i64 0], .int .i64 0, .int .i64 0], []⟩ 8 (by kernel_rfl) (by kernel_rfl) (by kernel_rfl) (by kernel_rfl)) ?_
  intro W base args ds gs before hval0 hW hcnd hsz0 _
  have hsz : (DataW.weightsEach Try.prog (Try.f5.params.toList ++ Rows.ledgerSpendsSpec.plain.varTypes Try.prog) (ds ++ gs)).all (· ≤ reachBytes) = true := hsz0
  have hval : ∀ (j : Nat) t v, Try.f5.params[j]? = some t → args[j]? = some v → Value.okWide Try.prog W .any base t v := hval0
  have hW' := hW
  obtain ⟨p, q, hA0, hV, rfl, hfz, hnd⟩ := hW
  have hA : DataW.TrodAll enc Try.prog W 0 (fun _ => true) true Try.f5.params.toList args.toList ds p := hA0
  rw [Try.params5] at hA hval hsz
  obtain ⟨v0, vs0, d0, ds0, p0, q0, hargs, rfl, rfl, h0, r0⟩ := trodAll_cons hA
  obtain ⟨v1, vs1, d1, ds1, p1, q1, rfl, rfl, rfl, h1, r1⟩ := trodAll_cons r0
  obtain ⟨v2, vs2, d2, ds2, p2, q2, rfl, rfl, rfl, h2, r2⟩ := trodAll_cons r1
  obtain ⟨v3, vs3, d3, ds3, p3, q3, rfl, rfl, rfl, h3, r3⟩ := trodAll_cons r2
  obtain ⟨v4, vs4, d4, ds4, p4, q4, rfl, rfl, rfl, h4, r4⟩ := trodAll_cons r3
  obtain ⟨rfl, rfl, rfl⟩ := trodAll_nil r4
  obtain rfl : args = #[v0, v1, v2, v3, v4] := by cases args; simp_all
  obtain ⟨rfl, rfl⟩ := trodVars_none hV
  have lt0 : ∀ x ∈ p0, x.block < W.heap.size := by obtain ⟨m, hm⟩ := h0; exact DataW.trod_lt m _ _ _ hm
  obtain ⟨b, m, d, l, rfl, k0, kw0, kc0, kq0⟩ := open_rights_held (hval 0 41 v0 rfl rfl) h0 (fun n hn => by have h := List.all_eq_true.1 hsz n (DataW.weights_mem_each (j := 0) rfl rfl n hn); simpa using h)
  have lt1 : ∀ x ∈ p1, x.block < W.heap.size := by obtain ⟨m, hm⟩ := h1; exact DataW.trod_lt m _ _ _ hm
  obtain ⟨g, rfl, hg⟩ := open_i64 (hval 1 3 v1 rfl rfl) h1
  have lt2 : ∀ x ∈ p2, x.block < W.heap.size := by obtain ⟨m, hm⟩ := h2; exact DataW.trod_lt m _ _ _ hm
  obtain ⟨a, n, c, A, rfl, j0, jw0, jc0⟩ := open_account_held (hval 2 28 v2 rfl rfl) h2 (fun n hn => by have h := List.all_eq_true.1 hsz n (DataW.weights_mem_each (j := 2) rfl rfl n hn); simpa using h)
  have lt3 : ∀ x ∈ p3, x.block < W.heap.size := by obtain ⟨m, hm⟩ := h3; exact DataW.trod_lt m _ _ _ hm
  obtain ⟨node, rfl, hn⟩ := open_i64 (hval 3 3 v3 rfl rfl) h3
  have lt4 : ∀ x ∈ p4, x.block < W.heap.size := by obtain ⟨m, hm⟩ := h4; exact DataW.trod_lt m _ _ _ hm
  obtain ⟨v, rfl, hv⟩ := open_i64 (hval 4 3 v4 rfl rfl) h4
  clear hA0 hval0
  refine (walk k0 kw0 kc0 j0 jw0 jc0 hv).mono fun e W' ⟨he, bel⟩ => ?_
  subst he
  exact ⟨_, rfl, _, _, _, [], _, [], hW', trodAll_mk1 (shut_bool Try.underlying4 _), (trodAll_cons_mk (Below.trod laidOut (by kernel_rfl) (of_decide_eq_true (by kernel_rfl)) h0 bel lt0) (trodAll_cons_mk (Below.trod laidOut (by kernel_rfl) (of_decide_eq_true (by kernel_rfl)) h1 bel lt1) (trodAll_cons_mk (Below.trod laidOut (by kernel_rfl) (of_decide_eq_true (by kernel_rfl)) h2 bel lt2) (trodAll_cons_mk (Below.trod laidOut (by kernel_rfl) (of_decide_eq_true (by kernel_rfl)) h3 bel lt3) (trodAll_cons_mk (Below.trod laidOut (by kernel_rfl) (of_decide_eq_true (by kernel_rfl)) h4 bel lt4) trodAll_mk0))))), rfl, bel.frame _, fun h => by cases h⟩

theorem over : Rows.ledgerSpendsRow.holds Try.pinned (OpenSpec.ofChange Rows.ledgerSpendsSpec) :=
  OpenClaim.holds_of_wide 5 Try.f5 rfl rfl rfl rfl rfl rfl rfl ⟨rfl, rfl, rfl, rfl, rfl⟩ rfl rfl rfl rfl rfl (by kernel_rfl) Try.func5 (by kernel_rfl)
    (of_decide_eq_true (by kernel_rfl)) (by unfold Func.isWrapper; first | (rw [if_pos (by decide +kernel)]; kernel_rfl) | (rw [if_neg (by decide +kernel)]; exact ⟨rfl, rfl⟩))
    (fun os started H enc _ => lifted os started H enc)

theorem proved : Rows.LedgerSpendsSaid := over
#print axioms proved
end LedgerSpends
theorem ledgerSpends_holds : Rows.LedgerSpendsSaid := LedgerSpends.proved
end Go.Proofs.Ytjcbhgkfbilifaa
