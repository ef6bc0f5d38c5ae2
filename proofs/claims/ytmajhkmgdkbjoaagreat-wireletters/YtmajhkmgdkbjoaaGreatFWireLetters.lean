/- WireLetters: for every group, every letter and every list of bytes: wire's bytes of the letter, and what wire reads the bytes as, are what the document's own functions make of them. No condition. -/
import Derived.Test.YtmajhkmgdkbjoaaGreatFWireOpenLetter
import Derived.Test.YtmajhkmgdkbjoaaGreatJA
import Derived.Deep.Cut
import Derived.Deep.MidRow
import Derived.Test.YtmajhkmgdkbjoaaGreatFWireAwake
import Derived.Test.YtmajhkmgdkbjoaaGreatFWireCallsLetter
import Derived.Test.YtmajhkmgdkbjoaaGreatFWireDocLetter
import Derived.Test.YtmajhkmgdkbjoaaGreatFWireSameLetter
namespace Go.Proofs.YtmajhkmgdkbjoaaGreat
namespace WireLetters
open Go.ChangeShapes Go.WideShapes Go.ChangeAt Go.RowKit B8 Cm Wm
set_option linter.unusedVariables false

theorem lVal_len (bs : List Int) : (tl (lVal bs)).vs.length ≤ 140737488355328 ∧ (tl (lVal bs)).es.length ≤ 140737488355328 := by
  unfold lVal
  split
  · refine ⟨?_, ?_⟩
    · show (timesA _ _ _).v.length ≤ _
      rw [timesA_length]
      have := countA_le bs 1024 (flatA bs (List.replicate 8 0) ⟨0, 0⟩).s
      omega
    · show (timesA _ _ _).v.length ≤ _
      rw [timesA_length]
      have := countA_le bs 1024 (listA bs (flatA bs [0, 0, 0, 4]) (flatA bs (List.replicate 8 0) ⟨0, 0⟩).s).s
      omega
  · exact ⟨Nat.zero_le _, Nat.zero_le _⟩
theorem built_posted (z : Int) (v0 v1 v2 v3 v4 v5 v6 v7 v8 v9 v10 v11 v12 : Value) (w : World) : (Instr.build 37 #[(0, .int .i64 z), (1, .agg #[v0, v1, v2, v3, v4, v5, v6, v7, v8, v9, v10, v11, v12])]).run Tryz.prog w = .ok (.agg #[.int .i64 z, v0, v1, v2, v3, v4, v5, v6, v7, v8, v9, v10, v11, v12]) w := by kernel_rfl
/-- a part of a row loaded by an operation whose guard says yes -/
theorem load_mid_guarded {P : Program} {ops : Array Oper} {rest : List Oper} {o : Oper} {a : Act} {w : World} {Q : Exit → Act → World → Prop} (hw : Region.wanted o (yielded ops a.tmps) = true) (ty : TypeId) (x : Operand) (ho : o.op = .load ty x)
    (b off : Nat) (hx : a.eval x = .pointer (some ⟨b, off, none⟩)) (cs : List Value) (d : TypeDesc) (hc : w.rangeAt b off cs) (hu : P.underlying ty = some d) (hd : d.isRow = true) (hi : (P.info? ty).map (·.size) = some cs.length)
    (h : wpList P ops Q rest (a.put o.dst (.agg cs.toArray)) w) : wpList P ops Q (o :: rest) a w := by
  show (if Region.wanted o (yielded ops a.tmps) then o.wp P a w (wpList P ops Q rest) Q ∨ (o.asks P a w ∧ LetsOut Q) else wpList P ops Q rest (a.put o.dst undef) w)
  rw [if_pos hw]
  exact .inl (wp_load_mid ty x ho b off hx cs d hc hu hd hi h)
theorem range_of_row {w : World} {N : Nat} {u : Value} {cs : List Value} {t : TypeId} {fr : Nat × Nat} (h : w.heap[N]? = some (.cells (u :: cs).toArray t fr)) : w.rangeAt N 1 cs := fun j v hv => by
  rw [cell_of_row _ _ _ _ _ _ h, Nat.add_comm]
  simpa using hv
set_option maxRecDepth 100000 in
set_option maxHeartbeats 4000000 in
theorem walk {w : World} (z : Int) (z0 : -9223372036854775808 ≤ z) (z1 : z ≤ 9223372036854775807) {cs : Array Value} {x : Let} {a : Option Addr} {len cap : Nat} {bs : List Int} (h : LetV 7 w (fun b => b < w.heap.size) cs x) (hk : LetK 7 x) (l1 : x.vs.length * 48 ≤ 140737488351232) (l2 : x.es.length * 32 ≤ 140737488351232) (q : Sq w a len cap bs) (hcap : cap * 1 ≤ 140737488351232) :
    Calls Tryz.prog 3 #[.int .i64 z, .agg cs, .slice a len cap] w fun e w' => e = .returned (.bool true) ∧ Below w.heap.size w w' := by
  obtain ⟨Y, eY⟩ : ∃ Y : Let, Y = ⟨⟨0, z, []⟩ :: x.x0, x.vs, x.es, x.x1⟩ := ⟨_, rfl⟩
  have hk8 : LetK 8 Y := by rw [eY]; exact ⟨by show _ :: _ = _; rw [hk.k0]; rfl, hk.kv, hk.ke, hk.k1⟩
  have lY : Hid (Y.vs.length ≤ 140737488355328 ∧ Y.es.length ≤ 140737488355328) := by rw [eY]; exact ⟨by show x.vs.length ≤ _; omega, by show x.es.length ≤ _; omega⟩
  obtain ⟨F, eF⟩ : ∃ F, F = wBytes Y.flds := ⟨_, rfl⟩
  obtain ⟨n, en⟩ : ∃ n, n = F.length := ⟨_, rfl⟩
  obtain ⟨E, eE⟩ : ∃ E, E = wErr Y.flds := ⟨_, rfl⟩
  obtain ⟨G, eG⟩ : ∃ G, G = lErr bs := ⟨_, rfl⟩
  have kX8 : LetK 8 (lVal bs) := lVal_kinds bs
  have lX : Hid ((tl (lVal bs)).vs.length ≤ 140737488355328 ∧ (tl (lVal bs)).es.length ≤ 140737488355328) := lVal_len bs
  have KX8 := hide kX8
  have KX := hide (tl_kinds kX8)
  obtain ⟨X, eX⟩ : ∃ X, X = lVal bs := ⟨_, rfl⟩
  rw [← eX] at KX8 KX lX
  have hlc := q.lecap
  have hlen : len ≤ 140737488351232 := by omega
  have hn : n ≤ 65536 := by rw [en, eF]; exact wBytes_le _
  have hsz := h.size
  have INF := info_letter
  obtain ⟨v0, v1, v2, v3, v4, v5, v6, v7, v8, v9, v10, v11, v12, rfl⟩ := arr13 hsz
  have b1 : Below w.heap.size w (w.alloc (.cells #[v0, v1, v2, v3, v4, v5, v6, v7, v8, v9, v10, v11, v12] 31)) := Below.alloc (Below.refl _ _) (Nat.le_refl _) _
  have B1 := hide b1
  have R1 : Hid ((w.alloc (.cells #[v0, v1, v2, v3, v4, v5, v6, v7, v8, v9, v10, v11, v12] 31)).heap[w.heap.size]? = some (.cells #[v0, v1, v2, v3, v4, v5, v6, v7, v8, v9, v10, v11, v12] 31)) := heap_alloc_new w _
  have LT1 : Hid (w.heap.size < (w.alloc (.cells #[v0, v1, v2, v3, v4, v5, v6, v7, v8, v9, v10, v11, v12] 31)).heap.size) := by show _ < _; simp
  have HI : Hid ((Tryz.prog.info? 31).map (·.size) = some (#[v0, v1, v2, v3, v4, v5, v6, v7, v8, v9, v10, v11, v12] : Array Value).size) := info_letter
  have H := hide h
  have HK := hide hk8
  have Q := hide q
  have EF := hide eF
  have EN := hide en
  have EE := hide eE
  have EG := hide eG
  have EX := hide eX
  have EY := hide eY
  have bp := built_posted z v0 v1 v2 v3 v4 v5 v6 v7 v8 v9 v10 v11 v12
  have C3 := ccall_letter z z0 z1 (H.out.fit B1.out) (by rw [← EY.out]; exact HK.out)
  rw [← EY.out, ← EF.out, ← EN.out, ← EE.out] at C3
  have C3 := hide C3
  clear h hk hk8 q b1 eF en eE eG eX eY kX8 hsz INF
  go_enter Tryz.func3, Tryz.ntmps3
  go_upto_region 1 with fail
  go_wp2_with (refine wpList_load_row rfl 31 (.tmp 4) rfl w.heap.size rfl 31 #[v0, v1, v2, v3, v4, v5, v6, v7, v8, v9, v10, v11, v12] (0, 0) _ R1.out Tryz.underlying31 rfl HI.out ?_)
  refine C3.out.mono ?_
  rintro e w3 ⟨a3, c3, rfl, hm3, hb3⟩
  have B3 := hide (below_step B1.out hb3)
  have R3 := hide ((hb3.block _ LT1.out).trans R1.out)
  have Q3 := hide hm3.sq
  have C4 := dwrite_letter ((H.out.fit B3.out).head z0 z1) (by rw [← EY.out]; exact HK.out) (by rw [← EY.out]; exact lY.out.1) (by rw [← EY.out]; exact lY.out.2)
  rw [← EY.out, ← EF.out, ← EN.out, ← EE.out] at C4
  have C4 : Hid (Calls Tryz.prog 5 #[.agg #[.int .i64 z, v0, v1, v2, v3, v4, v5, v6, v7, v8, v9, v10, v11, v12]] w3 fun e w' => ∃ a cp, e = .returned (.tuple #[.slice a n cp, .int .i64 E]) ∧ Sq w' a n cp F ∧ Below w3.heap.size w3 w') := C4
  clear hm3 hb3 C3
  go_wp2_with (refine wpList_load_row rfl 31 (.tmp 4) rfl w.heap.size rfl 31 #[v0, v1, v2, v3, v4, v5, v6, v7, v8, v9, v10, v11, v12] (0, 0) _ R3.out Tryz.underlying31 rfl HI.out ?_)
  refine C4.out.mono ?_
  rintro e w4 ⟨a4, c4, rfl, hq4, hb4⟩
  have B4 := hide (below_step B3.out hb4)
  have Q34 := hide (Q3.out.below hb4)
  have Q4 := hide hq4
  clear hq4 hb4 C4 R3 R1 Q3 bp
  have r0 := row_new w4 (w4.heap.size) (Nat.le_refl _) #[] (by decide)
  have R0 := hide r0
  have Bn := hide (below_alloc B4.out (.cells #[] 5))
  have Qn := hide (Q.out.below Bn.out)
  clear r0
  go_wp2_with (at_builtin; refine wp_append_sq _ rfl (.tmp 30) (.tmp 31) rfl w4.heap.size (.slice (some ⟨w4.heap.size, 0, none⟩) 0 0) 0 [] rfl R0.out a len cap bs rfl Qn.out (by omega) (by simp) ?_; intro v5 w5 hown hgrow; simp only [List.nil_append, Nat.zero_add] at hown; obtain ⟨a5, cp5, rfl, q5⟩ := sq_of_row Q.out.length Q.out.wf hown; have Q5 := hide q5; have B5 : Hid (Below w4.heap.size w4 w5) := below_grown (below_alloc1 w4 _) R0.out (Nat.le_refl _) hgrow; clear hown hgrow q5)
  have B50 := hide (below_step B4.out B5.out)
  have C6 := cread_letter Q5.out (by omega)
  rw [← EG.out, ← EX.out] at C6
  have C6 := hide C6
  refine C6.out.mono ?_
  rintro e w6 ⟨cs6, rfl, hv6, hb6⟩
  have B6 := hide (below_step B50.out hb6)
  have Q3a := hide ((Q34.out.below B5.out).below hb6)
  have Q4a := hide ((Q4.out.below B5.out).below hb6)
  have V6 := hide (hv6.same (P' := fun b => b < w6.heap.size) fun b hl => ⟨hl.2, rfl⟩)
  clear hv6 hb6 C6 Q5 B5 B50 Q34 Q4 R0 Bn Qn
  have INF6 : Hid ((Tryz.prog.info? 31).map (·.size) = some cs6.size) := by show _ = _; rw [V6.out.size]; exact info_letter
  have SZ6 : Hid ((#[.int .i64 0, .int .i64 0, .int .i64 0, .int .i64 0, .int .i64 0, .int .i64 0, .int .i64 0, .slice none 0 0, .slice none 0 0, .int .i64 0, .int .i64 0, .int .u32 0, .slice none 0 0] : Array Value).size = cs6.size) := (V6.out.size).symm
  have ONE6 := hide V6.out.one
  have N6 : Hid ((w6.alloc (.cells #[.int .i64 0, .int .i64 0, .int .i64 0, .int .i64 0, .int .i64 0, .int .i64 0, .int .i64 0, .slice none 0 0, .slice none 0 0, .int .i64 0, .int .i64 0, .int .u32 0, .slice none 0 0] 31)).heap[w6.heap.size]? = some (.cells #[.int .i64 0, .int .i64 0, .int .i64 0, .int .i64 0, .int .i64 0, .int .i64 0, .int .i64 0, .slice none 0 0, .slice none 0 0, .int .i64 0, .int .i64 0, .int .u32 0, .slice none 0 0] 31)) := heap_alloc_new w6 _
  go_upto_region 4 with (refine wpList_store_row rfl 31 (.tmp 12) (.tmp 35) rfl w6.heap.size cs6 rfl rfl 31 #[.int .i64 0, .int .i64 0, .int .i64 0, .int .i64 0, .int .i64 0, .int .i64 0, .int .i64 0, .slice none 0 0, .slice none 0 0, .int .i64 0, .int .i64 0, .int .u32 0, .slice none 0 0] N6.out INF6.out SZ6.out ONE6.out ?_)
  rw [setRow_alloc]
  have B7 := hide (below_alloc B6.out (.cells cs6 31))
  have b67 := below_alloc1 w6 (.cells cs6 31)
  have Q3b := hide (Q3a.out.below b67)
  have Q4b := hide (Q4a.out.below b67)
  have V6b := hide (V6.out.fit b67)
  have R7 : Hid ((w6.alloc (.cells cs6 31)).heap[w6.heap.size]? = some (.cells cs6 31)) := heap_alloc_new w6 _
  have L7 : Hid (w6.heap.size < (w6.alloc (.cells cs6 31)).heap.size) := by show _ < _; simp
  clear b67 N6 ONE6 SZ6 V6 Q3a Q4a B6
  obtain ⟨g6, eg6⟩ : ∃ g6, g6 = w6.heap.size := ⟨_, rfl⟩
  obtain ⟨w7, e7⟩ : ∃ w7, w7 = w6.alloc (.cells cs6 31) := ⟨_, rfl⟩
  rw [← e7] at B7 Q3b Q4b V6b R7 L7 ⊢
  rw [← eg6] at R7 L7 ⊢
  clear e7 eg6
  have C8 := dread_letter (Q.out.below B7.out) hlen
  rw [← EG.out, ← EX.out] at C8
  have C8 := hide C8
  go_wp2_with fail
  refine C8.out.mono ?_
  rintro e w8 ⟨cs8, rfl, hv8, hb8⟩
  have B8' := hide (below_step B7.out hb8)
  have Q3c := hide (Q3b.out.below hb8)
  have Q4c := hide (Q4b.out.below hb8)
  have V6c := hide (V6b.out.fit hb8)
  have V8 := hide (hv8.same (P' := fun b => b < w8.heap.size) fun b hl => ⟨hl.2, rfl⟩)
  have R8 := hide ((hb8.block _ L7.out).trans R7.out)
  have L8 : Hid (g6 < w8.heap.size) := Nat.lt_of_lt_of_le L7.out hb8.size
  clear hv8 hb8 C8 Q3b Q4b V6b R7 L7 B7
  have ONE8 := hide V8.out.one
  obtain ⟨u0, u1, u2, u3, u4, u5, u6, u7, u8, u9, u10, u11, u12, ecs, hv7⟩ := V8.out.parts KX8.out
  have V87 := hide hv7
  subst ecs
  have INF8 : Hid ((Tryz.prog.info? 37).map (·.size) = some (#[.int .i64 (grp X), u0, u1, u2, u3, u4, u5, u6, u7, u8, u9, u10, u11, u12] : Array Value).size) := dinfo_letter
  have N8 : Hid ((w8.alloc (.cells #[.int .i64 0, .int .i64 0, .int .i64 0, .int .i64 0, .int .i64 0, .int .i64 0, .int .i64 0, .int .i64 0, .slice none 0 0, .slice none 0 0, .int .i64 0, .int .i64 0, .int .u32 0, .slice none 0 0] 37)).heap[w8.heap.size]? = some (.cells #[.int .i64 0, .int .i64 0, .int .i64 0, .int .i64 0, .int .i64 0, .int .i64 0, .int .i64 0, .int .i64 0, .slice none 0 0, .slice none 0 0, .int .i64 0, .int .i64 0, .int .u32 0, .slice none 0 0] 37)) := heap_alloc_new w8 _
  clear hv7 V8
  go_upto_region 5 with (refine wpList_store_row rfl 37 (.tmp 14) (.tmp 40) rfl w8.heap.size #[.int .i64 (grp X), u0, u1, u2, u3, u4, u5, u6, u7, u8, u9, u10, u11, u12] rfl rfl 37 #[.int .i64 0, .int .i64 0, .int .i64 0, .int .i64 0, .int .i64 0, .int .i64 0, .int .i64 0, .int .i64 0, .slice none 0 0, .slice none 0 0, .int .i64 0, .int .i64 0, .int .u32 0, .slice none 0 0] N8.out INF8.out rfl ONE8.out ?_)
  rw [setRow_alloc]
  have B9 := hide (below_alloc B8'.out (.cells #[.int .i64 (grp X), u0, u1, u2, u3, u4, u5, u6, u7, u8, u9, u10, u11, u12] 37))
  have b89 := below_alloc1 w8 (.cells #[.int .i64 (grp X), u0, u1, u2, u3, u4, u5, u6, u7, u8, u9, u10, u11, u12] 37)
  have Q3d := hide (Q3c.out.below b89)
  have Q4d := hide (Q4c.out.below b89)
  have V6d := hide (V6c.out.fit b89)
  have V8d := hide (V87.out.fit b89)
  have R9 := hide ((b89.block _ L8.out).trans R8.out)
  have R9' : Hid ((w8.alloc (.cells #[.int .i64 (grp X), u0, u1, u2, u3, u4, u5, u6, u7, u8, u9, u10, u11, u12] 37)).heap[w8.heap.size]? = some (.cells #[.int .i64 (grp X), u0, u1, u2, u3, u4, u5, u6, u7, u8, u9, u10, u11, u12] 37)) := heap_alloc_new w8 _
  have L9 : Hid (g6 < (w8.alloc (.cells #[.int .i64 (grp X), u0, u1, u2, u3, u4, u5, u6, u7, u8, u9, u10, u11, u12] 37)).heap.size ∧ w8.heap.size < (w8.alloc (.cells #[.int .i64 (grp X), u0, u1, u2, u3, u4, u5, u6, u7, u8, u9, u10, u11, u12] 37)).heap.size) := ⟨by have : g6 < w8.heap.size := L8.out; simp; omega, by simp⟩
  clear b89 N8 ONE8 V6c V87 Q3c Q4c B8' R8 L8
  obtain ⟨g8, eg8⟩ : ∃ g8, g8 = w8.heap.size := ⟨_, rfl⟩
  obtain ⟨w9, e9⟩ : ∃ w9, w9 = w8.alloc (.cells #[.int .i64 (grp X), u0, u1, u2, u3, u4, u5, u6, u7, u8, u9, u10, u11, u12] 37) := ⟨_, rfl⟩
  rw [← e9] at B9 Q3d Q4d V6d V8d R9 R9' L9 ⊢
  rw [← eg8] at R9' L9 ⊢
  clear e9 eg8
  go_wp2_with fail
  refine (wawake_any w9).mono ?_
  rintro e wa ⟨rfl, hba⟩
  have Ba := hide (below_step B9.out hba)
  have C10 := hide (bytes_sq (Q3d.out.below hba) (Q4d.out.below hba) (by omega))
  have Ra := hide ((hba.block _ L9.out.1).trans R9.out)
  have Ra' := hide ((hba.block _ L9.out.2).trans R9'.out)
  have V6e := hide (V6d.out.fit hba)
  have V8e := hide (V8d.out.fit hba)
  clear hba Q3d Q4d V6d V8d R9 R9' L9 B9
  go_wp2_with fail
  refine C10.out.mono ?_
  rintro e wb ⟨rfl, mb, eb⟩
  have Bb : Hid (Below w.heap.size w wb) := by rw [eb]; exact below_drewN Ba.out mb
  have Rb : Hid (wb.heap[g6]? = some (.cells cs6 31)) := by rw [eb]; exact Ra.out
  have rb : wb.heap[g8]? = some (.cells #[.int .i64 (grp X), u0, u1, u2, u3, u4, u5, u6, u7, u8, u9, u10, u11, u12] 37) := by rw [eb]; exact Ra'.out
  have V6f : Hid (LetV 7 wb (fun b => b < wb.heap.size) cs6 (tl X)) := by rw [eb]; exact V6e.out.same fun b hl => ⟨hl, rfl⟩
  have V8f : Hid (LetV 7 wb (fun b => b < wb.heap.size) #[u0, u1, u2, u3, u4, u5, u6, u7, u8, u9, u10, u11, u12] (tl X)) := by rw [eb]; exact V8e.out.same fun b hl => ⟨hl, rfl⟩
  have CS := hide (same_letter V6f.out V8f.out KX.out (fun b h => h) (fun b h => h) lX.out.1 lX.out.2)
  have cg : wb.cell? ⟨g8, 0, none⟩ = some (.int .i64 (grp X)) := by rw [cell_of_row _ _ _ _ _ _ rb]; rfl
  have RNG : Hid (wb.rangeAt g8 1 [u0, u1, u2, u3, u4, u5, u6, u7, u8, u9, u10, u11, u12]) := range_of_row (u := .int .i64 (grp X)) rb
  clear eb C10 Ra Ra' V6e V8e Ba rb
  generalize grp X = GX at *
  go_wp2_with (first | (refine load_row_guarded rfl 31 (.tmp 12) rfl g6 rfl 31 cs6 (0, 0) _ Rb.out Tryz.underlying31 rfl INF6.out ?_) | (refine load_mid_guarded rfl 31 (.tmp 61) rfl g8 1 rfl [u0, u1, u2, u3, u4, u5, u6, u7, u8, u9, u10, u11, u12] _ RNG.out Tryz.underlying31 rfl info_letter ?_))
  refine CS.out.mono ?_
  rintro e wc ⟨rfl, hbc⟩
  have Bc := hide (below_step Bb.out hbc)
  clear hbc CS
  go_wp2_with fail
  go_ret
  exact ⟨rfl, Bc.out⟩

set_option maxRecDepth 100000 in
theorem lifted (os : Os) (started : os.Started) (H : Type) (enc : TypeId × Value → H) :
    ReturnsInHanded {} Tryz.checked os 3 .any (Rows.wireLettersSpec.pre6 enc Tryz.prog Tryz.f3 Rows.wireLettersRow.domain false) (Rows.wireLettersSpec.post enc Tryz.prog Tryz.f3 false true false false) := by
  refine returnsInHanded_of_change_sized (C := Tryz.checked) own started (by kernel_rfl) Tryz.func3
    (ChangeSpec.witness6 (enc := enc) (C := Tryz.checked) false ⟨#[], #[.int .i64 0, .agg #[.int .i64 0, .int .i64 0, .int .i64 0, .int .i64 0, .int .i64 0, .int .i64 0, .int .i64 0, .slice none 0 0, .slice none 0 0, .int .i64 0, .int .i64 0, .int .u32 0, .slice none 0 0], .slice none 0 0], []⟩ 8 (by kernel_rfl) (by kernel_rfl) (by kernel_rfl) (by kernel_rfl)) ?_
  intro W base args ds gs before hval0 hW hcnd hsz0 _
  have hsz : (DataW.weightsEach Tryz.prog (Tryz.f3.params.toList ++ Rows.wireLettersSpec.plain.varTypes Tryz.prog) (ds ++ gs)).all (· ≤ reachBytes) = true := hsz0
  have hval : ∀ (j : Nat) t v, Tryz.f3.params[j]? = some t → args[j]? = some v → Value.okWide Tryz.prog W .any base t v := hval0
  have hW' := hW
  obtain ⟨p, q, hA0, hV, rfl, hfz, hnd⟩ := hW
  have hA : DataW.TrodAll enc Tryz.prog W 0 (fun _ => true) true Tryz.f3.params.toList args.toList ds p := hA0
  rw [Tryz.params3] at hA hval hsz
  obtain ⟨v0, vs0, d0, ds0, p0, q0, hargs, rfl, rfl, h0, r0⟩ := trodAll_cons hA
  obtain ⟨v1, vs1, d1, ds1, p1, q1, rfl, rfl, rfl, h1, r1⟩ := trodAll_cons r0
  obtain ⟨v2, vs2, d2, ds2, p2, q2, rfl, rfl, rfl, h2, r2⟩ := trodAll_cons r1
  obtain ⟨rfl, rfl, rfl⟩ := trodAll_nil r2
  obtain rfl : args = #[v0, v1, v2] := by cases args; simp_all
  obtain ⟨rfl, rfl⟩ := trodVars_none hV
  have lt0 : ∀ x ∈ p0, x.block < W.heap.size := by obtain ⟨m, hm⟩ := h0; exact DataW.trod_lt m _ _ _ hm
  obtain ⟨z, rfl, zb⟩ := open_i64 (hval 0 3 v0 rfl rfl) h0
  have lt1 : ∀ x ∈ p1, x.block < W.heap.size := by obtain ⟨m, hm⟩ := h1; exact DataW.trod_lt m _ _ _ hm
  obtain ⟨cs, x, rfl, h⟩ := open_letter_held (hval 1 31 v1 rfl rfl) h1 (fun n hn => by have h := List.all_eq_true.1 hsz n (DataW.weights_mem_each (j := 1) rfl rfl n hn); simpa using h)
  have lt2 : ∀ x ∈ p2, x.block < W.heap.size := by obtain ⟨m, hm⟩ := h2; exact DataW.trod_lt m _ _ _ hm
  obtain ⟨a, len, cap, bs, rfl, q⟩ := open_sq_sized (hval 2 27 v2 rfl rfl) h2 (fun elems spare e => by have h := hsz; rw [e] at h; exact sized_slice h (j := 2) (t := 27) (e := 5) rfl rfl Tryz.underlying27)
  clear hA0 hval0
  refine (walk z zb.1 zb.2 h.1 h.2.1 h.2.2.1 h.2.2.2 q.1 q.2).mono fun e W' ⟨he, bel⟩ => ?_
  subst he
  exact ⟨_, rfl, _, _, _, [], _, [], hW', trodAll_mk1 (shut_bool Tryz.underlying4 _), (trodAll_cons_mk (Below.trod laidOut (by kernel_rfl) (of_decide_eq_true (by kernel_rfl)) h0 bel lt0) (trodAll_cons_mk (Below.trod laidOut (by kernel_rfl) (of_decide_eq_true (by kernel_rfl)) h1 bel lt1) (trodAll_cons_mk (Below.trod laidOut (by kernel_rfl) (of_decide_eq_true (by kernel_rfl)) h2 bel lt2) trodAll_mk0))), rfl, bel.frame _, fun h => by cases h⟩

theorem over : Rows.wireLettersRow.holds Tryz.pinned (OpenSpec.ofChange Rows.wireLettersSpec) :=
  OpenClaim.holds_of_wide 3 Tryz.f3 rfl rfl rfl rfl rfl rfl rfl ⟨rfl, rfl, rfl, rfl, rfl⟩ rfl rfl rfl rfl rfl (by kernel_rfl) Tryz.func3 (by kernel_rfl)
    (of_decide_eq_true (by kernel_rfl)) (by unfold Func.isWrapper; first | (rw [if_pos (by decide +kernel)]; kernel_rfl) | (rw [if_neg (by decide +kernel)]; exact ⟨rfl, rfl⟩))
    (fun os started H enc _ => lifted os started H enc)

theorem proved : Rows.WireLettersSaid := over
#print axioms proved
end WireLetters
theorem wireLetters_holds : Rows.WireLettersSaid := WireLetters.proved
end Go.Proofs.YtmajhkmgdkbjoaaGreat
