/- WireStates: for every state and every list of bytes: wire's bytes of the state, and what wire reads the bytes as, are what the document's own functions make of them. No condition. -/
import Derived.Test.YthklpkmdmkgjiaaGreatFWireOpenState
import Derived.Test.YthklpkmdmkgjiaaGreatJA
import Derived.Deep.Cut
import Derived.Test.YthklpkmdmkgjiaaGreatJT
import Derived.Test.YthklpkmdmkgjiaaGreatFWireCallsState
import Derived.Test.YthklpkmdmkgjiaaGreatFWireDocState
import Derived.Test.YthklpkmdmkgjiaaGreatFWireSameState
import Derived.Test.YthklpkmdmkgjiaaGreatFWireCopyState
namespace Go.Proofs.YthklpkmdmkgjiaaGreat
namespace WireStates
open Go.ChangeShapes Go.WideShapes Go.ChangeAt Go.RowKit B8 Cm Wm
set_option linter.unusedVariables false

theorem _root_.Go.Proofs.YthklpkmdmkgjiaaGreat.StaV.belowc {w w1 : World} {cs : Array Value} {x : Sta} (h : StaV w (fun b => b < w.heap.size) cs x) (hb : Below w.heap.size w w1) : StaV w1 (fun b => b < w1.heap.size) cs x := h.same fun b hl => ⟨Nat.lt_of_lt_of_le hl hb.size, hb.block b hl⟩
theorem listA_len {α : Type} (bs : List Int) (f : St → Ans α) (s : St) : (listA bs f s).v.length ≤ 140737488355328 := by
  show (timesA _ _ _).v.length ≤ _
  rw [timesA_length]
  have := countA_le bs 1024 s
  omega
theorem accA_len (bs : List Int) (s : St) : (accA bs s).v.hs.length ≤ 140737488355328 := by
  show (listA bs (flatA bs [0, 0, 0, 0]) (flatA bs [3, 0, 0, 0, 0] s).s).v.length ≤ _
  exact listA_len bs _ _
theorem staA_len (bs : List Int) (s : St) : (staA bs s).v.length ≤ 140737488355328 ∧ ∀ a ∈ (staA bs s).v, a.hs.length ≤ 140737488355328 := by
  unfold staA
  exact ⟨listA_len bs _ _, timesA_all (Q := fun a : Acc => a.hs.length ≤ 140737488355328) _ (fun s => accA_len bs s) _ _⟩
theorem staM_len (bs : List Int) (s : St) : (staM bs s).v.length ≤ 140737488355328 := by unfold staM; exact listA_len bs _ _
theorem staW_len (bs : List Int) (s : St) : (staW bs s).v.length ≤ 140737488355328 := by unfold staW; exact listA_len bs _ _
theorem staD_len (bs : List Int) (s : St) : (staD bs s).v.length ≤ 140737488355328 := by unfold staD; exact listA_len bs _ _
theorem staE_len (bs : List Int) (s : St) : (staE bs s).v.length ≤ 140737488355328 := by unfold staE; exact listA_len bs _ _
def Lens (x : Sta) : Prop := x.acs.length ≤ 140737488355328 ∧ (∀ a ∈ x.acs, a.hs.length ≤ 140737488355328) ∧ x.ms.length ≤ 140737488355328 ∧ x.ws.length ≤ 140737488355328 ∧ x.ds.length ≤ 140737488355328 ∧ x.es.length ≤ 140737488355328
theorem state_len (bs : List Int) (s : St) : Lens (stateA bs s).v := by
  unfold stateA
  have hA := staA_len bs s
  have hM := staM_len bs s
  have hW := staW_len bs s
  have hD := staD_len bs s
  have hE := staE_len bs s
  generalize sta0 bs s = a0 at *
  generalize staA bs s = aA at *
  generalize staM bs s = aM at *
  generalize staW bs s = aW at *
  generalize staD bs s = aD at *
  generalize staE bs s = aE at *
  generalize sta1 bs s = a1 at *
  exact ⟨hA.1, hA.2, hM, hW, hD, hE⟩
theorem sVal_len (bs : List Int) : Lens (sVal bs) := by
  unfold sVal
  split
  · exact state_len bs _
  · exact ⟨Nat.zero_le _, fun a ha => by simp [zeroS] at ha, Nat.zero_le _, Nat.zero_le _, Nat.zero_le _, Nat.zero_le _⟩
set_option maxRecDepth 100000 in
set_option maxHeartbeats 4000000 in
theorem walk {w : World} {cs : Array Value} {x : Sta} {a : Option Addr} {len cap : Nat} {bs : List Int} (h : StaV w (fun b => b < w.heap.size) cs x) (lA : x.acs.length * 104 ≤ 140737488351232) (lH : ∀ a ∈ x.acs, a.hs.length * 32 ≤ 140737488351232) (l7 : x.ms.length * 56 ≤ 140737488351232) (l8 : x.ws.length * 104 ≤ 140737488351232) (l9 : x.ds.length * 80 ≤ 140737488351232) (l10 : x.es.length * 16 ≤ 140737488351232) (q : Sq w a len cap bs) (hcap : cap * 1 ≤ 140737488351232) :
    Calls Tryz.prog 3 #[.agg cs, .slice a len cap] w fun e w' => e = .returned (.bool true) ∧ Below w.heap.size w w' := by
  obtain ⟨F, eF⟩ : ∃ F, F = wBytes x.flds := ⟨_, rfl⟩
  obtain ⟨n, en⟩ : ∃ n, n = F.length := ⟨_, rfl⟩
  obtain ⟨E, eE⟩ : ∃ E, E = wErr x.flds := ⟨_, rfl⟩
  obtain ⟨G, eG⟩ : ∃ G, G = sErr bs := ⟨_, rfl⟩
  obtain ⟨X, eX⟩ : ∃ X, X = sVal bs := ⟨_, rfl⟩
  have lX : Hid (Lens X) := by rw [eX]; exact sVal_len bs
  have hk := h.hk
  have LH := hide lH
  have hlc := q.lecap
  have hlen : len ≤ 140737488351232 := by omega
  have hn : n ≤ 65536 := by rw [en, eF]; exact wBytes_le _
  have b1 : Below w.heap.size w (w.alloc (.cells cs 31)) := Below.alloc (Below.refl _ _) (Nat.le_refl _) _
  have B1 := hide b1
  have R1 : Hid ((w.alloc (.cells cs 31)).heap[w.heap.size]? = some (.cells cs 31)) := heap_alloc_new w _
  have LT1 : Hid (w.heap.size < (w.alloc (.cells cs 31)).heap.size) := by show _ < _; simp
  have hi : (Tryz.prog.info? 31).map (·.size) = some cs.size := by rw [h.size]; exact info_state
  have HI := hide hi
  have hsz : cs.size = 29 := h.size
  have H := hide h
  have HK := hide hk
  have Q := hide q
  have EF := hide eF
  have EN := hide en
  have EE := hide eE
  have EG := hide eG
  have EX := hide eX
  clear h hk q b1 lH hi eF en eE eG eX
  go_enter Tryz.func3, Tryz.ntmps3
  go_upto_region 1 with fail
  go_wp2_with (refine wpList_load_row rfl 31 (.tmp 2) rfl w.heap.size rfl 31 cs (0, 0) _ R1.out Tryz.underlying31 rfl HI.out ?_)
  refine (copy_state (H.out.belowc B1.out) lA LH.out l7 l8 l9 l10).mono ?_
  rintro e w2 ⟨cs2, rfl, hv2, hb2⟩
  have B2 := hide (below_step B1.out hb2)
  have R2 := hide ((hb2.block _ (by have := B1.out.size; exact LT1.out)).trans R1.out)
  have LT2 : Hid (w.heap.size < w2.heap.size) := Nat.lt_of_lt_of_le LT1.out hb2.size
  have C3 := ccall_state hv2 HK.out
  rw [← EF.out, ← EN.out, ← EE.out] at C3
  have C3 := hide C3
  clear hv2 hb2
  go_wp2_with fail
  refine C3.out.mono ?_
  rintro e w3 ⟨a3, c3, rfl, hm3, hb3⟩
  have B3 := hide (below_step B2.out hb3)
  have R3 := hide ((hb3.block _ LT2.out).trans R2.out)
  have LT3 : Hid (w.heap.size < w3.heap.size) := Nat.lt_of_lt_of_le LT2.out hb3.size
  have Q3 := hide hm3.sq
  have C4 := dwrite_state (H.out.belowc B3.out) HK.out (by omega) (fun a ha => by have := LH.out a ha; omega) (by omega) (by omega) (by omega) (by omega)
  rw [← EF.out, ← EN.out, ← EE.out] at C4
  have C4 := hide C4
  clear hm3 hb3 C3
  go_wp2_with (refine wpList_load_row rfl 31 (.tmp 2) rfl w.heap.size rfl 31 cs (0, 0) _ R3.out Tryz.underlying31 rfl HI.out ?_)
  refine C4.out.mono ?_
  rintro e w4 ⟨a4, c4, rfl, hq4, hb4⟩
  have B4 := hide (below_step B3.out hb4)
  have Q34 := hide (Q3.out.below hb4)
  have Q4 := hide hq4
  clear hq4 hb4 C4 R3 R2 R1 Q3
  have r0 := row_new w4 (w4.heap.size) (Nat.le_refl _) #[] (by decide)
  have R0 := hide r0
  have Bn := hide (below_alloc B4.out (.cells #[] 5))
  have Qn := hide (Q.out.below Bn.out)
  clear r0
  go_wp2_with (at_builtin; refine wp_append_sq _ rfl (.tmp 25) (.tmp 26) rfl w4.heap.size (.slice (some ⟨w4.heap.size, 0, none⟩) 0 0) 0 [] rfl R0.out a len cap bs rfl Qn.out (by omega) (by simp) ?_; intro v5 w5 hown hgrow; simp only [List.nil_append, Nat.zero_add] at hown; obtain ⟨a5, cp5, rfl, q5⟩ := sq_of_row Q.out.length Q.out.wf hown; have Q5 := hide q5; have B5 : Hid (Below w4.heap.size w4 w5) := below_grown (below_alloc1 w4 _) R0.out (Nat.le_refl _) hgrow; clear hown hgrow q5)
  have B50 := hide (below_step B4.out B5.out)
  have C6 := cread_state Q5.out (by omega)
  rw [← EG.out, ← EX.out] at C6
  have C6 := hide C6
  refine C6.out.mono ?_
  rintro e w6 ⟨cs6, rfl, hv6, hb6⟩
  have B6 := hide (below_step B50.out hb6)
  have Q3a := hide ((Q34.out.below B5.out).below hb6)
  have Q4a := hide ((Q4.out.below B5.out).below hb6)
  have V6 := hide (hv6.same (P' := fun b => b < w6.heap.size) fun b hl => ⟨hl.2, rfl⟩)
  clear hv6 hb6 C6 Q5 B5 B50 Q34 Q4 R0 Bn Qn
  have INF6 : Hid ((Tryz.prog.info? 31).map (·.size) = some cs6.size) := by show _ = _; rw [V6.out.size]; exact info_state
  have SZ6 : Hid ((#[.int .i64 0, .int .i64 0, .bool false, .string ⟨#[]⟩, .string ⟨#[]⟩, .int .i64 0, .slice none 0 0, .slice none 0 0, .slice none 0 0, .slice none 0 0, .slice none 0 0, .int .i64 0, .int .i64 0, .int .i64 0, .string ⟨#[]⟩, .string ⟨#[]⟩, .int .i64 0, .int .i64 0, .int .i64 0, .int .i64 0, .int .i64 0, .string ⟨#[]⟩, .string ⟨#[]⟩, .int .i64 0, .int .i64 0, .slice none 0 0, .int .i64 0, .int .i64 0, .int .i64 0] : Array Value).size = cs6.size) := (V6.out.size).symm
  have ONE6 := hide V6.out.one
  have N6 : Hid ((w6.alloc (.cells #[.int .i64 0, .int .i64 0, .bool false, .string ⟨#[]⟩, .string ⟨#[]⟩, .int .i64 0, .slice none 0 0, .slice none 0 0, .slice none 0 0, .slice none 0 0, .slice none 0 0, .int .i64 0, .int .i64 0, .int .i64 0, .string ⟨#[]⟩, .string ⟨#[]⟩, .int .i64 0, .int .i64 0, .int .i64 0, .int .i64 0, .int .i64 0, .string ⟨#[]⟩, .string ⟨#[]⟩, .int .i64 0, .int .i64 0, .slice none 0 0, .int .i64 0, .int .i64 0, .int .i64 0] 31)).heap[w6.heap.size]? = some (.cells #[.int .i64 0, .int .i64 0, .bool false, .string ⟨#[]⟩, .string ⟨#[]⟩, .int .i64 0, .slice none 0 0, .slice none 0 0, .slice none 0 0, .slice none 0 0, .slice none 0 0, .int .i64 0, .int .i64 0, .int .i64 0, .string ⟨#[]⟩, .string ⟨#[]⟩, .int .i64 0, .int .i64 0, .int .i64 0, .int .i64 0, .int .i64 0, .string ⟨#[]⟩, .string ⟨#[]⟩, .int .i64 0, .int .i64 0, .slice none 0 0, .int .i64 0, .int .i64 0, .int .i64 0] 31)) := heap_alloc_new w6 _
  go_upto_region 4 with (refine wpList_store_row rfl 31 (.tmp 9) (.tmp 29) rfl w6.heap.size cs6 rfl rfl 31 #[.int .i64 0, .int .i64 0, .bool false, .string ⟨#[]⟩, .string ⟨#[]⟩, .int .i64 0, .slice none 0 0, .slice none 0 0, .slice none 0 0, .slice none 0 0, .slice none 0 0, .int .i64 0, .int .i64 0, .int .i64 0, .string ⟨#[]⟩, .string ⟨#[]⟩, .int .i64 0, .int .i64 0, .int .i64 0, .int .i64 0, .int .i64 0, .string ⟨#[]⟩, .string ⟨#[]⟩, .int .i64 0, .int .i64 0, .slice none 0 0, .int .i64 0, .int .i64 0, .int .i64 0] N6.out INF6.out SZ6.out ONE6.out ?_)
  rw [setRow_alloc]
  have B7 := hide (below_alloc B6.out (.cells cs6 31))
  have b67 := below_alloc1 w6 (.cells cs6 31)
  have Q3b := hide (Q3a.out.below b67)
  have Q4b := hide (Q4a.out.below b67)
  have V6b := hide (V6.out.belowc b67)
  have R7 : Hid ((w6.alloc (.cells cs6 31)).heap[w6.heap.size]? = some (.cells cs6 31)) := heap_alloc_new w6 _
  have L7 : Hid (w6.heap.size < (w6.alloc (.cells cs6 31)).heap.size) := by show _ < _; simp
  clear b67 N6 ONE6 SZ6 V6 Q3a Q4a B6
  obtain ⟨g6, eg6⟩ : ∃ g6, g6 = w6.heap.size := ⟨_, rfl⟩
  obtain ⟨w7, e7⟩ : ∃ w7, w7 = w6.alloc (.cells cs6 31) := ⟨_, rfl⟩
  rw [← e7] at B7 Q3b Q4b V6b R7 L7 ⊢
  rw [← eg6] at R7 L7 ⊢
  clear e7 eg6
  have C8 := dread_state (Q.out.below B7.out) hlen
  rw [← EG.out, ← EX.out] at C8
  have C8 := hide C8
  go_wp2_with fail
  refine C8.out.mono ?_
  rintro e w8 ⟨cs8, rfl, hv8, hb8⟩
  have B8' := hide (below_step B7.out hb8)
  have Q3c := hide (Q3b.out.below hb8)
  have Q4c := hide (Q4b.out.below hb8)
  have V6c := hide (V6b.out.belowc hb8)
  have V8 := hide (hv8.same (P' := fun b => b < w8.heap.size) fun b hl => ⟨hl.2, rfl⟩)
  have R8 := hide ((hb8.block _ L7.out).trans R7.out)
  have L8 : Hid (g6 < w8.heap.size) := Nat.lt_of_lt_of_le L7.out hb8.size
  clear hv8 hb8 C8 Q3b Q4b V6b R7 L7 B7
  have INF8 : Hid ((Tryz.prog.info? 31).map (·.size) = some cs8.size) := by show _ = _; rw [V8.out.size]; exact info_state
  have SZ8 : Hid ((#[.int .i64 0, .int .i64 0, .bool false, .string ⟨#[]⟩, .string ⟨#[]⟩, .int .i64 0, .slice none 0 0, .slice none 0 0, .slice none 0 0, .slice none 0 0, .slice none 0 0, .int .i64 0, .int .i64 0, .int .i64 0, .string ⟨#[]⟩, .string ⟨#[]⟩, .int .i64 0, .int .i64 0, .int .i64 0, .int .i64 0, .int .i64 0, .string ⟨#[]⟩, .string ⟨#[]⟩, .int .i64 0, .int .i64 0, .slice none 0 0, .int .i64 0, .int .i64 0, .int .i64 0] : Array Value).size = cs8.size) := (V8.out.size).symm
  have ONE8 := hide V8.out.one
  have N8 : Hid ((w8.alloc (.cells #[.int .i64 0, .int .i64 0, .bool false, .string ⟨#[]⟩, .string ⟨#[]⟩, .int .i64 0, .slice none 0 0, .slice none 0 0, .slice none 0 0, .slice none 0 0, .slice none 0 0, .int .i64 0, .int .i64 0, .int .i64 0, .string ⟨#[]⟩, .string ⟨#[]⟩, .int .i64 0, .int .i64 0, .int .i64 0, .int .i64 0, .int .i64 0, .string ⟨#[]⟩, .string ⟨#[]⟩, .int .i64 0, .int .i64 0, .slice none 0 0, .int .i64 0, .int .i64 0, .int .i64 0] 31)).heap[w8.heap.size]? = some (.cells #[.int .i64 0, .int .i64 0, .bool false, .string ⟨#[]⟩, .string ⟨#[]⟩, .int .i64 0, .slice none 0 0, .slice none 0 0, .slice none 0 0, .slice none 0 0, .slice none 0 0, .int .i64 0, .int .i64 0, .int .i64 0, .string ⟨#[]⟩, .string ⟨#[]⟩, .int .i64 0, .int .i64 0, .int .i64 0, .int .i64 0, .int .i64 0, .string ⟨#[]⟩, .string ⟨#[]⟩, .int .i64 0, .int .i64 0, .slice none 0 0, .int .i64 0, .int .i64 0, .int .i64 0] 31)) := heap_alloc_new w8 _
  go_upto_region 5 with (refine wpList_store_row rfl 31 (.tmp 11) (.tmp 34) rfl w8.heap.size cs8 rfl rfl 31 #[.int .i64 0, .int .i64 0, .bool false, .string ⟨#[]⟩, .string ⟨#[]⟩, .int .i64 0, .slice none 0 0, .slice none 0 0, .slice none 0 0, .slice none 0 0, .slice none 0 0, .int .i64 0, .int .i64 0, .int .i64 0, .string ⟨#[]⟩, .string ⟨#[]⟩, .int .i64 0, .int .i64 0, .int .i64 0, .int .i64 0, .int .i64 0, .string ⟨#[]⟩, .string ⟨#[]⟩, .int .i64 0, .int .i64 0, .slice none 0 0, .int .i64 0, .int .i64 0, .int .i64 0] N8.out INF8.out SZ8.out ONE8.out ?_)
  rw [setRow_alloc]
  have B9 := hide (below_alloc B8'.out (.cells cs8 31))
  have b89 := below_alloc1 w8 (.cells cs8 31)
  have Q3d := hide (Q3c.out.below b89)
  have Q4d := hide (Q4c.out.below b89)
  have V6d := hide (V6c.out.belowc b89)
  have V8d := hide (V8.out.belowc b89)
  have R9 := hide ((b89.block _ L8.out).trans R8.out)
  have R9' : Hid ((w8.alloc (.cells cs8 31)).heap[w8.heap.size]? = some (.cells cs8 31)) := heap_alloc_new w8 _
  have L9 : Hid (g6 < (w8.alloc (.cells cs8 31)).heap.size ∧ w8.heap.size < (w8.alloc (.cells cs8 31)).heap.size) := ⟨by have : g6 < w8.heap.size := L8.out; simp; omega, by simp⟩
  clear b89 N8 ONE8 SZ8 V6c V8 Q3c Q4c B8' R8 L8
  obtain ⟨g8, eg8⟩ : ∃ g8, g8 = w8.heap.size := ⟨_, rfl⟩
  obtain ⟨w9, e9⟩ : ∃ w9, w9 = w8.alloc (.cells cs8 31) := ⟨_, rfl⟩
  rw [← e9] at B9 Q3d Q4d V6d V8d R9 R9' L9 ⊢
  rw [← eg8] at R9' L9 ⊢
  clear e9 eg8
  go_wp2_with fail
  refine (wawake_any w9).mono ?_
  rintro e wa ⟨rfl, hba⟩
  have Ba := hide (below_step B9.out hba)
  have C10 := hide (bytes_sq (Q3d.out.below hba) (Q4d.out.below hba) (by omega))
  have Ra := hide ((hba.block _ L9.out.1).trans R9.out)
  have Ra' := hide ((hba.block _ L9.out.2).trans R9'.out)
  have V6e := hide (V6d.out.belowc hba)
  have V8e := hide (V8d.out.belowc hba)
  clear hba Q3d Q4d V6d V8d R9 R9' L9 B9
  go_wp2_with fail
  refine C10.out.mono ?_
  rintro e wb ⟨rfl, mb, eb⟩
  have Bb : Hid (Below w.heap.size w wb) := by rw [eb]; exact below_drewN Ba.out mb
  have Rb : Hid (wb.heap[g6]? = some (.cells cs6 31)) := by rw [eb]; exact Ra.out
  have Rb' : Hid (wb.heap[g8]? = some (.cells cs8 31)) := by rw [eb]; exact Ra'.out
  have V6f : Hid (StaV wb (fun b => b < wb.heap.size) cs6 X) := by rw [eb]; exact V6e.out.same fun b hl => ⟨hl, rfl⟩
  have V8f : Hid (StaV wb (fun b => b < wb.heap.size) cs8 X) := by rw [eb]; exact V8e.out.same fun b hl => ⟨hl, rfl⟩
  have CS := hide (same_state V6f.out V8f.out (fun b h => h) (fun b h => h) lX.out.1 lX.out.2.1 lX.out.2.2.1 lX.out.2.2.2.1 lX.out.2.2.2.2.1 lX.out.2.2.2.2.2)
  clear eb C10 Ra Ra' V6e V8e Ba
  go_wp2_with (first | (refine load_row_guarded rfl 31 (.tmp 9) rfl g6 rfl 31 cs6 (0, 0) _ Rb.out Tryz.underlying31 rfl INF6.out ?_) | (refine load_row_guarded rfl 31 (.tmp 11) rfl g8 rfl 31 cs8 (0, 0) _ Rb'.out Tryz.underlying31 rfl INF8.out ?_))
  refine CS.out.mono ?_
  rintro e wc ⟨rfl, hbc⟩
  have Bc := hide (below_step Bb.out hbc)
  clear hbc CS
  go_wp2_with fail
  go_ret
  exact ⟨rfl, Bc.out⟩

set_option maxRecDepth 100000 in
theorem lifted (os : Os) (started : os.Started) (H : Type) (enc : TypeId × Value → H) :
    ReturnsInHanded {} Tryz.checked os 3 .any (Rows.wireStatesSpec.pre6 enc Tryz.prog Tryz.f3 Rows.wireStatesRow.domain false) (Rows.wireStatesSpec.post enc Tryz.prog Tryz.f3 false true false false) := by
  refine returnsInHanded_of_change_sized (C := Tryz.checked) own started (by kernel_rfl) Tryz.func3
    (ChangeSpec.witness6 (enc := enc) (C := Tryz.checked) false ⟨#[], #[.agg #[.int .i64 0, .int .i64 0, .bool false, .string ByteArray.empty, .string ByteArray.empty, .int .i64 0, .slice none 0 0, .slice none 0 0, .slice none 0 0, .slice none 0 0, .slice none 0 0, .int .i64 0, .int .i64 0, .int .i64 0, .string ByteArray.empty, .string ByteArray.empty, .int .i64 0, .int .i64 0, .int .i64 0, .int .i64 0, .int .i64 0, .string ByteArray.empty, .string ByteArray.empty, .int .i64 0, .int .i64 0, .slice none 0 0, .int .i64 0, .int .i64 0, .int .i64 0], .slice none 0 0], []⟩ 8 (by kernel_rfl) (by kernel_rfl) (by kernel_rfl) (by kernel_rfl)) ?_
  intro W base args ds gs before hval0 hW hcnd hsz0 _
  have hsz : (DataW.weightsEach Tryz.prog (Tryz.f3.params.toList ++ Rows.wireStatesSpec.plain.varTypes Tryz.prog) (ds ++ gs)).all (· ≤ reachBytes) = true := hsz0
  have hval : ∀ (j : Nat) t v, Tryz.f3.params[j]? = some t → args[j]? = some v → Value.okWide Tryz.prog W .any base t v := hval0
  have hW' := hW
  obtain ⟨p, q, hA0, hV, rfl, hfz, hnd⟩ := hW
  have hA : DataW.TrodAll enc Tryz.prog W 0 (fun _ => true) true Tryz.f3.params.toList args.toList ds p := hA0
  rw [Tryz.params3] at hA hval hsz
  obtain ⟨v0, vs0, d0, ds0, p0, q0, hargs, rfl, rfl, h0, r0⟩ := trodAll_cons hA
  obtain ⟨v1, vs1, d1, ds1, p1, q1, rfl, rfl, rfl, h1, r1⟩ := trodAll_cons r0
  obtain ⟨rfl, rfl, rfl⟩ := trodAll_nil r1
  obtain rfl : args = #[v0, v1] := by cases args; simp_all
  obtain ⟨rfl, rfl⟩ := trodVars_none hV
  have lt0 : ∀ x ∈ p0, x.block < W.heap.size := by obtain ⟨m, hm⟩ := h0; exact DataW.trod_lt m _ _ _ hm
  obtain ⟨cs, x, rfl, h⟩ := open_state_held (hval 0 31 v0 rfl rfl) h0 (fun n hn => by have h := List.all_eq_true.1 hsz n (DataW.weights_mem_each (j := 0) rfl rfl n hn); simpa using h)
  have lt1 : ∀ x ∈ p1, x.block < W.heap.size := by obtain ⟨m, hm⟩ := h1; exact DataW.trod_lt m _ _ _ hm
  obtain ⟨a, len, cap, bs, rfl, q⟩ := open_sq_sized (hval 1 29 v1 rfl rfl) h1 (fun elems spare e => by have h := hsz; rw [e] at h; exact sized_slice h (j := 1) (t := 29) (e := 5) rfl rfl Tryz.underlying29)
  clear hA0 hval0
  refine (walk h.1 h.2.1 h.2.2.1 h.2.2.2.1 h.2.2.2.2.1 h.2.2.2.2.2.1 h.2.2.2.2.2.2 q.1 q.2).mono fun e W' ⟨he, bel⟩ => ?_
  subst he
  exact ⟨_, rfl, _, _, _, [], _, [], hW', trodAll_mk1 (shut_bool Tryz.underlying4 _), (trodAll_cons_mk (Below.trod laidOut (by kernel_rfl) (of_decide_eq_true (by kernel_rfl)) h0 bel lt0) (trodAll_cons_mk (Below.trod laidOut (by kernel_rfl) (of_decide_eq_true (by kernel_rfl)) h1 bel lt1) trodAll_mk0)), rfl, bel.frame _, fun h => by cases h⟩

theorem over : Rows.wireStatesRow.holds Tryz.pinned (OpenSpec.ofChange Rows.wireStatesSpec) :=
  OpenClaim.holds_of_wide 3 Tryz.f3 rfl rfl rfl rfl rfl rfl rfl ⟨rfl, rfl, rfl, rfl, rfl⟩ rfl rfl rfl rfl rfl (by kernel_rfl) Tryz.func3 (by kernel_rfl)
    (of_decide_eq_true (by kernel_rfl)) (by unfold Func.isWrapper; first | (rw [if_pos (by decide +kernel)]; kernel_rfl) | (rw [if_neg (by decide +kernel)]; exact ⟨rfl, rfl⟩))
    (fun os started H enc _ => lifted os started H enc)

theorem proved : Rows.WireStatesSaid := over
#print axioms proved
end WireStates
theorem wireStates_holds : Rows.WireStatesSaid := WireStates.proved
end Go.Proofs.YthklpkmdmkgjiaaGreat
