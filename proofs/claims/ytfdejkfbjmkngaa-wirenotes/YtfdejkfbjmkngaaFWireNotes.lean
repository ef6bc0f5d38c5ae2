/- WireNotes: for every note and every list of bytes: wire's bytes of the note, and what wire reads the bytes as, are what the document's own functions make of them. No condition. -/
import Derived.Test.YtfdejkfbjmkngaaJA
import Derived.Deep.Cut
import Derived.Test.YtfdejkfbjmkngaaFWireAwake
import Derived.Test.YtfdejkfbjmkngaaFWireCallsNote
import Derived.Test.YtfdejkfbjmkngaaFWireDocNote
import Derived.Test.YtfdejkfbjmkngaaFWireSameNote
namespace Go.Proofs.Ytfdejkfbjmkngaa
namespace WireNotes
open Go.ChangeShapes Go.WideShapes Go.ChangeAt Go.RowKit B8 Cm Wm
set_option linter.unusedVariables false

set_option maxRecDepth 100000 in
set_option maxHeartbeats 4000000 in
theorem walk {w : World} {cs : Array Value} {xs : List Atom} {a : Option Addr} {len cap : Nat} {bs : List Int} (h : Vals w (fun b => b < w.heap.size) cs xs) (hk : xs.map Atom.k = [0, 0, 0, 0, 0, 0, 0, 4, 0, 4, 0, 3, 0, 0, 0, 0]) (q : Sq w a len cap bs) (hcap : cap * 1 ≤ 140737488351232) :
    Calls Try.prog 4 #[.agg cs, .slice a len cap] w fun e w' => e = .returned (.bool true) ∧ Below w.heap.size w w' := by
  obtain ⟨F, eF⟩ : ∃ F, F = wBytes (flds xs) := ⟨_, rfl⟩
  obtain ⟨n, en⟩ : ∃ n, n = F.length := ⟨_, rfl⟩
  obtain ⟨E, eE⟩ : ∃ E, E = wErr (flds xs) := ⟨_, rfl⟩
  obtain ⟨G, eG⟩ : ∃ G, G = tErr [0, 0, 0, 0, 0, 0, 0, 4, 0, 4, 0, 3, 0, 0, 0, 0] bs := ⟨_, rfl⟩
  obtain ⟨X, eX⟩ : ∃ X, X = tVal [0, 0, 0, 0, 0, 0, 0, 4, 0, 4, 0, 3, 0, 0, 0, 0] bs := ⟨_, rfl⟩
  have kX : X.map Atom.k = [0, 0, 0, 0, 0, 0, 0, 4, 0, 4, 0, 3, 0, 0, 0, 0] := by rw [eX]; exact kinds_tVal_note bs
  have hlc := q.lecap
  have hlen : len ≤ 140737488351232 := by omega
  have hn : n ≤ 65536 := by rw [en, eF]; exact wBytes_le _
  have b1 : Below w.heap.size w (w.alloc (.cells cs 48)) := Below.alloc (Below.refl _ _) (Nat.le_refl _) _
  have B1 := hide b1
  have R1 : Hid ((w.alloc (.cells cs 48)).heap[w.heap.size]? = some (.cells cs 48)) := heap_alloc_new w _
  have LT1 : Hid (w.heap.size < (w.alloc (.cells cs 48)).heap.size) := by show _ < _; simp
  have hi : (Try.prog.info? 48).map (·.size) = some cs.size := by rw [h.size_of hk]; exact info_note
  have HI := hide hi
  have hsz : cs.size = 16 := h.size_of hk
  have H := hide h
  have HK := hide hk
  have Q := hide q
  have KX := hide kX
  have EF := hide eF
  have EN := hide en
  have EE := hide eE
  have EG := hide eG
  have EX := hide eX
  clear h hk q kX b1 hi eF en eE eG eX
  go_enter Try.func4, Try.ntmps4
  go_upto_region 1 with fail
  go_wp2_with (refine wpList_load_row rfl 48 (.tmp 2) rfl w.heap.size rfl 48 cs (0, 0) _ R1.out Try.underlying48 rfl HI.out ?_)
  have B2 := B1
  have R2 := R1
  have LT2 := LT1
  have C3 := ccall_note (H.out.below B1.out) HK.out
  rw [← EF.out, ← EN.out, ← EE.out] at C3
  have C3 := hide C3
  refine C3.out.mono ?_
  rintro e w3 ⟨a3, c3, rfl, hm3, hb3⟩
  have B3 := hide (below_step B2.out hb3)
  have R3 := hide ((hb3.block _ LT2.out).trans R2.out)
  have LT3 : Hid (w.heap.size < w3.heap.size) := Nat.lt_of_lt_of_le LT2.out hb3.size
  have Q3 := hide hm3.sq
  have C4 := dwrite_note (H.out.below B3.out) HK.out
  rw [← EF.out, ← EN.out, ← EE.out] at C4
  have C4 := hide C4
  clear hm3 hb3 C3
  go_wp2_with (refine wpList_load_row rfl 48 (.tmp 2) rfl w.heap.size rfl 48 cs (0, 0) _ R3.out Try.underlying48 rfl HI.out ?_)
  refine C4.out.mono ?_
  rintro e w4 ⟨a4, c4, rfl, hq4, hb4⟩
  have B4 := hide (below_step B3.out hb4)
  have Q34 := hide (Q3.out.below hb4)
  have Q4 := hide hq4
  clear hq4 hb4 C4 R3 R2 R1 Q3
  have r0 := row_new w4 (w4.heap.size) (Nat.le_refl _) #[] (by decide)
  have R0 := hide r0
  have Bn := hide (below_alloc B4.out (.cells #[] 5))
  have Qn := hide (Q.out.below Bn.out)
  clear r0
  go_wp2_with (at_builtin; refine wp_append_sq _ rfl (.tmp 24) (.tmp 25) rfl w4.heap.size (.slice (some ⟨w4.heap.size, 0, none⟩) 0 0) 0 [] rfl R0.out a len cap bs rfl Qn.out (by omega) (by simp) ?_; intro v5 w5 hown hgrow; simp only [List.nil_append, Nat.zero_add] at hown; obtain ⟨a5, cp5, rfl, q5⟩ := sq_of_row Q.out.length Q.out.wf hown; have Q5 := hide q5; have B5 : Hid (Below w4.heap.size w4 w5) := below_grown (below_alloc1 w4 _) R0.out (Nat.le_refl _) hgrow; clear hown hgrow q5)
  have B50 := hide (below_step B4.out B5.out)
  have C6 := cread_note Q5.out (by omega)
  rw [← EG.out, ← EX.out] at C6
  have C6 := hide C6
  refine C6.out.mono ?_
  rintro e w6 ⟨cs6, rfl, hv6, hb6⟩
  have B6 := hide (below_step B50.out hb6)
  have Q3a := hide ((Q34.out.below B5.out).below hb6)
  have Q4a := hide ((Q4.out.below B5.out).below hb6)
  have V6 := hide hv6.any
  clear hv6 hb6 C6 Q5 B5 B50 Q34 Q4 R0 Bn Qn
  have INF6 : Hid ((Try.prog.info? 48).map (·.size) = some cs6.size) := by show _ = _; rw [V6.out.size_of KX.out]; exact info_note
  have SZ6 : Hid ((#[.int .i64 0, .int .i64 0, .int .i64 0, .int .i64 0, .int .i64 0, .int .i64 0, .int .i64 0, .slice none 0 0, .int .i64 0, .slice none 0 0, .int .i64 0, .string ⟨#[]⟩, .int .i64 0, .int .i64 0, .int .i64 0, .int .i64 0] : Array Value).size = cs6.size) := (V6.out.size_of KX.out).symm
  have ONE6 := hide V6.out.one
  have N6 : Hid ((w6.alloc (.cells #[.int .i64 0, .int .i64 0, .int .i64 0, .int .i64 0, .int .i64 0, .int .i64 0, .int .i64 0, .slice none 0 0, .int .i64 0, .slice none 0 0, .int .i64 0, .string ⟨#[]⟩, .int .i64 0, .int .i64 0, .int .i64 0, .int .i64 0] 48)).heap[w6.heap.size]? = some (.cells #[.int .i64 0, .int .i64 0, .int .i64 0, .int .i64 0, .int .i64 0, .int .i64 0, .int .i64 0, .slice none 0 0, .int .i64 0, .slice none 0 0, .int .i64 0, .string ⟨#[]⟩, .int .i64 0, .int .i64 0, .int .i64 0, .int .i64 0] 48)) := heap_alloc_new w6 _
  go_upto_region 4 with (refine wpList_store_row rfl 48 (.tmp 9) (.tmp 28) rfl w6.heap.size cs6 rfl rfl 48 #[.int .i64 0, .int .i64 0, .int .i64 0, .int .i64 0, .int .i64 0, .int .i64 0, .int .i64 0, .slice none 0 0, .int .i64 0, .slice none 0 0, .int .i64 0, .string ⟨#[]⟩, .int .i64 0, .int .i64 0, .int .i64 0, .int .i64 0] N6.out INF6.out SZ6.out ONE6.out ?_)
  rw [setRow_alloc]
  have B7 := hide (below_alloc B6.out (.cells cs6 48))
  have b67 := below_alloc1 w6 (.cells cs6 48)
  have Q3b := hide (Q3a.out.below b67)
  have Q4b := hide (Q4a.out.below b67)
  have V6b := hide (V6.out.below b67)
  have R7 : Hid ((w6.alloc (.cells cs6 48)).heap[w6.heap.size]? = some (.cells cs6 48)) := heap_alloc_new w6 _
  have L7 : Hid (w6.heap.size < (w6.alloc (.cells cs6 48)).heap.size) := by show _ < _; simp
  clear b67 N6 ONE6 SZ6 V6 Q3a Q4a B6
  obtain ⟨g6, eg6⟩ : ∃ g6, g6 = w6.heap.size := ⟨_, rfl⟩
  obtain ⟨w7, e7⟩ : ∃ w7, w7 = w6.alloc (.cells cs6 48) := ⟨_, rfl⟩
  rw [← e7] at B7 Q3b Q4b V6b R7 L7 ⊢
  rw [← eg6] at R7 L7 ⊢
  clear e7 eg6
  have C8 := dread_note (Q.out.below B7.out) hlen
  rw [← EG.out, ← EX.out] at C8
  have C8 := hide C8
  go_wp2_with fail
  refine C8.out.mono ?_
  rintro e w8 ⟨cs8, rfl, hv8, hb8⟩
  have B8' := hide (below_step B7.out hb8)
  have Q3c := hide (Q3b.out.below hb8)
  have Q4c := hide (Q4b.out.below hb8)
  have V6c := hide (V6b.out.below hb8)
  have V8 := hide hv8.any
  have R8 := hide ((hb8.block _ L7.out).trans R7.out)
  have L8 : Hid (g6 < w8.heap.size) := Nat.lt_of_lt_of_le L7.out hb8.size
  clear hv8 hb8 C8 Q3b Q4b V6b R7 L7 B7
  have INF8 : Hid ((Try.prog.info? 48).map (·.size) = some cs8.size) := by show _ = _; rw [V8.out.size_of KX.out]; exact info_note
  have SZ8 : Hid ((#[.int .i64 0, .int .i64 0, .int .i64 0, .int .i64 0, .int .i64 0, .int .i64 0, .int .i64 0, .slice none 0 0, .int .i64 0, .slice none 0 0, .int .i64 0, .string ⟨#[]⟩, .int .i64 0, .int .i64 0, .int .i64 0, .int .i64 0] : Array Value).size = cs8.size) := (V8.out.size_of KX.out).symm
  have ONE8 := hide V8.out.one
  have N8 : Hid ((w8.alloc (.cells #[.int .i64 0, .int .i64 0, .int .i64 0, .int .i64 0, .int .i64 0, .int .i64 0, .int .i64 0, .slice none 0 0, .int .i64 0, .slice none 0 0, .int .i64 0, .string ⟨#[]⟩, .int .i64 0, .int .i64 0, .int .i64 0, .int .i64 0] 48)).heap[w8.heap.size]? = some (.cells #[.int .i64 0, .int .i64 0, .int .i64 0, .int .i64 0, .int .i64 0, .int .i64 0, .int .i64 0, .slice none 0 0, .int .i64 0, .slice none 0 0, .int .i64 0, .string ⟨#[]⟩, .int .i64 0, .int .i64 0, .int .i64 0, .int .i64 0] 48)) := heap_alloc_new w8 _
  go_upto_region 5 with (refine wpList_store_row rfl 48 (.tmp 11) (.tmp 33) rfl w8.heap.size cs8 rfl rfl 48 #[.int .i64 0, .int .i64 0, .int .i64 0, .int .i64 0, .int .i64 0, .int .i64 0, .int .i64 0, .slice none 0 0, .int .i64 0, .slice none 0 0, .int .i64 0, .string ⟨#[]⟩, .int .i64 0, .int .i64 0, .int .i64 0, .int .i64 0] N8.out INF8.out SZ8.out ONE8.out ?_)
  rw [setRow_alloc]
  have B9 := hide (below_alloc B8'.out (.cells cs8 48))
  have b89 := below_alloc1 w8 (.cells cs8 48)
  have Q3d := hide (Q3c.out.below b89)
  have Q4d := hide (Q4c.out.below b89)
  have V6d := hide (V6c.out.below b89)
  have V8d := hide (V8.out.below b89)
  have R9 := hide ((b89.block _ L8.out).trans R8.out)
  have R9' : Hid ((w8.alloc (.cells cs8 48)).heap[w8.heap.size]? = some (.cells cs8 48)) := heap_alloc_new w8 _
  have L9 : Hid (g6 < (w8.alloc (.cells cs8 48)).heap.size ∧ w8.heap.size < (w8.alloc (.cells cs8 48)).heap.size) := ⟨by have : g6 < w8.heap.size := L8.out; simp; omega, by simp⟩
  clear b89 N8 ONE8 SZ8 V6c V8 Q3c Q4c B8' R8 L8
  obtain ⟨g8, eg8⟩ : ∃ g8, g8 = w8.heap.size := ⟨_, rfl⟩
  obtain ⟨w9, e9⟩ : ∃ w9, w9 = w8.alloc (.cells cs8 48) := ⟨_, rfl⟩
  rw [← e9] at B9 Q3d Q4d V6d V8d R9 R9' L9 ⊢
  rw [← eg8] at R9' L9 ⊢
  clear e9 eg8
  go_wp2_with fail
  refine (wawake_any w9).mono ?_
  rintro e wa ⟨rfl, hba⟩
  have Ba := hide (below_step B9.out hba)
  have C10 := hide (bytes_sq (Q3d.out.below hba) (Q4d.out.below hba) (by omega))
  have Ra := hide ((hba.block _ L9.out.1).trans R9.out)
  have Ra' := hide ((hba.block _ L9.out.2).trans R9'.out)
  have V6e := hide (V6d.out.below hba)
  have V8e := hide (V8d.out.below hba)
  clear hba Q3d Q4d V6d V8d R9 R9' L9 B9
  go_wp2_with fail
  refine C10.out.mono ?_
  rintro e wb ⟨rfl, mb, eb⟩
  have Bb : Hid (Below w.heap.size w wb) := by rw [eb]; exact below_drewN Ba.out mb
  have Rb : Hid (wb.heap[g6]? = some (.cells cs6 48)) := by rw [eb]; exact Ra.out
  have Rb' : Hid (wb.heap[g8]? = some (.cells cs8 48)) := by rw [eb]; exact Ra'.out
  have V6f : Hid (Vals wb (fun b => b < wb.heap.size) cs6 X) := by rw [eb]; exact V6e.out.same fun b hl => ⟨hl, rfl⟩
  have V8f : Hid (Vals wb (fun b => b < wb.heap.size) cs8 X) := by rw [eb]; exact V8e.out.same fun b hl => ⟨hl, rfl⟩
  have CS := hide (same_note V6f.out V8f.out KX.out)
  clear eb C10 Ra Ra' V6e V8e Ba
  go_wp2_with (first | (refine load_row_guarded rfl 48 (.tmp 9) rfl g6 rfl 48 cs6 (0, 0) _ Rb.out Try.underlying48 rfl INF6.out ?_) | (refine load_row_guarded rfl 48 (.tmp 11) rfl g8 rfl 48 cs8 (0, 0) _ Rb'.out Try.underlying48 rfl INF8.out ?_))
  refine CS.out.mono ?_
  rintro e wc ⟨rfl, hbc⟩
  have Bc := hide (below_step Bb.out hbc)
  clear hbc CS
  go_wp2_with fail
  go_ret
  exact ⟨rfl, Bc.out⟩

set_option maxRecDepth 100000 in
theorem lifted (os : Os) (started : os.Started) (H : Type) (enc : TypeId × Value → H) :
    ReturnsInHanded {} Try.checked os 4 .any (Rows.wireNotesSpec.pre6 enc Try.prog Try.f4 Rows.wireNotesRow.domain false) (Rows.wireNotesSpec.post enc Try.prog Try.f4 false true false false) := by
  refine returnsInHanded_of_change_sized (C := Try.checked) own started (by kernel_rfl) Try.func4
    (ChangeSpec.witness6 (enc := enc) (C := Try.checked) false ⟨#[], #[.agg #[.int .i64 0, .int .i64 0, .int .i64 0, .int .i64 0, .int .i64 0, .int .i64 0, .int .i64 0, .slice none 0 0, .int .i64 0, .slice none 0 0, .int .i64 0, .string ByteArray.empty, .int .i64 0, .int .i64 0, .int .i64 0, .int .i64 0], .slice none 0 0], []⟩ 8 (by kernel_rfl) (by kernel_rfl) (by kernel_rfl) (by kernel_rfl)) ?_
  intro W base args ds gs before hval0 hW hcnd hsz0 _
  have hsz : (DataW.weightsEach Try.prog (Try.f4.params.toList ++ Rows.wireNotesSpec.plain.varTypes Try.prog) (ds ++ gs)).all (· ≤ reachBytes) = true := hsz0
  have hval : ∀ (j : Nat) t v, Try.f4.params[j]? = some t → args[j]? = some v → Value.okWide Try.prog W .any base t v := hval0
  have hW' := hW
  obtain ⟨p, q, hA0, hV, rfl, hfz, hnd⟩ := hW
  have hA : DataW.TrodAll enc Try.prog W 0 (fun _ => true) true Try.f4.params.toList args.toList ds p := hA0
  rw [Try.params4] at hA hval hsz
  obtain ⟨v0, vs0, d0, ds0, p0, q0, hargs, rfl, rfl, h0, r0⟩ := trodAll_cons hA
  obtain ⟨v1, vs1, d1, ds1, p1, q1, rfl, rfl, rfl, h1, r1⟩ := trodAll_cons r0
  obtain ⟨rfl, rfl, rfl⟩ := trodAll_nil r1
  obtain rfl : args = #[v0, v1] := by cases args; simp_all
  obtain ⟨rfl, rfl⟩ := trodVars_none hV
  have lt0 : ∀ x ∈ p0, x.block < W.heap.size := by obtain ⟨m, hm⟩ := h0; exact DataW.trod_lt m _ _ _ hm
  obtain ⟨cs, xs, rfl, h⟩ := open_note_held (hval 0 48 v0 rfl rfl) h0 (fun n hn => by have h := List.all_eq_true.1 hsz n (DataW.weights_mem_each (j := 0) rfl rfl n hn); simpa using h)
  have lt1 : ∀ x ∈ p1, x.block < W.heap.size := by obtain ⟨m, hm⟩ := h1; exact DataW.trod_lt m _ _ _ hm
  obtain ⟨a, len, cap, bs, rfl, q⟩ := open_sq_sized (hval 1 26 v1 rfl rfl) h1 (fun elems spare e => by have h := hsz; rw [e] at h; exact sized_slice h (j := 1) (t := 26) (e := 5) rfl rfl Try.underlying26)
  clear hA0 hval0
  refine (walk h.1 h.2 q.1 q.2).mono fun e W' ⟨he, bel⟩ => ?_
  subst he
  exact ⟨_, rfl, _, _, _, [], _, [], hW', trodAll_mk1 (shut_bool Try.underlying4 _), (trodAll_cons_mk (Below.trod laidOut (by kernel_rfl) (of_decide_eq_true (by kernel_rfl)) h0 bel lt0) (trodAll_cons_mk (Below.trod laidOut (by kernel_rfl) (of_decide_eq_true (by kernel_rfl)) h1 bel lt1) trodAll_mk0)), rfl, bel.frame _, fun h => by cases h⟩

theorem over : Rows.wireNotesRow.holds Try.pinned (OpenSpec.ofChange Rows.wireNotesSpec) :=
  OpenClaim.holds_of_wide 4 Try.f4 rfl rfl rfl rfl rfl rfl rfl ⟨rfl, rfl, rfl, rfl, rfl⟩ rfl rfl rfl rfl rfl (by kernel_rfl) Try.func4 (by kernel_rfl)
    (of_decide_eq_true (by kernel_rfl)) (by unfold Func.isWrapper; first | (rw [if_pos (by decide +kernel)]; kernel_rfl) | (rw [if_neg (by decide +kernel)]; exact ⟨rfl, rfl⟩))
    (fun os started H enc _ => lifted os started H enc)

theorem proved : Rows.WireNotesSaid := over
#print axioms proved
end WireNotes
theorem wireNotes_holds : Rows.WireNotesSaid := WireNotes.proved
end Go.Proofs.Ytfdejkfbjmkngaa
