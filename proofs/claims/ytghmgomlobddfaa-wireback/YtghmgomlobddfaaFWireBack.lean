/- WireBack: for every command, note and letter: what wire writes of it is read by wire as the same thing; of a command with a byte more, or one less, it is refused. No condition. -/
import Derived.Test.YtghmgomlobddfaaFWireOpenLetter
import Derived.Test.YtghmgomlobddfaaJA
import Derived.Deep.Cut
import Derived.Deep.DeepCutAuto
import Derived.Test.YtghmgomlobddfaaFWireAwake
import Derived.Test.YtghmgomlobddfaaFWireCallsCommand
import Derived.Test.YtghmgomlobddfaaFWireCallsNote
import Derived.Test.YtghmgomlobddfaaFWireCallsLetter
import Derived.Test.YtghmgomlobddfaaFWireSameCommand
import Derived.Test.YtghmgomlobddfaaFWireSameNote
import Derived.Test.YtghmgomlobddfaaFWireSameLetter
import Derived.Test.YtghmgomlobddfaaFWireBackVal
namespace Go.Proofs.Ytghmgomlobddfaa
namespace WireBack
open Go.ChangeShapes Go.WideShapes Go.ChangeAt Go.RowKit B8 Cm Wm
set_option linter.unusedVariables false

theorem atomB_pos (x : Atom) : 0 < (atomB x).length := by
  unfold atomB
  split
  · exact (numB_length _).1
  · split
    · exact (numB_length _).1
    · split
      · simp
      · rw [List.length_append]; have := (numB_length x.bs.length).1; omega
theorem bytes_pos : ∀ (xs : List Atom), xs.length ≤ (bytesOf (flds xs)).length
  | [] => Nat.zero_le _
  | x :: r => by
    show r.length + 1 ≤ (bytesOf (fldA x :: flds r)).length
    rw [bytesOf_cons, List.length_append]
    have := atomB_pos x
    have := bytes_pos r
    show r.length + 1 ≤ (atomB x).length + _
    omega
theorem ValsB {w w1 : World} {cs : Array Value} {xs : List Atom} (h : Vals w (fun b => b < w.heap.size) cs xs) (hb : Below w.heap.size w w1) : Vals w1 (fun b => b < w1.heap.size) cs xs := h.same fun b hl => ⟨Nat.lt_of_lt_of_le hl hb.size, hb.block b hl⟩
theorem row_at {u v : World} {g : Nat} {o : Obj} (h : u.heap[g]? = some o) (hb : Below u.heap.size u v) : v.heap[g]? = some o := (hb.block g ((Array.getElem?_eq_some_iff.1 h).1)).trans h
theorem sq_shape {w : World} {a : Option Addr} {n cp : Nat} {zs : List Int} (h : Sq w a n cp zs) (h0 : 0 < n) : ∃ b off, a = some ⟨b, off, none⟩ := by
  obtain ⟨b, off, e, _⟩ := h.cells h0
  exact ⟨b, off, e⟩
theorem sq_zero (w : World) : Sq (w.alloc (.cells #[.int .u8 0] 5)) (some ⟨w.heap.size, 0, none⟩) 1 1 [0] := sq_one w 0 ⟨by omega, by omega⟩
theorem tl_norm (x : Let) (z : Int) : tl (normL ⟨⟨0, z, []⟩ :: x.x0, x.vs, x.es, x.x1⟩) = normL x := rfl
theorem grp_norm (x : Let) (z : Int) : grp (normL ⟨⟨0, z, []⟩ :: x.x0, x.vs, x.es, x.x1⟩) = z := rfl

set_option maxRecDepth 100000 in
set_option maxHeartbeats 8000000 in
theorem walk {w : World} {cs ns ls : Array Value} {xs ys : List Atom} {x : Let} (hc : Vals w (fun b => b < w.heap.size) cs xs) (kc : xs.map Atom.k = [0, 0, 0, 0, 0, 0, 3, 0, 0, 0, 2, 0, 3, 3, 0, 0, 0, 0, 0, 0, 3, 3, 0, 0, 4]) (hn : Vals w (fun b => b < w.heap.size) ns ys) (kn : ys.map Atom.k = [0, 0, 0, 0, 0, 0, 0, 4, 0, 4, 0, 3, 0, 0, 0, 0]) (hl : LetV 7 w (fun b => b < w.heap.size) ls x) (kl : LetK 7 x) (l1 : x.vs.length * 48 ≤ 140737488351232) (l2 : x.es.length * 32 ≤ 140737488351232) :
    Calls Try.prog 3 #[.agg cs, .agg ns, .agg ls] w fun e w' => e = .returned (.bool true) ∧ Below w.heap.size w w' := by
  obtain ⟨u, eu⟩ : ∃ u, u = ((w.alloc (.cells cs 28)).alloc (.cells ns 38)).alloc (.cells ls 45) := ⟨_, rfl⟩
  have bu : Below w.heap.size w u := by rw [eu]; exact below_alloc (below_alloc (below_alloc (Below.refl _ _) _) _) _
  have r0 : u.heap[w.heap.size]? = some (.cells cs 28) := by rw [eu, heap_alloc_old _ _ (by simp; omega)]; exact heap_alloc2_old w _ _
  have r1 : u.heap[w.heap.size + 1]? = some (.cells ns 38) := by rw [eu, heap_alloc_old _ _ (by simp)]; exact heap_alloc2_new w _ _
  have r2 : u.heap[w.heap.size + 2]? = some (.cells ls 45) := by
    rw [eu]
    have := heap_alloc_new ((w.alloc (.cells cs 28)).alloc (.cells ns 38)) (.cells ls 45)
    simpa using this
  have BU := hide bu
  have R0 := hide r0
  have R1 := hide r1
  have R2 := hide r2
  have EU := hide eu.symm
  have HC := hide (ValsB hc bu)
  have HN := hide (ValsB hn bu)
  have HL := hide (hl.fit bu)
  have KC := hide kc
  have KN := hide kn
  have KL := hide kl
  have IC : Hid ((Try.prog.info? 28).map (·.size) = some cs.size) := by show _ = _; rw [hc.size_of kc]; exact info_command
  have IN : Hid ((Try.prog.info? 38).map (·.size) = some ns.size) := by show _ = _; rw [hn.size_of kn]; exact info_note
  have IL : Hid ((Try.prog.info? 45).map (·.size) = some ls.size) := by show _ = _; rw [hl.size]; exact info_letter
  have LV : Hid (x.vs.length ≤ 140737488355328 ∧ x.es.length ≤ 140737488355328) := ⟨by omega, by omega⟩
  obtain ⟨B, eB⟩ : ∃ B, B = w.heap.size := ⟨_, rfl⟩
  have EB := hide eB.symm
  rw [← eB] at R0 R1 R2
  clear hc hn hl kc kn kl bu r0 r1 r2 eu l1 l2 eB
  go_enter Try.func3, Try.ntmps3
  go_upto_region 1 with fail
  rw [EU.out, EB.out]
  clear EU EB
  go_wp2_with fail
  refine (wawake_any u).mono ?_
  rintro e wa ⟨rfl, hba⟩
  have BA := hide hba
  have RA := hide (row_at R0.out hba)
  have C1 := ccall_command (ValsB HC.out hba) KC.out
  obtain ⟨F, eF⟩ : ∃ F, F = wBytes (flds xs) := ⟨_, rfl⟩
  obtain ⟨n, en⟩ : ∃ n, n = F.length := ⟨_, rfl⟩
  obtain ⟨E, eE⟩ : ∃ E, E = wErr (flds xs) := ⟨_, rfl⟩
  rw [← eF, ← en, ← eE] at C1
  have C1 := hide C1
  have EF := hide eF
  have EN := hide en
  have EE := hide eE
  have hn6 : n ≤ 65536 := by rw [en, eF]; exact wBytes_le _
  clear hba eF en eE
  go_wp2_with (refine wpList_load_row rfl 28 (.tmp 3) rfl B rfl 28 cs (0, 0) _ RA.out Try.underlying28 rfl IC.out ?_)
  refine C1.out.mono ?_
  rintro e w2 ⟨a2, c2, rfl, hm2, hb2⟩
  have B2 := hide (below_step BA.out hb2)
  have Q2 := hide hm2.sq
  clear hm2 hb2 C1 RA BA
  go_upto_if 30 with fail
  go_cut [] (fun wc => Hid (Below u.heap.size u wc))
  case first =>
    cases ho : okAll (flds xs) with
    | false =>
      have hx : (E == 0) = false := by rw [EE.out, wErr_no ho]; rfl
      clear ho
      go_wp2_with fail
      go_meet
      case rel => exact B2
    | true =>
      have hx : (E == 0) = true := by rw [EE.out, wErr_ok ho]; rfl
      have FB : Hid (F = bytesOf (flds xs)) := by show _ = _; rw [EF.out, wBytes_ok ho]
      have OKS := hide HC.out.oks
      have BK := hide (back_ok KC.out OKS.out ho)
      have BM := hide (back_more KC.out OKS.out ho)
      have hp25 : 25 ≤ n := by rw [EN.out, FB.out]; have h1 := congrArg List.length KC.out; simp at h1; have := bytes_pos xs; omega
      have hpos : 0 < n := by omega
      have BL := hide (back_less KC.out OKS.out ho (by rw [← FB.out, ← EN.out]; exact hpos))
      rw [← FB.out] at BK BM BL
      rw [← EN.out] at BL
      clear ho
      have C3 := cread_command Q2.out (by omega)
      rw [BK.out.1, BK.out.2] at C3
      have C3 := hide C3
      go_wp2_with fail
      refine C3.out.mono ?_
      rintro e w3 ⟨cs3, rfl, hv3, hb3⟩
      have B3 := hide (below_step B2.out hb3)
      have Q3 := hide (Q2.out.below hb3)
      have V3 := hide hv3.anyF
      clear hv3 hb3 C3 Q2 B2
      have KX : Hid ((xs.map Wm.norm).map Atom.k = [0, 0, 0, 0, 0, 0, 3, 0, 0, 0, 2, 0, 3, 3, 0, 0, 0, 0, 0, 0, 3, 3, 0, 0, 4]) := by show _ = _; rw [norms_k]; exact KC.out
      have IN3 : Hid ((Try.prog.info? 28).map (·.size) = some cs3.size) := by show _ = _; rw [V3.out.size_of KX.out]; exact info_command
      have SZ3 : Hid ((#[.int .i64 0, .int .i64 0, .int .i64 0, .int .i64 0, .int .i64 0, .int .i64 0, .string ⟨#[]⟩, .int .i64 0, .int .i64 0, .int .i64 0, .bool false, .int .i64 0, .string ⟨#[]⟩, .string ⟨#[]⟩, .int .i64 0, .int .i64 0, .int .i64 0, .int .i64 0, .int .i64 0, .int .i64 0, .string ⟨#[]⟩, .string ⟨#[]⟩, .int .i64 0, .int .i64 0, .slice none 0 0] : Array Value).size = cs3.size) := (V3.out.size_of KX.out).symm
      have ONE3 := hide V3.out.one
      go_upto_region 6 with (refine wpList_store_row rfl 28 (.tmp 9) (.tmp 34) rfl w3.heap.size cs3 rfl rfl 28 #[.int .i64 0, .int .i64 0, .int .i64 0, .int .i64 0, .int .i64 0, .int .i64 0, .string ⟨#[]⟩, .int .i64 0, .int .i64 0, .int .i64 0, .bool false, .int .i64 0, .string ⟨#[]⟩, .string ⟨#[]⟩, .int .i64 0, .int .i64 0, .int .i64 0, .int .i64 0, .int .i64 0, .int .i64 0, .string ⟨#[]⟩, .string ⟨#[]⟩, .int .i64 0, .int .i64 0, .slice none 0 0] (heap_alloc_new w3 _) IN3.out SZ3.out ONE3.out ?_)
      rw [setRow_alloc]
      obtain ⟨w4, e4⟩ : ∃ w4, w4 = w3.alloc (.cells cs3 28) := ⟨_, rfl⟩
      have b34 : Below w3.heap.size w3 w4 := by rw [e4]; exact below_alloc1 w3 _
      have R4 : Hid (w4.heap[w3.heap.size]? = some (.cells cs3 28)) := by rw [e4]; exact heap_alloc_new w3 _
      have B4 := hide (below_step B3.out b34)
      have Q4 := hide (Q3.out.below b34)
      have V4 := hide (ValsB V3.out b34)
      obtain ⟨g3, eg3⟩ : ∃ g3, g3 = w3.heap.size := ⟨_, rfl⟩
      rw [← e4, ← eg3]
      rw [← eg3] at R4
      clear b34 e4 eg3 B3 Q3 V3 ONE3 SZ3
      -- a byte more
      have r0 := row_new w4 w4.heap.size (Nat.le_refl _) #[] (by decide)
      have RR0 := hide r0
      have Qn := hide (Q4.out.below (below_alloc1 w4 (.cells #[] 5)))
      clear r0
      have QL := hide Q4.out.length
      have QW := hide Q4.out.wf
      go_wp2_with (first
        | (at_builtin; refine wp_append_sq _ rfl (.tmp 37) (.tmp 38) rfl w4.heap.size (.slice (some ⟨w4.heap.size, 0, none⟩) 0 0) 0 [] rfl RR0.out a2 n c2 F rfl Qn.out (by omega) (by simp) ?_; intro v5 w5 hown hgrow; simp only [List.nil_append, Nat.zero_add] at hown; obtain ⟨a5, cp5, rfl, q5⟩ := sq_of_row QL.out QW.out hown; have OW5 := hide hown; have B5 : Hid (Below w4.heap.size w4 w5) := below_grown (below_alloc1 w4 _) RR0.out (Nat.le_refl _) hgrow; clear hown hgrow q5)
        | (at_builtin; refine wp_append_sq _ rfl (.tmp 39) (.tmp 40) rfl w4.heap.size (.slice a5 n cp5) n F rfl (row_below OW5.out (below_alloc1 w5 (.cells #[.int .u8 0] 5))) (some ⟨w5.heap.size, 0, none⟩) 1 1 [0] rfl (sq_zero w5) (by omega) (Nat.le_trans B5.out.size (by simp)) ?_; intro v6 w6 hown6 hgrow6; obtain ⟨a6, cp6, rfl, q6⟩ := sq_of_row (by rw [List.length_append, QL.out]; rfl) (wfs_append QW.out (wfs_cons (WalkArith.wf_u8 ⟨by omega, by omega⟩) wfs_nil)) hown6; have Q6 := hide q6; have B6 : Hid (Below w4.heap.size w4 w6) := below_grown (below_alloc B5.out _) (row_below OW5.out (below_alloc1 w5 (.cells #[.int .u8 0] 5))) (Nat.le_refl _) hgrow6; clear hown6 hgrow6 q6))
      have C7 := hide (cread_command Q6.out (by omega))
      obtain ⟨G, eG⟩ : ∃ G, G = tErr [0, 0, 0, 0, 0, 0, 3, 0, 0, 0, 2, 0, 3, 3, 0, 0, 0, 0, 0, 0, 3, 3, 0, 0, 4] (F ++ [0]) := ⟨_, rfl⟩
      rw [← eG] at C7 BM
      clear eG
      refine C7.out.mono ?_
      rintro e w7 ⟨cs7, rfl, hv7, hb7⟩
      have b67 : Below w4.heap.size w4 w7 := B6.out.trans (hb7.mono B6.out.size)
      have R7 := hide (row_at R4.out b67)
      have B7 := hide (below_step B4.out b67)
      have Q7 := hide (Q4.out.below b67)
      have V7 := hide (ValsB V4.out b67)
      have KX7 : Hid ((tVal [0, 0, 0, 0, 0, 0, 3, 0, 0, 0, 2, 0, 3, 3, 0, 0, 0, 0, 0, 0, 3, 3, 0, 0, 4] (F ++ [0])).map Atom.k = [0, 0, 0, 0, 0, 0, 3, 0, 0, 0, 2, 0, 3, 3, 0, 0, 0, 0, 0, 0, 3, 3, 0, 0, 4]) := tVal_kinds _ _ (by decide)
      have IN7 : Hid ((Try.prog.info? 28).map (·.size) = some cs7.size) := by show _ = _; rw [hv7.size_of KX7.out]; exact info_command
      have SZ7 : Hid ((#[.int .i64 0, .int .i64 0, .int .i64 0, .int .i64 0, .int .i64 0, .int .i64 0, .string ⟨#[]⟩, .int .i64 0, .int .i64 0, .int .i64 0, .bool false, .int .i64 0, .string ⟨#[]⟩, .string ⟨#[]⟩, .int .i64 0, .int .i64 0, .int .i64 0, .int .i64 0, .int .i64 0, .int .i64 0, .string ⟨#[]⟩, .string ⟨#[]⟩, .int .i64 0, .int .i64 0, .slice none 0 0] : Array Value).size = cs7.size) := (hv7.size_of KX7.out).symm
      have ONE7 := hide hv7.one
      clear hv7 hb7 b67 C7 Q6 B6 B5 OW5 RR0 Qn R4 B4 Q4 V4 QL QW KX7
      go_upto_region 7 with (refine wpList_store_row rfl 28 (.tmp 11) (.tmp 43) rfl w7.heap.size cs7 rfl rfl 28 #[.int .i64 0, .int .i64 0, .int .i64 0, .int .i64 0, .int .i64 0, .int .i64 0, .string ⟨#[]⟩, .int .i64 0, .int .i64 0, .int .i64 0, .bool false, .int .i64 0, .string ⟨#[]⟩, .string ⟨#[]⟩, .int .i64 0, .int .i64 0, .int .i64 0, .int .i64 0, .int .i64 0, .int .i64 0, .string ⟨#[]⟩, .string ⟨#[]⟩, .int .i64 0, .int .i64 0, .slice none 0 0] (heap_alloc_new w7 _) IN7.out SZ7.out ONE7.out ?_)
      rw [setRow_alloc]
      obtain ⟨w8, e8⟩ : ∃ w8, w8 = w7.alloc (.cells cs7 28) := ⟨_, rfl⟩
      have b78 : Below w7.heap.size w7 w8 := by rw [e8]; exact below_alloc1 w7 _
      have R8 := hide (row_at R7.out b78)
      have B8' := hide (below_step B7.out b78)
      have Q8 := hide (Q7.out.below b78)
      have V8 := hide (ValsB V7.out b78)
      obtain ⟨g7, eg7⟩ : ∃ g7, g7 = w7.heap.size := ⟨_, rfl⟩
      rw [← e8, ← eg7]
      clear b78 e8 eg7 R7 B7 Q7 V7 ONE7 SZ7 IN7
      -- a byte less
      obtain ⟨bb, boff, rfl⟩ := sq_shape Q8.out hpos
      have hcap := Q8.out.lecap
      have Q9 := hide (Q8.out.take (n - 1) (by omega))
      obtain ⟨m, em⟩ : ∃ m, n = m + 1 := ⟨n - 1, by omega⟩
      subst em
      rw [Nat.add_sub_cancel] at Q9 BL
      have j1 : (0 : Int) ≤ (m : Int) := by omega
      have j2 : (m : Int) ≤ (c2 : Int) := by omega
      have j3 : ¬ (c2 : Int) < (m : Int) := by omega
      have j4 : (0 : Int) < (m : Int) := by omega
      have C9 := hide (cread_command Q9.out (by omega))
      obtain ⟨H, eH⟩ : ∃ H, H = tErr [0, 0, 0, 0, 0, 0, 3, 0, 0, 0, 2, 0, 3, 3, 0, 0, 0, 0, 0, 0, 3, 3, 0, 0, 4] (F.take m) := ⟨_, rfl⟩
      rw [← eH] at C9 BL
      clear eH
      go_wp2_with fail
      refine C9.out.mono ?_
      rintro e w9 ⟨cs9, rfl, hv9, hb9⟩
      have R9 := hide (row_at R8.out hb9)
      have B9 := hide (below_step B8'.out hb9)
      have V9 := hide (ValsB V8.out hb9)
      have KX9 : Hid ((tVal [0, 0, 0, 0, 0, 0, 3, 0, 0, 0, 2, 0, 3, 3, 0, 0, 0, 0, 0, 0, 3, 3, 0, 0, 4] (F.take m)).map Atom.k = [0, 0, 0, 0, 0, 0, 3, 0, 0, 0, 2, 0, 3, 3, 0, 0, 0, 0, 0, 0, 3, 3, 0, 0, 4]) := tVal_kinds _ _ (by decide)
      have IN9 : Hid ((Try.prog.info? 28).map (·.size) = some cs9.size) := by show _ = _; rw [hv9.size_of KX9.out]; exact info_command
      have SZ9 : Hid ((#[.int .i64 0, .int .i64 0, .int .i64 0, .int .i64 0, .int .i64 0, .int .i64 0, .string ⟨#[]⟩, .int .i64 0, .int .i64 0, .int .i64 0, .bool false, .int .i64 0, .string ⟨#[]⟩, .string ⟨#[]⟩, .int .i64 0, .int .i64 0, .int .i64 0, .int .i64 0, .int .i64 0, .int .i64 0, .string ⟨#[]⟩, .string ⟨#[]⟩, .int .i64 0, .int .i64 0, .slice none 0 0] : Array Value).size = cs9.size) := (hv9.size_of KX9.out).symm
      have ONE9 := hide hv9.one
      clear hv9 hb9 C9 Q9 Q8 R8 B8' V8 KX9 j1 j2 j3 j4
      go_upto_region 8 with (refine wpList_store_row rfl 28 (.tmp 13) (.tmp 53) rfl w9.heap.size cs9 rfl rfl 28 #[.int .i64 0, .int .i64 0, .int .i64 0, .int .i64 0, .int .i64 0, .int .i64 0, .string ⟨#[]⟩, .int .i64 0, .int .i64 0, .int .i64 0, .bool false, .int .i64 0, .string ⟨#[]⟩, .string ⟨#[]⟩, .int .i64 0, .int .i64 0, .int .i64 0, .int .i64 0, .int .i64 0, .int .i64 0, .string ⟨#[]⟩, .string ⟨#[]⟩, .int .i64 0, .int .i64 0, .slice none 0 0] (heap_alloc_new w9 _) IN9.out SZ9.out ONE9.out ?_)
      rw [setRow_alloc]
      obtain ⟨wd, ed⟩ : ∃ wd, wd = w9.alloc (.cells cs9 28) := ⟨_, rfl⟩
      have b9d : Below w9.heap.size w9 wd := by rw [ed]; exact below_alloc1 w9 _
      have RD := hide (row_at R9.out b9d)
      have BD := hide (below_step B9.out b9d)
      have VD := hide (ValsB V9.out b9d)
      obtain ⟨g9, eg9⟩ : ∃ g9, g9 = w9.heap.size := ⟨_, rfl⟩
      rw [← ed, ← eg9]
      have RU := hide (row_at R0.out BD.out)
      have VU := hide (ValsB HC.out BD.out)
      clear b9d ed eg9 R9 B9 V9 ONE9 SZ9 IN9
      have CS := hide (same_command (VD.out) (VU.out.norm) KX.out)
      have hz : (H == 0) = false := by simpa using BL.out
      rcases BM.out with hg | hg
      · subst hg
        go_wp2_with (first | (refine load_row_guarded rfl 28 (.tmp 9) rfl g3 rfl 28 cs3 (0, 0) _ RD.out Try.underlying28 rfl IN3.out ?_) | (refine load_row_guarded rfl 28 (.tmp 3) rfl B rfl 28 cs (0, 0) _ RU.out Try.underlying28 rfl IC.out ?_))
        refine CS.out.mono ?_
        rintro e we ⟨rfl, hbe⟩
        have BE := hide (below_step BD.out hbe)
        clear hbe CS
        go_wp2_with fail
        go_meet
        case rel => exact BE
      · subst hg
        go_wp2_with (first | (refine load_row_guarded rfl 28 (.tmp 9) rfl g3 rfl 28 cs3 (0, 0) _ RD.out Try.underlying28 rfl IN3.out ?_) | (refine load_row_guarded rfl 28 (.tmp 3) rfl B rfl 28 cs (0, 0) _ RU.out Try.underlying28 rfl IC.out ?_))
        refine CS.out.mono ?_
        rintro e we ⟨rfl, hbe⟩
        have BE := hide (below_step BD.out hbe)
        clear hbe CS
        go_wp2_with fail
        go_meet
        case rel => exact BE
  case rest =>
    have BC := hcut
    clear hcut B2 Q2 EF EN EE hn6
    -- the note
    have RA := hide (row_at R1.out BC.out)
    have C1 := ccall_note (ValsB HN.out BC.out) KN.out
    obtain ⟨F2, eF⟩ : ∃ F, F = wBytes (flds ys) := ⟨_, rfl⟩
    obtain ⟨n2, en⟩ : ∃ n, n = F2.length := ⟨_, rfl⟩
    obtain ⟨E2, eE⟩ : ∃ E, E = wErr (flds ys) := ⟨_, rfl⟩
    rw [← eF, ← en, ← eE] at C1
    have C1 := hide C1
    have EF := hide eF
    have EN := hide en
    have EE := hide eE
    have hn6 : n2 ≤ 65536 := by rw [en, eF]; exact wBytes_le _
    clear eF en eE
    go_wp2_with (refine wpList_load_row rfl 38 (.tmp 4) rfl (B + 1) rfl 38 ns (0, 0) _ RA.out Try.underlying38 rfl IN.out ?_)
    refine C1.out.mono ?_
    rintro e w2 ⟨a2, c2, rfl, hm2, hb2⟩
    have B2 := hide (below_step BC.out hb2)
    have Q2 := hide hm2.sq
    clear hm2 hb2 C1 RA BC
    go_upto_if 81 with fail
    go_cut [] (fun wc => Hid (Below u.heap.size u wc))
    case first =>
      cases ho : okAll (flds ys) with
      | false =>
        have hx : (E2 == 0) = false := by rw [EE.out, wErr_no ho]; rfl
        clear ho
        go_wp2_with fail
        go_meet
        case rel => exact B2
      | true =>
        have hx : (E2 == 0) = true := by rw [EE.out, wErr_ok ho]; rfl
        have FB : Hid (F2 = bytesOf (flds ys)) := by show _ = _; rw [EF.out, wBytes_ok ho]
        have BK := hide (back_ok KN.out HN.out.oks ho)
        rw [← FB.out] at BK
        clear ho
        have C3 := cread_note Q2.out (by omega)
        rw [BK.out.1, BK.out.2] at C3
        have C3 := hide C3
        go_wp2_with fail
        refine C3.out.mono ?_
        rintro e w3 ⟨cs3, rfl, hv3, hb3⟩
        have B3 := hide (below_step B2.out hb3)
        have V3 := hide hv3.anyF
        clear hv3 hb3 C3 Q2 B2
        have KX : Hid ((ys.map Wm.norm).map Atom.k = [0, 0, 0, 0, 0, 0, 0, 4, 0, 4, 0, 3, 0, 0, 0, 0]) := by show _ = _; rw [norms_k]; exact KN.out
        have IN3 : Hid ((Try.prog.info? 38).map (·.size) = some cs3.size) := by show _ = _; rw [V3.out.size_of KX.out]; exact info_note
        have SZ3 : Hid ((#[.int .i64 0, .int .i64 0, .int .i64 0, .int .i64 0, .int .i64 0, .int .i64 0, .int .i64 0, .slice none 0 0, .int .i64 0, .slice none 0 0, .int .i64 0, .string ⟨#[]⟩, .int .i64 0, .int .i64 0, .int .i64 0, .int .i64 0] : Array Value).size = cs3.size) := (V3.out.size_of KX.out).symm
        have ONE3 := hide V3.out.one
        go_upto_region 13 with (refine wpList_store_row rfl 38 (.tmp 16) (.tmp 85) rfl w3.heap.size cs3 rfl rfl 38 #[.int .i64 0, .int .i64 0, .int .i64 0, .int .i64 0, .int .i64 0, .int .i64 0, .int .i64 0, .slice none 0 0, .int .i64 0, .slice none 0 0, .int .i64 0, .string ⟨#[]⟩, .int .i64 0, .int .i64 0, .int .i64 0, .int .i64 0] (heap_alloc_new w3 _) IN3.out SZ3.out ONE3.out ?_)
        rw [setRow_alloc]
        obtain ⟨w4, e4⟩ : ∃ w4, w4 = w3.alloc (.cells cs3 38) := ⟨_, rfl⟩
        have b34 : Below w3.heap.size w3 w4 := by rw [e4]; exact below_alloc1 w3 _
        have R4 : Hid (w4.heap[w3.heap.size]? = some (.cells cs3 38)) := by rw [e4]; exact heap_alloc_new w3 _
        have B4 := hide (below_step B3.out b34)
        have V4 := hide (ValsB V3.out b34)
        obtain ⟨g3, eg3⟩ : ∃ g3, g3 = w3.heap.size := ⟨_, rfl⟩
        rw [← e4, ← eg3]
        rw [← eg3] at R4
        have RU := hide (row_at R1.out B4.out)
        have VU := hide (ValsB HN.out B4.out)
        clear b34 e4 eg3 B3 V3 ONE3 SZ3
        have CS := hide (same_note (V4.out) (VU.out.norm) KX.out)
        go_wp2_with (first | (refine load_row_guarded rfl 38 (.tmp 16) rfl g3 rfl 38 cs3 (0, 0) _ R4.out Try.underlying38 rfl IN3.out ?_) | (refine load_row_guarded rfl 38 (.tmp 4) rfl (B + 1) rfl 38 ns (0, 0) _ RU.out Try.underlying38 rfl IN.out ?_))
        refine CS.out.mono ?_
        rintro e we ⟨rfl, hbe⟩
        have BE := hide (below_step B4.out hbe)
        clear hbe CS
        go_wp2_with fail
        go_meet
        case rel => exact BE
    case rest =>
      have BC := hcut
      clear hcut B2 Q2 EF EN EE hn6
      -- the letter
      have RA := hide (row_at R2.out BC.out)
      have K8 : LetK 8 ⟨⟨0, 3, []⟩ :: x.x0, x.vs, x.es, x.x1⟩ := ⟨by show _ :: _ = _; rw [KL.out.k0]; rfl, KL.out.kv, KL.out.ke, KL.out.k1⟩
      have C1 := ccall_letter 3 (by omega) (by omega) (HL.out.fit BC.out) K8
      have LB := hide (fun ho => back_letter ((HL.out.fit BC.out).head (z := 3) (by omega) (by omega)) K8 ho)
      obtain ⟨Y, eY⟩ : ∃ Y : Let, Y = ⟨⟨0, 3, []⟩ :: x.x0, x.vs, x.es, x.x1⟩ := ⟨_, rfl⟩
      rw [← eY] at C1 LB
      have TY : Hid (tl (normL Y) = normL x ∧ grp (normL Y) = 3) := by rw [eY]; exact ⟨tl_norm x 3, grp_norm x 3⟩
      obtain ⟨F3, eF⟩ : ∃ F, F = wBytes Y.flds := ⟨_, rfl⟩
      obtain ⟨n3, en⟩ : ∃ n, n = F3.length := ⟨_, rfl⟩
      obtain ⟨E3, eE⟩ : ∃ E, E = wErr Y.flds := ⟨_, rfl⟩
      rw [← eF, ← en, ← eE] at C1
      have C1 := hide C1
      have EF := hide eF
      have EE := hide eE
      have hn6 : n3 ≤ 65536 := by rw [en, eF]; exact wBytes_le _
      clear eF en eE eY K8
      go_wp2_with (refine wpList_load_row rfl 45 (.tmp 5) rfl (B + 2) rfl 45 ls (0, 0) _ RA.out Try.underlying45 rfl IL.out ?_)
      refine C1.out.mono ?_
      rintro e w2 ⟨a2, c2, rfl, hm2, hb2⟩
      have B2 := hide (below_step BC.out hb2)
      have Q2 := hide hm2.sq
      clear hm2 hb2 C1 RA BC
      cases ho : okAll Y.flds with
      | false =>
        have hx : (E3 == 0) = false := by rw [EE.out, wErr_no ho]; rfl
        clear ho
        go_wp2_with fail
        go_ret
        exact ⟨rfl, below_step BU.out B2.out⟩
      | true =>
        have hx : (E3 == 0) = true := by rw [EE.out, wErr_ok ho]; rfl
        have FB : Hid (F3 = bytesOf Y.flds) := by show _ = _; rw [EF.out, wBytes_ok ho]
        have BK := hide (LB.out ho)
        rw [← FB.out] at BK
        clear ho
        have C3 := cread_letter Q2.out (by omega)
        rw [BK.out.1, BK.out.2, TY.out.1, TY.out.2] at C3
        have C3 := hide C3
        go_wp2_with fail
        refine C3.out.mono ?_
        rintro e w3 ⟨cs3, rfl, hv3, hb3⟩
        have B3 := hide (below_step B2.out hb3)
        have V3 := hide (hv3.same (P' := fun b => b < w3.heap.size) fun b hl => ⟨hl.2, rfl⟩)
        clear hv3 hb3 C3 Q2 B2
        have IN3 : Hid ((Try.prog.info? 45).map (·.size) = some cs3.size) := by show _ = _; rw [V3.out.size]; exact info_letter
        have SZ3 : Hid ((#[.int .i64 0, .int .i64 0, .int .i64 0, .int .i64 0, .int .i64 0, .int .i64 0, .int .i64 0, .slice none 0 0, .slice none 0 0, .int .i64 0, .int .i64 0, .int .u32 0, .slice none 0 0] : Array Value).size = cs3.size) := V3.out.size.symm
        have ONE3 := hide V3.out.one
        go_upto_region 18 with (refine wpList_store_row rfl 45 (.tmp 20) (.tmp 106) rfl w3.heap.size cs3 rfl rfl 45 #[.int .i64 0, .int .i64 0, .int .i64 0, .int .i64 0, .int .i64 0, .int .i64 0, .int .i64 0, .slice none 0 0, .slice none 0 0, .int .i64 0, .int .i64 0, .int .u32 0, .slice none 0 0] (heap_alloc_new w3 _) IN3.out SZ3.out ONE3.out ?_)
        rw [setRow_alloc]
        obtain ⟨w4, e4⟩ : ∃ w4, w4 = w3.alloc (.cells cs3 45) := ⟨_, rfl⟩
        have b34 : Below w3.heap.size w3 w4 := by rw [e4]; exact below_alloc1 w3 _
        have R4 : Hid (w4.heap[w3.heap.size]? = some (.cells cs3 45)) := by rw [e4]; exact heap_alloc_new w3 _
        have B4 := hide (below_step B3.out b34)
        have V4 := hide (V3.out.fit b34)
        obtain ⟨g3, eg3⟩ : ∃ g3, g3 = w3.heap.size := ⟨_, rfl⟩
        rw [← e4, ← eg3]
        rw [← eg3] at R4
        have RU := hide (row_at R2.out B4.out)
        have VU := hide (HL.out.fit B4.out)
        clear b34 e4 eg3 B3 V3 ONE3 SZ3
        have CS := hide (same_letter V4.out VU.out.norm (normL_kinds KL.out) (fun b h => h) (fun b h => h) (by show (x.vs.map _).length ≤ _; rw [List.length_map]; exact LV.out.1) (by show (x.es.map _).length ≤ _; rw [List.length_map]; exact LV.out.2))
        go_wp2_with (first | (refine load_row_guarded rfl 45 (.tmp 20) rfl g3 rfl 45 cs3 (0, 0) _ R4.out Try.underlying45 rfl IN3.out ?_) | (refine load_row_guarded rfl 45 (.tmp 5) rfl (B + 2) rfl 45 ls (0, 0) _ RU.out Try.underlying45 rfl IL.out ?_))
        refine CS.out.mono ?_
        rintro e we ⟨rfl, hbe⟩
        have BE := hide (below_step BU.out (below_step B4.out hbe))
        clear hbe CS
        go_wp2_with fail
        go_ret
        exact ⟨rfl, BE.out⟩

set_option maxRecDepth 100000 in
theorem lifted (os : Os) (started : os.Started) (H : Type) (enc : TypeId × Value → H) :
    ReturnsInHanded {} Try.checked os 3 .any (Rows.wireBackSpec.pre6 enc Try.prog Try.f3 Rows.wireBackRow.domain false) (Rows.wireBackSpec.post enc Try.prog Try.f3 false true false false) := by
  refine returnsInHanded_of_change_sized (C := Try.checked) own started (by kernel_rfl) Try.func3
    (ChangeSpec.witness6 (enc := enc) (C := Try.checked) false ⟨#[], #[.agg #[.int .i64 0, .int .i64 0, .int .i64 0, .int .i64 0, .int .i64 0, .int .i64 0, .string ByteArray.empty, .int .i64 0, .int .i64 0, .int .i64 0, .bool false, .int .i64 0, .string ByteArray.empty, .string ByteArray.empty, .int .i64 0, .int .i64 0, .int .i64 0, .int .i64 0, .int .i64 0, .int .i64 0, .string ByteArray.empty, .string ByteArray.empty, .int .i64 0, .int .i64 0, .slice none 0 0], .agg #[.int .i64 0, .int .i64 0, .int .i64 0, .int .i64 0, .int .i64 0, .int .i64 0, .int .i64 0, .slice none 0 0, .int .i64 0, .slice none 0 0, .int .i64 0, .string ByteArray.empty, .int .i64 0, .int .i64 0, .int .i64 0, .int .i64 0], .agg #[.int .i64 0, .int .i64 0, .int .i64 0, .int .i64 0, .int .i64 0, .int .i64 0, .int .i64 0, .slice none 0 0, .slice none 0 0, .int .i64 0, .int .i64 0, .int .u32 0, .slice none 0 0]], []⟩ 8 (by kernel_rfl) (by kernel_rfl) (by kernel_rfl) (by kernel_rfl)) ?_
  intro W base args ds gs before hval0 hW hcnd hsz0 _
  have hsz : (DataW.weightsEach Try.prog (Try.f3.params.toList ++ Rows.wireBackSpec.plain.varTypes Try.prog) (ds ++ gs)).all (· ≤ reachBytes) = true := hsz0
  have hval : ∀ (j : Nat) t v, Try.f3.params[j]? = some t → args[j]? = some v → Value.okWide Try.prog W .any base t v := hval0
  have hW' := hW
  obtain ⟨p, q, hA0, hV, rfl, hfz, hnd⟩ := hW
  have hA : DataW.TrodAll enc Try.prog W 0 (fun _ => true) true Try.f3.params.toList args.toList ds p := hA0
  rw [Try.params3] at hA hval hsz
  obtain ⟨v0, vs0, d0, ds0, p0, q0, hargs, rfl, rfl, h0, r0⟩ := trodAll_cons hA
  obtain ⟨v1, vs1, d1, ds1, p1, q1, rfl, rfl, rfl, h1, r1⟩ := trodAll_cons r0
  obtain ⟨v2, vs2, d2, ds2, p2, q2, rfl, rfl, rfl, h2, r2⟩ := trodAll_cons r1
  obtain ⟨rfl, rfl, rfl⟩ := trodAll_nil r2
  obtain rfl : args = #[v0, v1, v2] := by cases args; simp_all
  obtain ⟨rfl, rfl⟩ := trodVars_none hV
  have lt0 : ∀ x ∈ p0, x.block < W.heap.size := by obtain ⟨m, hm⟩ := h0; exact DataW.trod_lt m _ _ _ hm
  obtain ⟨cs, xs, rfl, h⟩ := open_command_held (hval 0 28 v0 rfl rfl) h0 (fun n hn => by have h := List.all_eq_true.1 hsz n (DataW.weights_mem_each (j := 0) rfl rfl n hn); simpa using h)
  have lt1 : ∀ x ∈ p1, x.block < W.heap.size := by obtain ⟨m, hm⟩ := h1; exact DataW.trod_lt m _ _ _ hm
  obtain ⟨ns, ys, rfl, g⟩ := open_note_held (hval 1 38 v1 rfl rfl) h1 (fun n hn => by have h := List.all_eq_true.1 hsz n (DataW.weights_mem_each (j := 1) rfl rfl n hn); simpa using h)
  have lt2 : ∀ x ∈ p2, x.block < W.heap.size := by obtain ⟨m, hm⟩ := h2; exact DataW.trod_lt m _ _ _ hm
  obtain ⟨ls, x, rfl, l⟩ := open_letter_held (hval 2 45 v2 rfl rfl) h2 (fun n hn => by have h := List.all_eq_true.1 hsz n (DataW.weights_mem_each (j := 2) rfl rfl n hn); simpa using h)
  clear hA0 hval0
  refine (walk h.1 h.2 g.1 g.2 l.1 l.2.1 l.2.2.1 l.2.2.2).mono fun e W' ⟨he, bel⟩ => ?_
  subst he
  exact ⟨_, rfl, _, _, _, [], _, [], hW', trodAll_mk1 (shut_bool Try.underlying4 _), (trodAll_cons_mk (Below.trod laidOut (by kernel_rfl) (of_decide_eq_true (by kernel_rfl)) h0 bel lt0) (trodAll_cons_mk (Below.trod laidOut (by kernel_rfl) (of_decide_eq_true (by kernel_rfl)) h1 bel lt1) (trodAll_cons_mk (Below.trod laidOut (by kernel_rfl) (of_decide_eq_true (by kernel_rfl)) h2 bel lt2) trodAll_mk0))), rfl, bel.frame _, fun h => by cases h⟩

theorem over : Rows.wireBackRow.holds Try.pinned (OpenSpec.ofChange Rows.wireBackSpec) :=
  OpenClaim.holds_of_wide 3 Try.f3 rfl rfl rfl rfl rfl rfl rfl ⟨rfl, rfl, rfl, rfl, rfl⟩ rfl rfl rfl rfl rfl (by kernel_rfl) Try.func3 (by kernel_rfl)
    (of_decide_eq_true (by kernel_rfl)) (by unfold Func.isWrapper; first | (rw [if_pos (by decide +kernel)]; kernel_rfl) | (rw [if_neg (by decide +kernel)]; exact ⟨rfl, rfl⟩))
    (fun os started H enc _ => lifted os started H enc)

theorem proved : Rows.WireBackSaid := over
#print axioms proved
end WireBack
theorem wireBack_holds : Rows.WireBackSaid := WireBack.proved
end Go.Proofs.Ytghmgomlobddfaa
