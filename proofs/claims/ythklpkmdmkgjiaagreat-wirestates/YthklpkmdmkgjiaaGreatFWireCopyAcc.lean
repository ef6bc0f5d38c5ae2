/- The law folder's CopyAccount and CopyAccounts. No condition but the size. -/
import Derived.Test.YthklpkmdmkgjiaaGreatFWireCopyList
import Derived.Test.YthklpkmdmkgjiaaGreatFWireXLAccount
import Derived.Test.YthklpkmdmkgjiaaGreatFWireVLAccount
import Derived.Test.YthklpkmdmkgjiaaGreatFWireSameAcc
import Derived.Test.YthklpkmdmkgjiaaGreatFAppendWide
import Derived.Deep.Cut
import Derived.Deep.AppendLies
namespace Go.Proofs.YthklpkmdmkgjiaaGreat
open Go.ChangeShapes Go.WideShapes Go.ChangeAt Go.RowKit B8 Cm Wm
set_option linter.unusedVariables false

theorem cpinfo_holder : (Tryz.prog.info? 146).map (fun i => (i.zero, i.size, i.bytes)) = some (some (.agg #[.int .i64 0, .int .i64 0, .int .i64 0, .int .i64 0]), 4, 32) := by kernel_rfl
theorem cpinfo_account : (Tryz.prog.info? 94).map (·.size) = some 10 := by kernel_rfl
theorem acc_oneA {w : World} {P : Nat → Prop} {cs : Array Value} {x : Acc} (h : AccC w P (fun q => cs[q]?) x) (hk : AccK x) (hs : cs.size = 10) : cs.all (·.oneCell') = true := by
  rw [Array.all_eq_true_iff_forall_mem]
  intro v hv
  obtain ⟨j, hj, e⟩ := Array.getElem_of_mem hv
  obtain ⟨u, h1, h2⟩ := h.cell hk j (by omega)
  have h1 : cs[j]? = some u := h1
  rw [Array.getElem?_eq_getElem hj, e] at h1
  obtain rfl := Option.some.inj h1
  exact h2

set_option maxRecDepth 100000 in
set_option maxHeartbeats 2000000 in
theorem copy_account {w : World} {P : Nat → Prop} {cs : Array Value} {x : Acc} (h : AccC w P (fun q => cs[q]?) x) (hk : AccK x) (hsz : cs.size = 10) (hP : ∀ b, P b → b < w.heap.size) (l1 : x.hs.length * 32 ≤ 140737488351232) :
    Calls Tryz.prog 43 #[.agg cs] w fun e w' => ∃ cs', e = .returned (.agg cs') ∧ cs'.size = 10 ∧ AccC w' (fun b => (P b ∨ w.heap.size ≤ b) ∧ b < w'.heap.size) (fun q => cs'[q]?) x ∧ Below w.heap.size w w' := by
  obtain ⟨i1, hi1, hz1a, hz1b, hz1c⟩ := info_parts cpinfo_holder
  obtain ⟨a1, n1, c1, p1, lp⟩ := h.hs
  have p1 : cs[5]? = some (.slice a1 n1 c1) := p1
  rw [lp.length] at l1
  obtain ⟨u, eu⟩ : ∃ u, u = (w.alloc (.cells cs 94)).alloc (.cells #[.string ⟨#[]⟩, .int .i64 0, .int .i64 0, .int .i64 0, .int .i64 0, .slice none 0 0, .int .i64 0, .int .i64 0, .int .i64 0, .int .i64 0] 94) := ⟨_, rfl⟩
  have hb : Below w.heap.size w u := by rw [eu]; exact below_alloc (below_alloc (Below.refl _ _) _) _
  have hs : u.heap.size = w.heap.size + 2 := by rw [eu]; simp
  have r0 : u.heap[w.heap.size]? = some (.cells cs 94 (0, 0)) := by rw [eu]; exact heap_alloc2_old w _ _
  have r1 : u.heap[w.heap.size + 1]? = some (.cells #[.string ⟨#[]⟩, .int .i64 0, .int .i64 0, .int .i64 0, .int .i64 0, .slice none 0 0, .int .i64 0, .int .i64 0, .int .i64 0, .int .i64 0] 94 (0, 0)) := by rw [eu]; exact heap_alloc2_new w _ _
  have su : ∀ b, P b → P b ∧ u.heap[b]? = w.heap[b]? := fun b hl => ⟨hl, hb.block b (hP b hl)⟩
  obtain ⟨a1', c1', w1, run1, b1, L1⟩ := copy_list (w := u) 90 Tryz.underlying90 hi1 hz1a hz1b hz1c (by rfl) (by omega) (lp.same su) (by omega) (by omega)
  have q0 : w1.heap[w.heap.size]? = some (.cells cs 94 (0, 0)) := (b1.block _ (by omega)).trans r0
  have q1 : w1.heap[w.heap.size + 1]? = some (.cells #[.string ⟨#[]⟩, .int .i64 0, .int .i64 0, .int .i64 0, .int .i64 0, .slice none 0 0, .int .i64 0, .int .i64 0, .int .i64 0, .int .i64 0] 94 (0, 0)) := (b1.block _ (by omega)).trans r1
  have x1 : u.cell? ⟨w.heap.size, 5, none⟩ = some (.slice a1 n1 c1) := by rw [cell_of_row _ _ _ _ _ _ r0]; exact p1
  have y1 : w1.cell? ⟨w.heap.size, 5, none⟩ = some (.slice a1 n1 c1) := by rw [cell_of_row _ _ _ _ _ _ q0]; exact p1
  have f1 : w1.frozen? ⟨w.heap.size, 5, none⟩ = false := frozen_of_row _ _ _ _ _ q0
  obtain ⟨w2, e2⟩ : ∃ w2, w2 = w1.setCell ⟨w.heap.size, 5, none⟩ (.slice a1' n1 c1') := ⟨_, rfl⟩
  have o2 : ∀ k, k ≠ w.heap.size → w2.heap[k]? = w1.heap[k]? := fun k hk => by rw [e2]; exact Below.heap_setCell _ ⟨w.heap.size, 5, none⟩ _ _ hk
  have s2 : w2.heap.size = w1.heap.size := by rw [e2]; simp [World.setCell]
  obtain ⟨cs1, ec⟩ : ∃ cs1, cs1 = cs.setIfInBounds 5 (.slice a1' n1 c1') := ⟨_, rfl⟩
  have v0 : w2.heap[w.heap.size]? = some (.cells cs1 94 (0, 0)) := by rw [e2, ec]; exact heap_setCell_same w1 w.heap.size 5 cs _ _ q0
  have v1 : w2.heap[w.heap.size + 1]? = some (.cells #[.string ⟨#[]⟩, .int .i64 0, .int .i64 0, .int .i64 0, .int .i64 0, .slice none 0 0, .int .i64 0, .int .i64 0, .int .i64 0, .int .i64 0] 94 (0, 0)) := (o2 _ (by omega)).trans q1
  have bw2 : ∀ k, k < w.heap.size → w2.heap[k]? = w.heap[k]? := fun k hk => (o2 k (by omega)).trans ((b1.block k (by omega)).trans (hb.block k hk))
  have b1s := b1.size
  have sz1 : cs1.size = 10 := by rw [ec, Array.size_setIfInBounds]; exact hsz
  have gj : ∀ j, j ≠ 5 → cs1[j]? = cs[j]? := fun j h1 => by rw [ec, Array.getElem?_setIfInBounds_ne (fun e => h1 e.symm)]
  have sv : ∀ b, P b → (b ≠ w.heap.size + 1 ∧ (P b ∨ w.heap.size ≤ b) ∧ b < w2.heap.size) ∧ w2.heap[b]? = w.heap[b]? := fun b hl => ⟨⟨by have := hP b hl; omega, .inl hl, by have := hP b hl; omega⟩, bw2 b (hP b hl)⟩
  have vv : AccC w2 (fun b => b ≠ w.heap.size + 1 ∧ (P b ∨ w.heap.size ≤ b) ∧ b < w2.heap.size) (fun q => cs1[q]?) x := by
    refine ⟨fun j y hy => ?_, ⟨a1', n1, c1', ?_, ?_⟩, fun j y hy => ?_⟩
    · obtain ⟨v, h1, h2⟩ := h.f0 j y hy
      have hj : j < 5 := by have := (List.getElem?_eq_some_iff.1 hy).1; have := hk.l0; omega
      exact ⟨v, (gj j (by omega)).trans h1, h2.same sv⟩
    · show cs1[5]? = _
      rw [ec, Array.getElem?_setIfInBounds_self_of_lt (by omega)]
    · exact (L1 (fun b => b ≠ w.heap.size ∧ b ≠ w.heap.size + 1 ∧ (P b ∨ w.heap.size ≤ b) ∧ b < w1.heap.size) (fun b hl => ⟨⟨by have := hP b hl; omega, by have := hP b hl; omega, .inl hl, by have := hP b hl; omega⟩, by have := hP b hl; omega⟩) (fun k h1 h2 => ⟨by omega, by omega, .inr (by omega), h2⟩)).same (fun b hb2 => ⟨⟨hb2.2.1, hb2.2.2.1, by have := hb2.2.2.2; omega⟩, o2 b hb2.1⟩)
    · obtain ⟨v, h1, h2⟩ := h.f1 j y hy
      exact ⟨v, (gj (6 + j) (by omega)).trans h1, h2.same sv⟩
  have INF : Hid ((Tryz.prog.info? 94).map (·.size) = some cs1.size) := by show _ = _; rw [sz1]; exact cpinfo_account
  have SZC : Hid ((#[.string ⟨#[]⟩, .int .i64 0, .int .i64 0, .int .i64 0, .int .i64 0, .slice none 0 0, .int .i64 0, .int .i64 0, .int .i64 0, .int .i64 0] : Array Value).size = cs1.size) := sz1.symm
  have SZ1 := hide sz1
  have ONE := hide (acc_oneA vv hk sz1)
  have P0 := hide v0
  have P1 := hide v1
  have FIN : Hid ((w2.setRow (w.heap.size + 1) cs1).heap[w.heap.size + 1]? = some (.cells cs1 94) ∧ AccC (w2.setRow (w.heap.size + 1) cs1) (fun b => (P b ∨ w.heap.size ≤ b) ∧ b < (w2.setRow (w.heap.size + 1) cs1).heap.size) (fun q => cs1[q]?) x ∧ Below w.heap.size w (w2.setRow (w.heap.size + 1) cs1)) := by
    have hother : ∀ b, b ≠ w.heap.size + 1 → (w2.setRow (w.heap.size + 1) cs1).heap[b]? = w2.heap[b]? := fun b hb => by simp only [World.setRow, Array.getElem?_modify]; rw [if_neg (fun e => hb e.symm)]
    have eo : w2.os = w.os ∧ w2.tape = w.tape ∧ w2.output = w.output := ⟨by rw [e2]; exact b1.os.trans hb.os, by rw [e2]; exact b1.tape.trans hb.tape, by rw [e2]; exact b1.output.trans hb.output⟩
    exact ⟨setRow_heap w2 _ _ _ _ _ v1, vv.same (fun _ _ => rfl) hk fun b hl => ⟨⟨hl.2.1, by rw [size_setRow]; exact hl.2.2⟩, hother b hl.1⟩, eo.1, eo.2.1, eo.2.2, by rw [size_setRow]; omega, fun k hk => (hother k (by omega)).trans (bw2 k hk)⟩
  have EU := hide eu.symm
  have E2 := hide e2.symm
  clear h lp l1 p1 hb hs r0 r1 su b1 L1 q0 q1 o2 s2 v0 v1 bw2 b1s sz1 gj sv vv eu e2 ec hP hk
  go_enter Tryz.func43, Tryz.ntmps43
  go_upto_region 1 with fail
  rw [EU.out]
  clear EU
  go_upto_region 2 with (at_builtin; refine wp_append_run _ rfl (.const (.slice none 0 0)) (.tmp 4) 90 rfl _ _ run1 ?_)
  rw [E2.out]
  clear E2 run1 x1 y1 f1
  go_wp2_with (first | (refine wpList_load_row rfl 94 (.tmp 1) rfl w.heap.size rfl 94 cs1 (0, 0) _ P0.out Tryz.underlying94 rfl INF.out ?_) | (refine wpList_store_row rfl 94 (.tmp 2) (.tmp 7) rfl (w.heap.size + 1) cs1 rfl rfl 94 #[.string ⟨#[]⟩, .int .i64 0, .int .i64 0, .int .i64 0, .int .i64 0, .slice none 0 0, .int .i64 0, .int .i64 0, .int .i64 0, .int .i64 0] P1.out INF.out SZC.out ONE.out ?_))
  refine bodyPost_ret (v := .agg cs1) ?r ?d ?_
  case r => exact results_cell_row rfl _ _ (w.heap.size + 1) 94 cs1 (0, 0) _ rfl FIN.out.1 Tryz.underlying94 rfl INF.out
  case d => rfl
  exact ⟨_, rfl, SZ1.out, FIN.out.2.1, FIN.out.2.2⟩

def Qc (P : Nat → Prop) (lo : Nat) (own : Option Nat) (u : World) (k : Nat) : Prop := (P k ∨ lo ≤ k) ∧ k < u.heap.size ∧ own ≠ some k
/-- so many accounts have been copied -/
structure CLoop (w : World) (P : Nat → Prop) (xss : List Acc) (j : Nat) (av : Option Addr) (cv : Nat) (rows : List (List Value)) (u : World) : Prop where
  own : u.ownsRow w.heap.size 94 10 (.slice av j cv) j rows.flatten
  rl : ∀ r ∈ rows, r.length = 10
  r : Xra u (Qc P w.heap.size (Value.slice av j cv).ownBlock u) rows (xss.take j)
  b : Below w.heap.size w u

set_option maxRecDepth 100000 in
set_option maxHeartbeats 4000000 in
theorem copy_accounts {w : World} {P : Nat → Prop} {a : Option Addr} {n cp : Nat} {xss : List Acc} (h : La w P a n cp xss) (hk : ∀ x ∈ xss, AccK x) (hP : ∀ b, P b → b < w.heap.size) (hn : n * 104 ≤ 140737488351232) (hl : ∀ x ∈ xss, x.hs.length * 32 ≤ 140737488351232) :
    Calls Tryz.prog 14 #[.slice a n cp] w fun e w' => ∃ a' cp', e = .returned (.slice a' n cp') ∧ La w' (fun b => (P b ∨ w.heap.size ≤ b) ∧ b < w'.heap.size) a' n cp' xss ∧ Below w.heap.size w w' := by
  obtain ⟨i0, hi, hz0, hz1, hz2⟩ := info_parts xinfo_accounts
  have H := hide h
  have HP := hide hP
  have HK := hide hk
  have HLH := hide hl
  have HL := hide h.length
  clear h hk hP hl
  go_enter Tryz.func14, Tryz.ntmps14
  go_wp2_with fail
  go_loopw [3, 4] (fun l i wr => ∃ (j : Nat) (av : Option Addr) (cv : Nat) (rows : List (List Value)), j ≤ n ∧ l = .slice av j cv ∧ i = .int .i64 j ∧ Hid (CLoop w P xss j av cv rows wr)) (fun _ i _ => n - (intOf i).toNat)
  case atStart => exact ⟨0, none, 0, [], Nat.zero_le _, rfl, rfl, ⟨World.ownsRow_nil _ _ _ _, fun r hr => by simp at hr, ⟨by simp, fun i row x hr => by simp at hr⟩, Below.refl _ _⟩⟩
  case round =>
    obtain ⟨j, av, cv, rows, hj, rfl, rfl, HX⟩ := hrel
    by_cases hlt : j < n
    · have i1 : (j : Int) < (n : Int) := by omega
      have i2 : (0 : Int) ≤ (j : Int) := by omega
      obtain ⟨x, hx⟩ : ∃ x, xss[j]? = some x := ⟨_, List.getElem?_eq_getElem (by rw [HL.out]; exact hlt)⟩
      have hkx := HK.out x (List.mem_of_getElem? hx)
      have hlx := HLH.out x (List.mem_of_getElem? hx)
      obtain ⟨b, off, cs, rfl, hp, hcl, hc, hv⟩ := H.out.row HK.out hx (by omega)
      have lb := HP.out b hp
      obtain ⟨v0, v1, v2, v3, v4, v5, v6, v7, v8, v9, rfl⟩ : ∃ v0 v1 v2 v3 v4 v5 v6 v7 v8 v9, cs = [v0, v1, v2, v3, v4, v5, v6, v7, v8, v9] := by
        match cs, hcl with
        | [v0, v1, v2, v3, v4, v5, v6, v7, v8, v9], _ => exact ⟨_, _, _, _, _, _, _, _, _, _, rfl⟩
      have c0 : wr.cell? ⟨b, off + j * 10, none⟩ = some v0 := row_stays HX.out.b lb hc 0 v0 rfl
      have c1 : wr.cell? ⟨b, off + j * 10 + 1, none⟩ = some v1 := row_stays HX.out.b lb hc 1 v1 rfl
      have c2 : wr.cell? ⟨b, off + j * 10 + 2, none⟩ = some v2 := row_stays HX.out.b lb hc 2 v2 rfl
      have c3 : wr.cell? ⟨b, off + j * 10 + 3, none⟩ = some v3 := row_stays HX.out.b lb hc 3 v3 rfl
      have c4 : wr.cell? ⟨b, off + j * 10 + 4, none⟩ = some v4 := row_stays HX.out.b lb hc 4 v4 rfl
      have c5 : wr.cell? ⟨b, off + j * 10 + 5, none⟩ = some v5 := row_stays HX.out.b lb hc 5 v5 rfl
      have c6 : wr.cell? ⟨b, off + j * 10 + 6, none⟩ = some v6 := row_stays HX.out.b lb hc 6 v6 rfl
      have c7 : wr.cell? ⟨b, off + j * 10 + 7, none⟩ = some v7 := row_stays HX.out.b lb hc 7 v7 rfl
      have c8 : wr.cell? ⟨b, off + j * 10 + 8, none⟩ = some v8 := row_stays HX.out.b lb hc 8 v8 rfl
      have c9 : wr.cell? ⟨b, off + j * 10 + 9, none⟩ = some v9 := row_stays HX.out.b lb hc 9 v9 rfl
      have CA := hide (copy_account (P := P) (w := wr) (cs := #[v0, v1, v2, v3, v4, v5, v6, v7, v8, v9]) (hv.same (fun q _ => by simp) hkx (fun b h => ⟨h, HX.out.b.block b (HP.out b h)⟩)) hkx rfl (fun b h => Nat.lt_of_lt_of_le (HP.out b h) HX.out.b.size) hlx)
      have HKX := hide hkx
      have HXX := hide hx
      clear hc hv hx hkx hlx hp lb hcl
      go_wp2_with fail
      refine CA.out.mono ?_
      rintro e w3 ⟨cs3, rfl, hs3, hv3, hb3⟩
      obtain ⟨u0, u1, u2, u3, u4, u5, u6, u7, u8, u9, rfl⟩ : ∃ u0 u1 u2 u3 u4 u5 u6 u7 u8 u9, cs3 = #[u0, u1, u2, u3, u4, u5, u6, u7, u8, u9] := by
        match cs3, hs3 with
        | ⟨[u0, u1, u2, u3, u4, u5, u6, u7, u8, u9]⟩, _ => exact ⟨_, _, _, _, _, _, _, _, _, _, rfl⟩
      have B3 := hide hb3
      have V3 := hide hv3
      have ONE : Hid (∀ u ∈ [u0, u1, u2, u3, u4, u5, u6, u7, u8, u9], u.oneCell' = true) := fun u hu => by
        have := acc_oneA hv3 HKX.out rfl
        rw [Array.all_eq_true_iff_forall_mem] at this
        exact this u (by simpa using hu)
      have OW := hide (own_same (w' := w3) HX.out.own (fun k hk => hb3.block k (HX.out.own.lt k hk).2))
      have NE : Hid (∀ k, (Value.slice av j cv).ownBlock = some k → w.heap.size ≤ k ∧ k < wr.heap.size) := fun k hk => HX.out.own.lt k hk
      have RA : Hid (∀ u, Below w3.heap.size w3 u → u.ownsRow w.heap.size 94 10 (.slice av j cv) j rows.flatten) := fun u hb => own_same OW.out (fun k hk => hb.block k (OW.out.lt k hk).2)
      have BA : Hid (w.heap.size ≤ w3.heap.size) := Nat.le_trans HX.out.b.size hb3.size
      clear hb3 hv3 CA hs3 c0 c1 c2 c3 c4 c5 c6 c7 c8 c9
      go_wp2_with (at_builtin; refine wpList_append_lies _ rfl (.tmp 11) (.tmp 17) 22 rfl w.heap.size 94 i0 (.agg #[.string ⟨#[]⟩, .int .i64 0, .int .i64 0, .int .i64 0, .int .i64 0, .slice none 0 0, .int .i64 0, .int .i64 0, .int .i64 0, .int .i64 0]) 10 104 Tryz.underlying22 hi hz0 hz1 hz2 rfl (by omega) _ j _ rfl (RA.out _ (below_alloc (Below.refl _ _) _)) ⟨w3.heap.size, 0, none⟩ 1 1 [u0, u1, u2, u3, u4, u5, u6, u7, u8, u9] rfl rfl (World.news_of_block (heap_alloc_new w3 _)) ONE.out (by omega) (by unfold maxLen; omega) (by omega) (by have := BA.out; simp; omega) (w3.heap.size + 1) (by simp) ?_)
      intro g2 cap2 w4 hown hgrow hat hlt4
      have LN : Hid (CLoop w P xss (j + 1) (some ⟨g2, 0, none⟩) cap2 (rows ++ [[u0, u1, u2, u3, u4, u5, u6, u7, u8, u9]]) w4) := by
        have b3 := B3.out
        have ng : ∀ k, k < w3.heap.size → (Value.slice av j cv).ownBlock ≠ some k → g2 ≠ k := fun k hk hne e => by
          rcases hat with h | h
          · exact hne (by rw [h, e])
          · omega
        have st : ∀ k, k < w3.heap.size → (Value.slice av j cv).ownBlock ≠ some k → w4.heap[k]? = w3.heap[k]? := fun k hk hne => (hgrow.block k (by simp; omega) (fun e => hne e.symm)).trans (heap_alloc_old w3 _ hk)
        have sz : w3.heap.size ≤ w4.heap.size := Nat.le_trans (by simp) hgrow.size
        have tk : xss.take (j + 1) = xss.take j ++ [x] := by rw [List.take_add_one, HXX.out]; rfl
        refine ⟨?_, fun r hr => ?_, ?_, ?_⟩
        · rw [List.flatten_append]
          simpa using hown
        · rcases List.mem_append.1 hr with hr | hr
          · exact HX.out.rl r hr
          · rw [List.mem_singleton.1 hr]; rfl
        · rw [tk]
          refine (HX.out.r.same (fun y hy => HK.out y (List.mem_of_mem_take hy)) fun k hk => ?_).snoc (V3.out.same (fun q _ => by simp) HKX.out fun k hk => ?_)
          · have hk3 : k < w3.heap.size := Nat.lt_of_lt_of_le hk.2.1 b3.size
            exact ⟨⟨hk.1, Nat.lt_of_lt_of_le hk3 sz, fun e => ng k hk3 hk.2.2 (by simpa [Value.ownBlock] using e)⟩, (st k hk3 hk.2.2).trans (b3.block k hk.2.1)⟩
          · have hk3 : k < w3.heap.size := hk.2
            have hne : (Value.slice av j cv).ownBlock ≠ some k := fun e => by
              have h5 := NE.out k e
              rcases hk.1 with h6 | h6
              · have := HP.out k h6; omega
              · omega
            refine ⟨⟨?_, Nat.lt_of_lt_of_le hk3 sz, fun e => ng k hk3 hne (by simpa [Value.ownBlock] using e)⟩, st k hk3 hne⟩
            rcases hk.1 with h6 | h6
            · exact .inl h6
            · exact .inr (Nat.le_trans HX.out.b.size h6)
        · exact ((HX.out.b.trans (b3.mono HX.out.b.size)).alloc BA.out _).grown hgrow (by have := BA.out; simp; omega) (fun k hk => (NE.out k hk).1)
      clear hown hgrow hat hlt4
      go_wp2_with fail
      go_roundw
      case rel => exact ⟨j + 1, _, _, _, by omega, by simp, by go_num, LN⟩
      case measure => simp [intOf]; omega
    · obtain rfl : j = n := by omega
      have i1 : ¬ ((j : Int) < (j : Int)) := by omega
      go_wp2_with fail
      go_ret
      refine ⟨av, cv, rfl, ?_, HX.out.b⟩
      have hr := HX.out.r
      rw [List.take_of_length_le (by rw [HL.out]; exact Nat.le_refl _)] at hr
      exact la_of_rows HX.out.own HX.out.rl hr HK.out (fun k hk => ⟨hk.1, hk.2.1⟩) HL.out (fun k hk => ⟨.inr (HX.out.own.lt k hk).1, (HX.out.own.lt k hk).2⟩)
end Go.Proofs.YthklpkmdmkgjiaaGreat
