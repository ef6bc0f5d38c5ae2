/- The document's log: Cut and Put. No condition. -/
import Derived.Test.YtcbijiielikfmaaSlotsRefAll
namespace Go.Proofs.Ytcbijiielikfmaa
open Go.ChangeShapes Go.WideShapes Go.ChangeAt Go.RowKit Sx Ls
set_option linter.unusedVariables false
namespace Rf
/-- what a call on the document's log leaves -/
def RMv (w : World) (R : Nat) (a : Option Addr) (n c : Nat) (s : Ss ByteArray) (w' : World) : Prop := Chg (M R a n c) w w' ∧ ∃ a' c' hs', Rg w' R a' c' s hs' ∧ ∀ k, M R a' hs'.length c' k → M R a n c k ∨ w.heap.size ≤ k
section
variable {w w' : World} {R c : Nat} {a : Option Addr} {s : Ss ByteArray} {hs : List (Int × ByteArray)}
theorem Rg.rmv (h : Rg w R a c s hs) : RMv w R a hs.length c s w := ⟨Chg.refl _ _, a, c, hs, h, fun k hk => .inl hk⟩
theorem Rg.notrow (h : Rg w R a c s hs) {k : Nat} {n' c' N : Nat} {a' : Option Addr} {xs : List Value} (h' : w'.ownsRow N 79 2 (.slice a' n' c') n' xs) (hd : w'.heap[R]? = w.heap[R]?) (hk : (Value.slice a' n' c').ownBlock = some k) : k ≠ R := fun e => by
  obtain ⟨cs, h1⟩ := own_cells h' hk
  rw [e, hd, h.hd] at h1
  simp at h1
theorem set_rg {wr W1 : World} {a1 : Option Addr} {c1 : Nat} {l : List (Int × ByteArray)} {s2 : Ss ByteArray} (h : Rg w R a c s hs) (hrel : Rel s2 l) (ok2 : Ok s2) (hR : wr.heap[R]? = w.heap[R]?) (hr : wr.ownsRow 0 79 2 (.slice a1 l.length c1) l.length (hcells l))
    (hk : ∀ k, (Value.slice a1 l.length c1).ownBlock = some k → (Value.slice a hs.length c).ownBlock = some k ∨ w.heap.size ≤ k) (cg : Chg (M R a hs.length c) w W1) (oth : ∀ k, k ≠ R → W1.heap[k]? = wr.heap[k]?) (hd : W1.heap[R]? = some (.cells #[.int .i64 s2.first, .int .i64 s2.most, .slice a1 l.length c1] 76 (0, 0))) : RMv w R a hs.length c s2 W1 :=
  ⟨cg, a1, c1, l, ⟨hd, row_same hr (fun k hk => oth k (h.notrow hr hR hk)), hrel, ok2⟩, fun k hk' => by
    rcases hk' with rfl | hk'
    · exact .inl (.inl rfl)
    · rcases hk k hk' with h1 | h1
      · exact .inl (.inr h1)
      · exact .inr h1⟩
theorem row_zero {w : World} {N n c : Nat} {a : Option Addr} {xs : List Value} (h : w.ownsRow N 79 2 (.slice a n c) n xs) : w.ownsRow 0 79 2 (.slice a n c) n xs := by
  obtain ⟨hl, hh | ⟨g, cp, cur, h1, h2, h3⟩⟩ := h
  · exact ⟨hl, .inl hh⟩
  · exact ⟨hl, .inr ⟨g, cp, cur, h1, Nat.zero_le _, h3⟩⟩
/-- the list and the first are set -/
theorem cut_rg {wr : World} {a1 : Option Addr} {c1 m : Nat} {i : Int} (h : Rg w R a c s hs) (hn : ¬ stays s i) (hg : Ga w wr (hs.filter (fun p => decide (i ≤ p.1))) a1 c1 m) : RMv w R a hs.length c (cutS s i) ((wr.setCell ⟨R, 2, none⟩ (.slice a1 m c1)).setCell ⟨R, 0, none⟩ (.int .i64 i)) := by
  have hrel := rel_cut h.rel hn
  generalize hs.filter (fun p => decide (i ≤ p.1)) = l at *
  obtain ⟨hb, rfl, hr⟩ := hg
  have hR := hb.block R h.ltR
  have e1 : (cutS s i).first = i := cut_first hn
  have e2 : (cutS s i).most = s.most := by unfold cutS; rw [if_neg hn]
  refine set_rg h hrel (cutS_ok h.ok i) hR (row_zero hr) (fun k hk => .inr (hr.lt k hk).1) (((Chg.of_below hb _).setCell (.inl (.inl rfl)) _).setCell (.inl (.inl rfl)) _) (fun k hk => (Below.heap_setCell _ _ _ _ hk).trans (Below.heap_setCell _ _ _ _ hk)) ?_
  rw [e1, e2]
  exact cell_hd0 (cell_hd (hR.trans h.hd))
set_option maxRecDepth 100000 in
set_option maxHeartbeats 1000000 in
theorem rcut_any (h : Rg w R a c s hs) (i : Int) : Calls Try.prog 15 #[.pointer (some ⟨R, 0, none⟩), .int .i64 i] w fun e w' => e = .returned (.int .i64 (cutN s i)) ∧ RMv w R a hs.length c (cutS s i) w' := by
  obtain ⟨c0, _, c2, cf⟩ := h.cl
  have LE := h.len
  by_cases hs1 : stays s i
  · have e1 : cutN s i = 0 := by unfold cutN; rw [if_pos hs1]
    have e2 : cutS s i = s := by unfold cutS; rw [if_pos hs1]
    rw [e1, e2]
    have HR := hide h.rmv
    have ST := hide hs1
    clear h e1 e2 LE
    unfold stays at hs1
    by_cases h1 : i ≤ s.first
    · clear hs1
      go_enter Try.func15, Try.ntmps15
      go_wp2_with fail
      go_ret
      exact ⟨rfl, HR.out⟩
    · have h2 : 1099511627776 < i := by omega
      clear hs1
      go_enter Try.func15, Try.ntmps15
      go_wp2_with fail
      go_ret
      exact ⟨rfl, HR.out⟩
  · have h1 : ¬ i ≤ s.first := fun hh => hs1 (.inl hh)
    have h2 : ¬ 1099511627776 < i := fun hh => hs1 (.inr hh)
    have LEN : Hid (((hs.length : Int) - ((hs.filter (fun p => decide (i ≤ p.1))).length : Int)) = (cutN s i : Int) ∧ (hs.filter (fun p => decide (i ≤ p.1))).length ≤ hs.length) := by
      have a1 := rel_len (rel_cut h.rel hs1)
      have a2 := cut_cnt s i
      have a3 := LE.1
      refine ⟨by omega, by omega⟩
    have FIN : Hid (∀ (wr : World) (a1 : Option Addr) (c1 m : Nat), Ga w wr (hs.filter (fun p => decide (i ≤ p.1))) a1 c1 m → RMv w R a hs.length c (cutS s i) ((wr.setCell ⟨R, 2, none⟩ (.slice a1 m c1)).setCell ⟨R, 0, none⟩ (.int .i64 i))) := fun wr a1 c1 m hg => cut_rg h hs1 hg
    have CK : Hid (∀ W, Below w.heap.size w W → W.cell? ⟨R, 0, none⟩ = some (.int .i64 s.first) ∧ W.cell? ⟨R, 2, none⟩ = some (.slice a hs.length c) ∧ (∀ o, W.frozen? ⟨R, o, none⟩ = false)) := fun W hW => ⟨(h.below hW).cl.1, (h.below hW).cl.2.2.1, (h.below hW).cl.2.2.2⟩
    have AT : Hid (∀ (W : World) (k : Nat) (p : Int × ByteArray), Below w.heap.size w W → hs[k]? = some p → ∃ g, a = some ⟨g, 0, none⟩ ∧ W.cell? ⟨g, k * 2, none⟩ = some (.int .i64 p.1) ∧ W.cell? ⟨g, k * 2 + 1, none⟩ = some (.string p.2)) := fun W k p hW hk => (h.below hW).at hk
    have LE2 := LE.2
    clear h LE hs1
    obtain ⟨n, en⟩ : ∃ n, n = hs.length := ⟨_, rfl⟩
    rw [← en] at c2 LE2
    have EN := hide en
    clear en
    go_enter Try.func15, Try.ntmps15
    go_wp2_with fail
    go_loopw [5, 6] (fun ov iv wr => ∃ (k m : Nat) (a1 : Option Addr) (c1 : Nat), k ≤ n ∧ m ≤ k ∧ iv = .int .i64 k ∧ ov = .slice a1 m c1 ∧ Hid (Ga w wr ((hs.take k).filter (fun p => decide (i ≤ p.1))) a1 c1 m)) (fun _ iv _ => n - (intOf iv).toNat)
    case atStart => exact ⟨0, 0, none, 0, by omega, by omega, rfl, rfl, hide ⟨Below.refl _ _, by simp, by simpa [hcells] using World.ownsRow_nil _ _ _ _⟩⟩
    case round =>
      obtain ⟨k, m, a1, c1, hk, mk, rfl, rfl, GA⟩ := hrel
      clear c0 c2 cf
      obtain ⟨c0, c2, cf⟩ := CK.out wr GA.out.1
      rw [← EN.out] at c2
      by_cases hlt : k < n
      · obtain ⟨p, hp⟩ : ∃ p, hs[k]? = some p := ⟨_, List.getElem?_eq_getElem (show k < hs.length by rw [← EN.out]; exact hlt)⟩
        obtain ⟨g, rfl, o1, o2⟩ := AT.out wr k p GA.out.1 hp
        have TK : Hid (hs.take (k + 1) = hs.take k ++ [p]) := by
          show _ = _
          have := List.getElem?_eq_some_iff.1 hp
          rw [List.take_succ_eq_append_getElem this.1, this.2]
        have i1 : (k : Int) < (n : Int) := by omega
        have i2 : (0 : Int) ≤ (k : Int) := by omega
        clear hp
        by_cases hge : i ≤ p.1
        · obtain ⟨b, cp, wn, run, gn⟩ := ga_add GA.out (by omega) p.1 p.2 74
          have RN := hide run
          have GN : Hid (Ga w wn ((hs.take (k + 1)).filter (fun p => decide (i ≤ p.1))) (some ⟨b, 0, none⟩) cp (m + 1)) := by
            rw [TK.out, List.filter_append]
            have : [p].filter (fun p => decide (i ≤ p.1)) = [p] := by simp [hge]
            rw [this]
            exact gn
          clear run gn
          go_wp2_with (at_builtin; refine wp_append_run _ rfl (.tmp 37) (.tmp 45) 74 74 rfl _ _ RN.out ?_)
          go_roundw
          case rel => exact ⟨k + 1, m + 1, _, _, by omega, by omega, by go_num, rfl, GN⟩
          case measure => simp [intOf]; omega
        · have GN : Hid (Ga w wr ((hs.take (k + 1)).filter (fun p => decide (i ≤ p.1))) a1 c1 m) := by
            rw [TK.out, List.filter_append]
            have : [p].filter (fun p => decide (i ≤ p.1)) = [] := by simp [hge]
            rw [this, List.append_nil]
            exact GA.out
          go_wp2_with fail
          go_roundw
          case rel => exact ⟨k + 1, m, _, _, by omega, by omega, by go_num, rfl, GN⟩
          case measure => simp [intOf]; omega
      · obtain rfl : k = n := by omega
        have GF : Hid (Ga w wr (hs.filter (fun p => decide (i ≤ p.1))) a1 c1 m) := by
          have := GA.out
          rw [EN.out, List.take_length] at this
          exact this
        have LL : ((k : Int) - (m : Int)) = (cutN s i : Int) := by have := LEN.out; have := GF.out.2.1; have := EN.out; omega
        have WW : IntKind.i64.wrap ((k : Int) - (m : Int)) = (k : Int) - (m : Int) := by rw [IntKind.wrap_i64]; omega
        have HL := hide LL
        have FF := hide (FIN.out wr a1 c1 m GF.out)
        clear hlt hk GA LL
        go_wp2_with fail
        go_ret
        exact ⟨by rw [← HL.out]; rfl, FF.out⟩
theorem hcells_set (l : List (Int × ByteArray)) (k : Nat) (i : Int) (x y : ByteArray) (hk : l[k]? = some (i, y)) : hcells (l.set k (i, x)) = (hcells l).set (k * 2 + 1) (.string x) := by
  induction l generalizing k with
  | nil => simp at hk
  | cons p l ih =>
    have e : ∀ q : Int × ByteArray, hcells (q :: l) = .int .i64 q.1 :: Ls.va q.2 :: hcells l := fun _ => rfl
    cases k with
    | zero =>
      obtain rfl : p = (i, y) := by simpa using hk
      rfl
    | succ k =>
      have := ih k (by simpa using hk)
      show hcells (p :: l.set k (i, x)) = _
      rw [e, show (k + 1) * 2 + 1 = (k * 2 + 1) + 1 + 1 by omega, List.set_cons_succ, List.set_cons_succ, ← this]
      rfl
theorem row_set2 {w : World} {g n c k T : Nat} {xs : List Value} {u : Value} (h : w.ownsRow 0 T 2 (.slice (some ⟨g, 0, none⟩) n c) n xs) : (w.setCell ⟨g, k, none⟩ u).ownsRow 0 T 2 (.slice (some ⟨g, 0, none⟩) n c) n (xs.set k u) := by
  obtain ⟨hx, ⟨e1, _⟩ | ⟨g', cp, cur, e1, e2, e3, e4, e5, e6, e7⟩⟩ := h
  · cases e1
  · obtain ⟨rfl, rfl⟩ : g = g' ∧ c = cp := by simpa using e1
    refine ⟨by rw [List.length_set]; exact hx, .inr ⟨g, c, cur.setIfInBounds k u, rfl, e2, by simp [World.setCell, Array.getElem?_modify, e3], e4, e5, by rw [Array.size_setIfInBounds]; exact e6, ?_⟩⟩
    rw [← e7, Array.toList_setIfInBounds, List.take_set]
theorem old_rg {g k : Nat} {i : Int} {x y : ByteArray} (h : Rg w R (some ⟨g, 0, none⟩) c s hs) (h1 : ¬ i < s.first) (h2 : ¬ (s.most : Int) ≤ i - s.first) (hk : hs[k]? = some (i, y)) (q : Nat) : RMv w R (some ⟨g, 0, none⟩) hs.length c (putS s i x) ((w.drewN q).setCell ⟨g, k * 2 + 1, none⟩ (.string x)) := by
  have hl : (hs.set k (i, x)).length = hs.length := List.length_set
  have gM : (Value.slice (some ⟨g, 0, none⟩) hs.length c).ownBlock = some g := rfl
  have gR : R ≠ g := fun e => h.notrow (w' := w) h.row rfl gM e.symm
  have hdw : ((w.drewN q).setCell ⟨g, k * 2 + 1, none⟩ (.string x)).heap[R]? = w.heap[R]? := Below.heap_setCell _ _ _ _ gR
  refine ⟨(Chg.drewN _ _ _).setCell (.inl (.inr gM)) _, some ⟨g, 0, none⟩, c, hs.set k (i, x), ⟨?_, ?_, rel_put_old h.ok h.rel h1 h2 hk, putS_ok h.ok i x⟩, fun k hk => .inl (by rw [hl] at hk; exact hk)⟩
  · rw [hl, put_first, put_most]
    exact hdw.trans h.hd
  · rw [hl, hcells_set hs k i x y hk]
    exact row_set2 (w := w.drewN q) h.row
theorem new_rg {i : Int} {x : ByteArray} {b cp : Nat} {wn : World} (q : Nat) (h : Rg w R a c s hs) (h1 : ¬ i < s.first) (h2 : ¬ (s.most : Int) ≤ i - s.first) (hn : getV s i = none) (own : wn.ownsRow 0 79 2 (.slice (some ⟨b, 0, none⟩) (hs.length + 1) cp) (hs.length + 1) (hcells (hs ++ [(i, x)])))
    (gr : ((w.drewN q).alloc (.cells #[.int .i64 i, .string x] 79)).grownBy wn (Value.slice a hs.length c).ownBlock) (wh : (Value.slice a hs.length c).ownBlock = some b ∨ w.heap.size ≤ b) : RMv w R a hs.length c (putS s i x) (wn.setCell ⟨R, 2, none⟩ (.slice (some ⟨b, 0, none⟩) (hs.length + 1) cp)) := by
  have hl : (hs ++ [(i, x)]).length = hs.length + 1 := by simp
  have cg : Chg (M R a hs.length c) w wn := ((Chg.drewN _ w q).alloc _).grown gr (fun k hk => .inl (.inr hk))
  have cR : Chg (fun k => (Value.slice a hs.length c).ownBlock = some k) w wn := ((Chg.drewN _ w q).alloc _).grown gr (fun k hk => .inl hk)
  have hR : wn.heap[R]? = w.heap[R]? := cR.block R h.ltR (fun e => h.notrow (w' := w) h.row rfl e rfl)
  rw [← hl] at own ⊢
  refine set_rg h (rel_put_new h.ok h.rel h1 h2 hn) (putS_ok h.ok i x) hR own (fun k hk => ?_) (cg.setCell (.inl (.inl rfl)) _) (fun k hk => Below.heap_setCell _ _ _ _ hk) ?_
  · obtain rfl : b = k := by simpa [Value.ownBlock] using hk
    exact wh
  · rw [put_first, put_most]
    exact cell_hd (hR.trans h.hd)
end
end Rf
end Go.Proofs.Ytcbijiielikfmaa
