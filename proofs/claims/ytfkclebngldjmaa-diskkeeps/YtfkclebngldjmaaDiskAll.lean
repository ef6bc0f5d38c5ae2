/- The law folder's all: every block of a disk that is up; and two such lists held against each other. No condition. -/
import Derived.Test.YtfkclebngldjmaaDiskRan
import Derived.Test.YtfkclebngldjmaaPl8
namespace Go.Proofs.Ytfkclebngldjmaa
open Go.ChangeShapes Go.WideShapes Go.ChangeAt Go.RowKit B8 Dm
set_option linter.unusedVariables false

/-- lists of 64 bytes, each in a block of its own from lo on, and the list of them -/
structure Lol (w : World) (lo : Nat) (v : Value) (n : Nat) (gs : Nat → Nat) (bss : Nat → List Int) : Prop where
  row : w.ownsRow lo 46 1 v n ((List.range n).map (fun i => Value.slice (some ⟨gs i, 0, none⟩) 64 64))
  each : ∀ i, i < n → lo ≤ gs i ∧ gs i < w.heap.size ∧ w.heap[gs i]? = some (.cells (vals (bss i)).toArray 5 (0, 0)) ∧ v.ownBlock ≠ some (gs i)
theorem Lol.below {w w' : World} {lo : Nat} {v : Value} {n : Nat} {gs : Nat → Nat} {bss : Nat → List Int} (h : Lol w lo v n gs bss) (hb : Below w.heap.size w w') : Lol w' lo v n gs bss :=
  ⟨row_same h.row (fun k hk => hb.block k (h.row.lt k hk).2), fun i hi => by obtain ⟨h1, h2, h3, h4⟩ := h.each i hi; exact ⟨h1, Nat.lt_of_lt_of_le h2 hb.size, (hb.block _ h2).trans h3, h4⟩⟩
theorem Lol.chg {w w' : World} {lo : Nat} {v : Value} {n : Nat} {gs : Nat → Nat} {bss : Nat → List Int} {L : Nat → Prop} (h : Lol w lo v n gs bss) (hc : Chg L w w') (hl : ∀ k, L k → k < lo) : Lol w' lo v n gs bss :=
  ⟨row_same h.row (fun k hk => hc.block k (h.row.lt k hk).2 (fun h5 => by have := hl k h5; have := (h.row.lt k hk).1; omega)), fun i hi => by obtain ⟨h1, h2, h3, h4⟩ := h.each i hi; exact ⟨h1, Nat.lt_of_lt_of_le h2 hc.size, (hc.block _ h2 (fun h5 => by have := hl _ h5; omega)).trans h3, h4⟩⟩
theorem linfo : (Try.prog.info? 46).map (fun i => (i.zero, i.size, i.bytes)) = some (some (.slice none 0 0), 1, 24) := by kernel_rfl
def upd1 (gs : Nat → Nat) (k x : Nat) : Nat → Nat := fun i => if i = k then x else gs i
/-- one list more -/
theorem Lol.push {w w1 w2 w3 : World} {lo : Nat} {v : Value} {k g g2 cp : Nat} {gs : Nat → Nat} {bss : Nat → List Int} (h : Lol w lo v k gs bss) (hb1 : Below w.heap.size w w1) (hg : w1.heap[g]? = some (.cells (vals (bss k)).toArray 5 (0, 0))) (hlo : w.heap.size ≤ g) (hw : lo ≤ w.heap.size)
    (hb2 : Below w1.heap.size w1 w2) (hown : w3.ownsRow lo 46 1 (.slice (some ⟨g2, 0, none⟩) (k + 1) cp) (k + 1) ((List.range k).map (fun i => Value.slice (some ⟨gs i, 0, none⟩) 64 64) ++ [.slice (some ⟨g, 0, none⟩) 64 64])) (hgr : w2.grownBy w3 v.ownBlock) (hat : v.ownBlock = some g2 ∨ g2 = w2.heap.size) :
    Lol w3 lo (.slice (some ⟨g2, 0, none⟩) (k + 1) cp) (k + 1) (upd1 gs k g) bss := by
  have lg : g < w1.heap.size := (Array.getElem?_eq_some_iff.1 hg).1
  refine ⟨?_, fun i hi => ?_⟩
  · rw [List.range_succ, List.map_append]
    have e1 : (List.range k).map (fun i => Value.slice (some ⟨upd1 gs k g i, 0, none⟩) 64 64) = (List.range k).map (fun i => Value.slice (some ⟨gs i, 0, none⟩) 64 64) := List.map_congr_left (fun i hi => by have := List.mem_range.1 hi; simp [upd1, show i ≠ k by omega])
    rw [e1]
    simpa [upd1] using hown
  · by_cases e : i = k
    · subst e
      have e2 : upd1 gs i g i = g := by simp [upd1]
      rw [e2]
      have nv : some g ≠ v.ownBlock := fun e5 => by have := (h.row.lt g e5.symm).2; omega
      refine ⟨by omega, ?_, ?_, ?_⟩
      · have := hgr.size; have := hb2.size; omega
      · exact (hgr.block g (Nat.lt_of_lt_of_le lg hb2.size) nv).trans ((hb2.block g lg).trans hg)
      · intro e5
        have e6 : g2 = g := by simpa [Value.ownBlock] using e5
        rcases hat with h6 | h6
        · exact nv (by rw [h6, e6])
        · have := hb2.size; omega
    · have e2 : upd1 gs k g i = gs i := by simp [upd1, e]
      rw [e2]
      obtain ⟨h1, h2, h3, h4⟩ := h.each i (by omega)
      have l1 : gs i < w1.heap.size := Nat.lt_of_lt_of_le h2 hb1.size
      refine ⟨h1, ?_, ?_, ?_⟩
      · have := hgr.size; have := hb2.size; omega
      · exact (hgr.block _ (Nat.lt_of_lt_of_le l1 hb2.size) (fun e5 => h4 e5.symm)).trans ((hb2.block _ l1).trans ((hb1.block _ h2).trans h3))
      · intro e5
        have e6 : g2 = gs i := by simpa [Value.ownBlock] using e5
        rcases hat with h6 | h6
        · exact h4 (by rw [h6, e6])
        · have := hb2.size; omega

set_option maxRecDepth 100000 in
set_option maxHeartbeats 1000000 in
theorem all_any {w : World} {D : Nat} {s : Ds} {L : Nat → Prop} (h : Dsk w D s L) (hu : s.down = false) :
    Calls Try.prog 20 #[.pointer (some ⟨D, 0, none⟩)] w fun e w' => ∃ G cp gs, e = .returned (.slice (some ⟨G, 0, none⟩) s.n cp) ∧ Below w.heap.size w w' ∧ Lol w' w.heap.size (.slice (some ⟨G, 0, none⟩) s.n cp) s.n gs (over s.kept s.ws) := by
  obtain ⟨i0, hi, hz0, hz1, hz2⟩ := info_parts linfo
  have H := hide h
  have OK := h.ok
  have n1 := OK.lo
  have n2 := OK.hi
  clear h OK
  go_enter Try.func20, Try.ntmps20
  go_wp2_with fail
  go_loopw [3, 4] (fun l i wr => ∃ (k : Nat) (av : Option Addr) (cp : Nat) (gs : Nat → Nat), k ≤ s.n ∧ i = .int .i64 k ∧ l = .slice av k cp ∧ Hid (Below w.heap.size w wr) ∧ Hid (Lol wr w.heap.size (.slice av k cp) k gs (over s.kept s.ws))) (fun _ i _ => s.n - (intOf i).toNat)
  case atStart => exact ⟨0, none, 0, fun _ => 0, by omega, rfl, rfl, Below.refl _ _, ⟨World.ownsRow_nil _ _ _ _, fun i hi => absurd hi (by omega)⟩⟩
  case round =>
    obtain ⟨k, av, cp, gs, hk, rfl, rfl, HB, HL⟩ := hrel
    have D1 := hide (H.out.below HB.out)
    by_cases hlt : k < s.n
    · have i1 : (k : Int) < (s.n : Int) := by omega
      have RE : Hid (reachE s k = 0) := reach_ok hu hlt
      go_wp2_with fail
      refine (size_any D1.out).mono ?_
      rintro e w2 ⟨rfl, rfl⟩
      go_wp2_with fail
      refine (read_yes D1.out k RE.out hlt).mono ?_
      rintro e w3 ⟨rfl, hb3, hg3⟩
      have B3 := hide hb3
      have G3 := hide hg3
      have O3 := hide (row_same HL.out.row (fun j hj => hb3.block j (HL.out.row.lt j hj).2))
      clear hb3 hg3
      have NB : Hid (w.heap.size ≤ w2.heap.size) := HB.out.size
      have VL : Hid (([.slice (some ⟨w2.heap.size, 0, none⟩) 64 64] : List Value).length = 1 * 1) := rfl
      go_wp2_with (at_builtin; refine wpList_append_lies _ rfl (.tmp 21) (.tmp 23) 43 rfl w.heap.size 46 i0 (.slice none 0 0) 1 24 Try.underlying43 hi hz0 hz1 hz2 rfl (by omega) _ k _ rfl (O3.out.alloc _) ⟨w3.heap.size, 0, none⟩ 1 1 [.slice (some ⟨w2.heap.size, 0, none⟩) 64 64] rfl rfl (World.news_of_block (heap_alloc_new w3 _)) (by intro u hu; simp at hu; subst hu; rfl) (by omega) (by unfold maxLen; omega) (by omega) (by have := B3.out.size; have := NB.out; simp; omega) (w3.heap.size + 1) (by simp) ?_)
      intro g2 cp2 w4 hown hgrow hat hlt4
      have PU := hide (HL.out.push B3.out G3.out (Nat.le_refl _) NB.out (below_alloc (Below.refl _ _) _) hown hgrow (by rcases hat with h5 | h5; exact .inl h5; exact .inr (by rw [h5]; simp)))
      have BW : Hid (Below w.heap.size w w4) := ((HB.out.trans (B3.out.mono NB.out)).alloc (by have := B3.out.size; have := NB.out; omega) _).grown hgrow (by have := B3.out.size; have := NB.out; simp; omega) (fun j hj => (HL.out.row.lt j hj).1)
      clear hown hgrow hat
      go_wp2_with fail
      go_roundw
      case rel => exact ⟨k + 1, _, _, _, by omega, by go_num, by simp, BW, PU⟩
      case measure => simp [intOf]; omega
    · obtain rfl : k = s.n := by omega
      have i1 : ¬ ((s.n : Int) < (s.n : Int)) := by omega
      go_wp2_with fail
      refine (size_any D1.out).mono ?_
      rintro e w2 ⟨rfl, rfl⟩
      obtain ⟨G, cp', ev, _, _⟩ := HL.out.row.form (by omega)
      obtain ⟨rfl, rfl⟩ : av = some ⟨G, 0, none⟩ ∧ cp = cp' := by simpa using ev
      clear ev
      go_wp2_with fail
      go_ret
      exact ⟨G, cp, gs, rfl, HB.out, HL.out⟩

theorem bytes_sq {a a' : Option Addr} {len cap cap' : Nat} {zs : List Int} {w : World} (h : Sq w a len cap zs) (h' : Sq w a' len cap' zs) (hm : len ≤ 140737488355328) :
    Calls Try.prog 28 #[.slice a len cap, .slice a' len cap'] w fun e w' => e = .returned (.bool true) ∧ ∃ n, w' = w.drewN n := by
  have C := hide (plain_sq h h' hm)
  clear h h'
  go_enter Try.func28, Try.ntmps28
  go_wp2_with fail
  refine C.out.mono ?_
  rintro e w1 ⟨rfl, n, rfl⟩
  go_wp2_with fail
  go_ret
  exact ⟨rfl, n, rfl⟩
theorem Lol.sq {w : World} {lo : Nat} {v : Value} {n : Nat} {gs : Nat → Nat} {bss : Nat → List Int} (h : Lol w lo v n gs bss) (hb : ∀ i, i < n → Blk (bss i)) {i : Nat} (hi : i < n) : Sq w (some ⟨gs i, 0, none⟩) 64 64 (bss i) := by
  have := sq_of_block (h.each i hi).2.2.1 (hb i hi).2
  rw [(hb i hi).1] at this
  exact this
theorem Lol.cell {w : World} {lo G cp : Nat} {n : Nat} {gs : Nat → Nat} {bss : Nat → List Int} (h : Lol w lo (.slice (some ⟨G, 0, none⟩) n cp) n gs bss) {i : Nat} (hi : i < n) : w.cell? ⟨G, i, none⟩ = some (.slice (some ⟨gs i, 0, none⟩) 64 64) := by
  have := h.row.cells (g := G) rfl i (.slice (some ⟨gs i, 0, none⟩) 64 64) (by simp [hi])
  rw [Addr.add_mid, Nat.zero_add] at this
  exact this
set_option maxRecDepth 100000 in
set_option maxHeartbeats 1000000 in
theorem same_any {w : World} {lo lo' G G' cp cp' n : Nat} {gs gs' : Nat → Nat} {bss : Nat → List Int} (h : Lol w lo (.slice (some ⟨G, 0, none⟩) n cp) n gs bss) (h' : Lol w lo' (.slice (some ⟨G', 0, none⟩) n cp') n gs' bss) (hb : ∀ i, i < n → Blk (bss i)) (hn : n ≤ 16384) :
    Calls Try.prog 45 #[.slice (some ⟨G, 0, none⟩) n cp, .slice (some ⟨G', 0, none⟩) n cp', .func (.func 28) #[] #[]] w fun e w' => e = .returned (.bool true) ∧ ∃ m, w' = w.drewN m := by
  have H := hide h
  have H' := hide h'
  have HB := hide hb
  clear h h' hb
  go_enter Try.func45, Try.ntmps45
  go_wp2_with fail
  go_loopw [7] (fun i wr => ∃ k m : Nat, k ≤ n ∧ i = .int .i64 k ∧ wr = w.drewN m) (fun i _ => n - (intOf i).toNat)
  case atStart => exact ⟨0, 0, Nat.zero_le _, rfl, rfl⟩
  case round =>
    obtain ⟨k, m, hk, rfl, rfl⟩ := hrel
    by_cases hlt : k < n
    · have c1 := H.out.cell hlt
      have c2 := H'.out.cell hlt
      have i1 : (k : Int) < (n : Int) := by omega
      have q1 := hide (H.out.sq HB.out hlt)
      have q2 := hide (H'.out.sq HB.out hlt)
      go_wp2_with fail
      go_region_held3 (fun u => u.cell? ⟨G, k, none⟩ = some (.slice (some ⟨gs k, 0, none⟩) 64 64) ∧ u.cell? ⟨G', k, none⟩ = some (.slice (some ⟨gs' k, 0, none⟩) 64 64)) (exact ⟨c1, c2⟩)
        ((go_at_call 28; refine (bytes_sq (w := w.drewN (m + 1)) (q1.out.drew _) (q2.out.drew _) (by omega)).mono ?_; rintro e w' ⟨rfl, m2, rfl⟩))
      go_wp2_with fail
      go_roundw
      case rel => exact ⟨k + 1, _, by omega, by go_num, rfl⟩
      case measure => simp [intOf]; omega
    · go_wp2_with fail
      go_ret
      exact ⟨rfl, m, rfl⟩
theorem lists_any {w : World} {lo lo' G G' cp cp' n : Nat} {gs gs' : Nat → Nat} {bss : Nat → List Int} (h : Lol w lo (.slice (some ⟨G, 0, none⟩) n cp) n gs bss) (h' : Lol w lo' (.slice (some ⟨G', 0, none⟩) n cp') n gs' bss) (hb : ∀ i, i < n → Blk (bss i)) (hn : n ≤ 16384) :
    Calls Try.prog 27 #[.slice (some ⟨G, 0, none⟩) n cp, .slice (some ⟨G', 0, none⟩) n cp'] w fun e w' => e = .returned (.bool true) ∧ ∃ m, w' = w.drewN m := by
  have C := hide (same_any h h' hb hn)
  clear h h' hb
  go_enter Try.func27, Try.ntmps27
  go_wp2_with fail
  refine C.out.mono ?_
  rintro e w1 ⟨rfl, n, rfl⟩
  go_wp2_with fail
  go_ret
  exact ⟨rfl, n, rfl⟩
end Go.Proofs.Ytfkclebngldjmaa
