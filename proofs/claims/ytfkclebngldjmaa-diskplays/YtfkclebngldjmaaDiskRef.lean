/- The document's disk in memory; its New, hit, Arm, Start. No condition. -/
import Derived.Test.YtfkclebngldjmaaDiskFall
namespace Go.Proofs.Ytfkclebngldjmaa
open Go.ChangeShapes Go.WideShapes Go.ChangeAt Go.RowKit B8 Dm
set_option linter.unusedVariables false

/-- the document's disk at D -/
structure Rk (w : World) (D gk ck : Nat) (av : Option Addr) (m cv : Nat) (s : Ds) : Prop where
  c0 : w.cell? ⟨D, 0, none⟩ = some (.slice (some ⟨gk, 0, none⟩) s.n ck)
  c1 : w.cell? ⟨D, 1, none⟩ = some (.slice av m cv)
  c2 : w.cell? ⟨D, 2, none⟩ = some (.int .i64 s.left)
  c3 : w.cell? ⟨D, 3, none⟩ = some (.bool s.down)
  f : ∀ o, w.frozen? ⟨D, o, none⟩ = false
  kept : Bks w gk s.n s.kept
  len : m = s.ws.length
  ws : w.ownsRow 0 82 65 (.slice av m cv) m (wcells s.ws)
  k1 : gk ≠ D
  v1 : (Value.slice av m cv).ownBlock ≠ some D
  v2 : (Value.slice av m cv).ownBlock ≠ some gk
  ok : Ok s
def ROwn (D gk : Nat) (v : Value) (k : Nat) : Prop := k = D ∨ k = gk ∨ v.ownBlock = some k
/-- the document's disk at D, all of whose blocks are in L -/
def Rsk (w : World) (D : Nat) (s : Ds) (L : Nat → Prop) : Prop := ∃ gk ck av m cv, Rk w D gk ck av m cv s ∧ ∀ k, ROwn D gk (.slice av m cv) k → L k

section
variable {w w' : World} {D gk ck m cv : Nat} {av : Option Addr} {s : Ds} {L : Nat → Prop}
theorem Rk.ltD (h : Rk w D gk ck av m cv s) : D < w.heap.size := World.block_lt_of_cell? w _ h.c0
theorem Rk.ltk (h : Rk w D gk ck av m cv s) : gk < w.heap.size := h.kept.lt h.ok.lo
theorem Rk.lt (h : Rk w D gk ck av m cv s) : ∀ k, ROwn D gk (.slice av m cv) k → k < w.heap.size := fun k hk => by
  rcases hk with rfl | rfl | hk
  · exact h.ltD
  · exact h.ltk
  · exact (h.ws.lt k hk).2
theorem Rk.same (h : Rk w D gk ck av m cv s) (hb : ∀ k, ROwn D gk (.slice av m cv) k → w'.heap[k]? = w.heap[k]?) : Rk w' D gk ck av m cv s := by
  have eD := hb D (.inl rfl)
  have c : ∀ o, w'.cell? ⟨D, o, none⟩ = w.cell? ⟨D, o, none⟩ := fun o => World.cell?_of_block (a := ⟨D, o, none⟩) eD
  exact ⟨(c 0).trans h.c0, (c 1).trans h.c1, (c 2).trans h.c2, (c 3).trans h.c3, fun o => (World.frozen?_of_block (a := ⟨D, o, none⟩) eD).trans (h.f o), h.kept.same (hb gk (.inr (.inl rfl))), h.len, row_same h.ws (fun k hk => hb k (.inr (.inr hk))), h.k1, h.v1, h.v2, h.ok⟩
theorem Rk.drew (h : Rk w D gk ck av m cv s) : Rk w.drew D gk ck av m cv s := h.same (fun _ _ => rfl)
theorem Rsk.lt (h : Rsk w D s L) : Rsk w D s (fun k => L k ∧ k < w.heap.size) := by
  obtain ⟨gk, ck, av, m, cv, h, hl⟩ := h
  exact ⟨gk, ck, av, m, cv, h, fun k hk => ⟨hl k hk, h.lt k hk⟩⟩
theorem Rsk.same (h : Rsk w D s L) (hb : ∀ k, k < w.heap.size → L k → w'.heap[k]? = w.heap[k]?) : Rsk w' D s L := by
  obtain ⟨gk, ck, av, m, cv, h, hk⟩ := h
  exact ⟨gk, ck, av, m, cv, h.same (fun k hj => hb k (h.lt k hj) (hk k hj)), hk⟩
theorem Rsk.far {L' : Nat → Prop} (h : Rsk w D s L) (hc : Chg L' w w') (hd : ∀ k, L k → ¬ L' k) : Rsk w' D s L := h.same (fun k hk hl => hc.block k hk (hd k hl))
theorem Rsk.below (h : Rsk w D s L) (hb : Below w.heap.size w w') : Rsk w' D s L := h.same (fun k hk _ => hb.block k hk)
theorem Rsk.drewN (h : Rsk w D s L) (n : Nat) : Rsk (w.drewN n) D s L := h.same (fun _ _ _ => rfl)
theorem Rk.setL (h : Rk w D gk ck av m cv s) (z : Int) (z0 : 0 ≤ z) (z1 : z ≤ 9223372036854775807) : Rk (w.setCell ⟨D, 2, none⟩ (.int .i64 z)) D gk ck av m cv { s with left := z } := by
  have o : ∀ k, k ≠ D → (w.setCell ⟨D, 2, none⟩ (.int .i64 z)).heap[k]? = w.heap[k]? := fun k hk => Below.heap_setCell _ _ _ _ hk
  refine ⟨?_, ?_, World.cell?_setCell_same _ _ _ h.c2, ?_, fun o => by rw [World.frozen?_setCell]; exact h.f o, h.kept.same (o gk h.k1), h.len, row_same h.ws (fun k hk => o k (fun e => by subst e; exact h.v1 hk)), h.k1, h.v1, h.v2, ⟨h.ok.lo, h.ok.hi, h.ok.kept, h.ok.ws, z0, z1⟩⟩
  · rw [World.cell?_setCell_other _ _ _ _ (by simp)]; exact h.c0
  · rw [World.cell?_setCell_other _ _ _ _ (by simp)]; exact h.c1
  · rw [World.cell?_setCell_other _ _ _ _ (by simp)]; exact h.c3
theorem Rk.setD (h : Rk w D gk ck av m cv s) (b : Bool) : Rk (w.setCell ⟨D, 3, none⟩ (.bool b)) D gk ck av m cv { s with down := b } := by
  have o : ∀ k, k ≠ D → (w.setCell ⟨D, 3, none⟩ (.bool b)).heap[k]? = w.heap[k]? := fun k hk => Below.heap_setCell _ _ _ _ hk
  refine ⟨?_, ?_, ?_, World.cell?_setCell_same _ _ _ h.c3, fun o => by rw [World.frozen?_setCell]; exact h.f o, h.kept.same (o gk h.k1), h.len, row_same h.ws (fun k hk => o k (fun e => by subst e; exact h.v1 hk)), h.k1, h.v1, h.v2, ⟨h.ok.lo, h.ok.hi, h.ok.kept, h.ok.ws, h.ok.left0, h.ok.left1⟩⟩
  · rw [World.cell?_setCell_other _ _ _ _ (by simp)]; exact h.c0
  · rw [World.cell?_setCell_other _ _ _ _ (by simp)]; exact h.c1
  · rw [World.cell?_setCell_other _ _ _ _ (by simp)]; exact h.c2
/-- what is kept has turned, and then nothing waits -/
theorem Rk.fin {wr : World} {K : Nat → List Int} (h : Rk w D gk ck av m cv s) (hc : Chg (· = gk) w wr) (hk : Bks wr gk s.n K) (hb : ∀ i, i < s.n → Blk (K i)) :
    Rk (wr.setCell ⟨D, 1, none⟩ (.slice none 0 0)) D gk ck none 0 0 { s with kept := K, ws := [] } := by
  have eD : wr.heap[D]? = w.heap[D]? := hc.block D h.ltD (fun e => h.k1 e.symm)
  have c : ∀ o, wr.cell? ⟨D, o, none⟩ = w.cell? ⟨D, o, none⟩ := fun o => World.cell?_of_block (a := ⟨D, o, none⟩) eD
  have o : ∀ k, k ≠ D → (wr.setCell ⟨D, 1, none⟩ (.slice none 0 0)).heap[k]? = wr.heap[k]? := fun k hk => Below.heap_setCell _ _ _ _ hk
  refine ⟨?_, World.cell?_setCell_same _ _ _ ((c 1).trans h.c1), ?_, ?_, fun o => ?_, hk.same (o gk h.k1), rfl, World.ownsRow_nil _ _ _ _, h.k1, by simp [Value.ownBlock], by simp [Value.ownBlock], ⟨h.ok.lo, h.ok.hi, hb, fun x hx => by simp at hx, h.ok.left0, h.ok.left1⟩⟩
  · rw [World.cell?_setCell_other _ _ _ _ (by simp), c]; exact h.c0
  · rw [World.cell?_setCell_other _ _ _ _ (by simp), c]; exact h.c2
  · rw [World.cell?_setCell_other _ _ _ _ (by simp), c]; exact h.c3
  · rw [World.frozen?_setCell, World.frozen?_of_block (w := w) (w' := wr) (a := ⟨D, o, none⟩) eD]; exact h.f o
end
/-- what a call on the document's disk leaves -/
def Rv (w : World) (D : Nat) (L : Nat → Prop) (s : Ds) (w' : World) : Prop := Chg L w w' ∧ Rsk w' D s (fun k => L k ∨ w.heap.size ≤ k)

theorem rbinfo : (Try.prog.info? 71).map (fun i => (i.zero.map (·.cells), i.size, i.bytes)) = some (some (Array.replicate 64 (Value.int .u8 0)), 64, 64) := by kernel_rfl
theorem rmake_blocks (k : Nat) (hk : k ≤ 16384) (w : World) : (Instr.makeSlice 35 (.int .i64 k) (.int .i64 k)).run Try.prog w = .ok (.slice (some ⟨w.heap.size, 0, none⟩) k k) (w.alloc (.cells (zrow k) 71)) := by
  have h := rbinfo
  cases hi : Try.prog.info? 71 with
  | none => rw [hi] at h; cases h
  | some i =>
    rw [hi] at h
    simp only [Option.map_some, Option.some.injEq, Prod.mk.injEq] at h
    obtain ⟨hz, hs, hb⟩ := h
    cases hz' : i.zero with
    | none => rw [hz'] at hz; cases hz
    | some z =>
      rw [hz'] at hz
      simp only [Option.map_some, Option.some.injEq] at hz
      have hr := run_make (P := Try.prog) w 35 71 i z Try.underlying35 hi hz' .i64 .i64 (k : Int) (k : Int) (by omega) (by omega) (by rw [hb]; omega) (by omega)
      rw [hr, hz, hs, Int.toNat_natCast, made_zrow]
set_option maxRecDepth 100000 in
theorem rnew_yes (n : Nat) (w : World) (h1 : 1 ≤ n) (h2 : n ≤ 16384) :
    Calls Try.prog 10 #[.int .i64 n] w fun e w' => ∃ D, e = .returned (.pointer (some ⟨D, 0, none⟩)) ∧ Below w.heap.size w w' ∧ Rsk w' D (newS n) (fun k => w.heap.size ≤ k) := by
  have mk := rmake_blocks n h2
  have i1 : (1 : Int) ≤ (n : Int) := by omega
  have i2 : (n : Int) ≤ 16384 := by omega
  go_enter Try.func10, Try.ntmps10
  go_wp2_with fail
  go_ret
  refine ⟨_, rfl, below_alloc (below_alloc (Below.refl _ _) _) _, w.heap.size, n, none, 0, 0, ?_, fun k hk => ?_⟩
  · have hD : ((w.alloc (.cells (zrow n) 71)).alloc (.cells #[.slice (some ⟨w.heap.size, 0, none⟩) n n, .slice none 0 0, .int .i64 0, .bool false] 38)).heap[w.heap.size + 1]? = some (.cells #[.slice (some ⟨w.heap.size, 0, none⟩) n n, .slice none 0 0, .int .i64 0, .bool false] 38 (0, 0)) := by
      have := heap_alloc_new (w.alloc (.cells (zrow n) 71)) (.cells #[.slice (some ⟨w.heap.size, 0, none⟩) n n, .slice none 0 0, .int .i64 0, .bool false] 38)
      simpa using this
    have c := fun j => cell_of_row _ (w.heap.size + 1) j _ _ _ hD
    refine ⟨by rw [c]; rfl, by rw [c]; rfl, by rw [c]; rfl, by rw [c]; rfl, fun o => frozen_of_row _ (w.heap.size + 1) o _ _ hD, bks_new (t := 71) ?_, rfl, World.ownsRow_nil _ _ _ _, by omega, by simp [Value.ownBlock], by simp [Value.ownBlock], newS_ok h1 h2⟩
    rw [heap_push_lt _ (by simp)]
    exact heap_alloc_new w _
  · rcases hk with rfl | rfl | hk
    · omega
    · omega
    · simp [Value.ownBlock] at hk
theorem rnew_no (z : Int) (w : World) (h : z < 1 ∨ 16384 < z) :
    Calls Try.prog 10 #[.int .i64 z] w fun e w' => e = .returned (.pointer none) ∧ w' = w := by
  by_cases h1 : z < 1
  · clear h
    go_enter Try.func10, Try.ntmps10
    go_wp2_with fail
    go_ret
    exact ⟨rfl, rfl⟩
  · have h2 : 16384 < z := by omega
    clear h
    go_enter Try.func10, Try.ntmps10
    go_wp2_with fail
    go_ret
    exact ⟨rfl, rfl⟩
section
variable {w : World} {D gk ck m cv : Nat} {av : Option Addr} {s : Ds} {L : Nat → Prop}
theorem rhit_any (h : Rk w D gk ck av m cv s) (hu : s.down = false) :
    Calls Try.prog 48 #[.pointer (some ⟨D, 0, none⟩)] w fun e w' => e = .returned (.bool (hitS s).down) ∧ Rk w' D gk ck av m cv (hitS s) ∧ Chg (· = D) w w' := by
  have c2 := h.c2
  have c3 := h.c3
  have f2 := h.f 2
  have f3 := h.f 3
  have z0 := h.ok.left0
  have z1 := h.ok.left1
  have H := hide h
  rw [hu] at c3
  by_cases h0 : s.left = 0
  · have HS : Hid (hitS s = s) := by show _ = _; unfold hitS; rw [if_pos h0]
    have HU := hide hu
    rw [h0] at c2
    clear h0 hu h
    go_enter Try.func48, Try.ntmps48
    go_wp2_with fail
    go_ret
    rw [HS.out, HU.out]
    exact ⟨rfl, H.out, Chg.refl _ _⟩
  · have HS : Hid (hitS s = { s with left := s.left - 1, down := decide (s.left - 1 = 0) }) := by show _ = _; unfold hitS; rw [if_neg h0]
    have hp : 0 < s.left := by omega
    have K := hide ((H.out.setL (s.left - 1) (by omega) (by omega)).setD (decide (s.left - 1 = 0)))
    have KC : Hid (Chg (· = D) w ((w.setCell ⟨D, 2, none⟩ (.int .i64 (s.left - 1))).setCell ⟨D, 3, none⟩ (.bool (decide (s.left - 1 = 0))))) := ((Chg.refl (· = D) w).setCell (p := ⟨D, 2, none⟩) (.inl rfl) _).setCell (p := ⟨D, 3, none⟩) (.inl rfl) _
    clear h hu h0
    by_cases h1 : s.left - 1 = 0
    · have hy : (s.left - 1 == 0) = true := by simpa using h1
      have hy2 : Hid (decide (s.left - 1 = 0) = true) := by show _ = _; simpa using h1
      rw [hy2.out] at K KC HS
      clear h1 hy2
      go_enter Try.func48, Try.ntmps48
      go_wp2_with fail
      go_ret
      rw [HS.out]
      exact ⟨rfl, K.out, KC.out⟩
    · have hy : (s.left - 1 == 0) = false := by simpa using h1
      have hy2 : Hid (decide (s.left - 1 = 0) = false) := by show _ = _; simpa using h1
      rw [hy2.out] at K KC HS
      clear h1 hy2
      go_enter Try.func48, Try.ntmps48
      go_wp2_with fail
      go_ret
      rw [HS.out]
      exact ⟨rfl, K.out, KC.out⟩
theorem rarm_any (h : Rsk w D s L) (n : Int) (n0 : -9223372036854775808 ≤ n) (n1 : n ≤ 9223372036854775807) :
    Calls Try.prog 31 #[.pointer (some ⟨D, 0, none⟩), .int .i64 n] w fun e w' => e = .returned (.int .i64 (armE s)) ∧ Rv w D L (armS s n) w' := by
  obtain ⟨gk, ck, av, m, cv, h, hl⟩ := h
  have c2 := h.c2
  have c3 := h.c3
  have f2 := h.f 2
  have H := hide h
  have HL := hide hl
  cases hd : s.down with
  | true =>
    rw [hd] at c3
    have HA : Hid (armE s = 40) := by show _ = _; unfold armE; rw [hd]; rfl
    have HV : Hid (armS s n = s) := by show _ = _; unfold armS; rw [hd]; rfl
    clear hd h hl
    go_enter Try.func31, Try.ntmps31
    go_wp2_with fail
    go_ret
    rw [HV.out, HA.out]
    exact ⟨rfl, Chg.refl _ _, gk, ck, av, m, cv, H.out, fun k hk => .inl (HL.out k hk)⟩
  | false =>
    rw [hd] at c3
    have HA : Hid (armE s = 0) := by show _ = _; unfold armE; rw [hd]; rfl
    have HV : Hid (armS s n = { s with left := if 0 < n then n else 0 }) := by show _ = _; unfold armS; rw [hd]; rfl
    clear hd h hl
    by_cases hp : 0 < n
    · rw [if_pos hp] at HV
      go_enter Try.func31, Try.ntmps31
      go_wp2_with fail
      go_ret
      rw [HV.out, HA.out]
      exact ⟨rfl, (Chg.refl _ _).setCell (.inl (HL.out D (.inl rfl))) _, gk, ck, av, m, cv, H.out.setL n (by omega) n1, fun k hk => .inl (HL.out k hk)⟩
    · rw [if_neg hp] at HV
      by_cases hq : n < 0
      · go_enter Try.func31, Try.ntmps31
        go_wp2_with fail
        go_ret
        rw [HV.out, HA.out]
        exact ⟨rfl, (Chg.refl _ _).setCell (.inl (HL.out D (.inl rfl))) _, gk, ck, av, m, cv, H.out.setL 0 (by omega) (by omega), fun k hk => .inl (HL.out k hk)⟩
      · obtain rfl : n = 0 := by omega
        clear hp hq
        go_enter Try.func31, Try.ntmps31
        go_wp2_with fail
        go_ret
        rw [HV.out, HA.out]
        exact ⟨rfl, (Chg.refl _ _).setCell (.inl (HL.out D (.inl rfl))) _, gk, ck, av, m, cv, H.out.setL 0 (by omega) (by omega), fun k hk => .inl (HL.out k hk)⟩
theorem rstart_any (h : Rsk w D s L) :
    Calls Try.prog 35 #[.pointer (some ⟨D, 0, none⟩)] w fun e w' => e = .returned (.tuple #[]) ∧ Rv w D L (startS s) w' := by
  obtain ⟨gk, ck, av, m, cv, h, hl⟩ := h
  have c1 := h.c1
  have c2 := h.c2
  have c3 := h.c3
  have f1 := h.f 1
  have f2 := h.f 2
  have f3 := h.f 3
  have HL := hide hl
  cases hd : s.down with
  | false =>
    rw [hd] at c3
    have e1 : Hid (startS s = { s with down := false }) := by show _ = _; unfold startS; rw [if_neg (by rw [hd]; simp)]; cases s; simp at hd; subst hd; rfl
    have H := hide (h.setD false)
    clear h hl hd
    go_enter Try.func35, Try.ntmps35
    go_wp2_with fail
    refine bodyPost_end (results_none rfl _ _ _) rfl ?_
    rw [e1.out]
    exact ⟨rfl, (Chg.refl _ _).setCell (.inl (HL.out D (.inl rfl))) _, gk, ck, av, m, cv, H.out, fun k hk => .inl (HL.out k hk)⟩
  | true =>
    rw [hd] at c3
    have e1 : Hid (startS s = { s with ws := [], left := 0, down := false }) := by show _ = _; unfold startS; rw [hd]; rfl
    have F := hide (((h.fin (Chg.refl _ w) h.kept h.ok.kept).setL 0 (by omega) (by omega)).setD false)
    clear h hl hd
    go_enter Try.func35, Try.ntmps35
    go_wp2_with fail
    refine bodyPost_end (results_none rfl _ _ _) rfl ?_
    rw [e1.out]
    refine ⟨rfl, (((Chg.refl L w).setCell (p := ⟨D, 1, none⟩) (.inl (HL.out D (.inl rfl))) _).setCell (p := ⟨D, 2, none⟩) (.inl (HL.out D (.inl rfl))) _).setCell (p := ⟨D, 3, none⟩) (.inl (HL.out D (.inl rfl))) _, gk, ck, none, 0, 0, F.out, fun k hk => .inl ?_⟩
    rcases hk with rfl | rfl | hk
    · exact HL.out _ (.inl rfl)
    · exact HL.out _ (.inr (.inl rfl))
    · simp [Value.ownBlock] at hk
end
end Go.Proofs.Ytfkclebngldjmaa
