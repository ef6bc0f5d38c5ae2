/- The landed net's Deliver. No condition. -/
import Derived.Test.YtjbonklgklldmaaNetTake
namespace Go.Proofs.Ytjbonklgklldmaa
open Go.ChangeShapes Go.WideShapes Go.ChangeAt Go.RowKit B8 Nm
set_option linter.unusedVariables false

theorem results_cell_tmp' {P : Program} {fn : Func} {p q : Tmp} {ty : TypeId} (h : fn.results = #[.cell p ty, .tmp q]) (tmps : Array Value) (w : World) (g : Nat) (t : TypeId) (cs : Array Value) (fr : Nat × Nat) (d : TypeDesc) (x : Value)
    (hp : tmps.getD p undef = .pointer (some ⟨g, 0, none⟩)) (hq : tmps.getD q undef = x) (hg : w.heap[g]? = some (.cells cs t fr))
    (hu : P.underlying ty = some d) (hd : (match d with | .struct _ | .array _ _ => true | _ => false) = true) (hi : (P.info? ty).map (·.size) = some cs.size) :
    (results fn tmps).run P w = .ok (.tuple #[.agg cs, x]) w := by
  have hp' : tmps[p]?.getD undef = .pointer (some ⟨g, 0, none⟩) := by simpa using hp
  have hq' : tmps[q]?.getD undef = x := by simpa using hq
  simp [results, h, hp', hq', asAddr, run_loadVar_row w g t ty cs fr d hg hu hd hi]
theorem MvS.around {w w3 w4 w5 : World} {L : Lay} {kk : Nat} {s0 s : Ns} (h : Nt w L kk s0) (hb : Below w.heap.size w w3) (m : MvS w3 L kk s w4) (hb2 : Below w.heap.size w4 w5) : MvS w L kk s w5 := by
  obtain ⟨hc, L', h1, h2, h3, h4⟩ := m
  refine ⟨⟨hb2.os.trans (hc.os.trans hb.os), hb2.tape.trans (hc.tape.trans hb.tape), hb2.output.trans (hc.output.trans hb.output), Nat.le_trans hb.size (Nat.le_trans hc.size hb2.size), fun k hk hn => (hb2.block k hk).trans ((hc.block k (Nat.lt_of_lt_of_le hk hb.size) hn).trans (hb.block k hk))⟩, L', h1.same hb2.size (fun k hk => hb2.block k ?_), h2, h3, h4⟩
  rcases hk with hk | hk
  · exact h.lt k (h3 k hk)
  · exact h.ltR k (h4 k hk)
/-- the packet that is handed out: its memory is new -/
structure Out (w w' : World) (p : Pv) (x : Pk) : Prop where
  pk : p.pk = x
  ins : p.In w'
  new : ∀ ad, p.a = some ad → w.heap.size ≤ ad.block
def Pv.val (p : Pv) : Value := .agg #[.int .i64 p.f, .int .i64 p.t, .slice p.a p.n p.cp]
def zPv : Pv := ⟨0, 0, none, 0, 0, []⟩
theorem out_zero (w w' : World) : Out w w' zPv zPk := ⟨rfl, ⟨⟨rfl, Nat.le_refl _, fun _ => rfl, fun h => absurd h (by simp [zPv]), wfs_nil⟩, fun ad e => by simp [zPv] at e⟩, fun ad e => by simp [zPv] at e⟩
set_option maxRecDepth 100000 in
set_option maxHeartbeats 1000000 in
theorem deliver_any {w : World} {L : Lay} {kk : Nat} {s : Ns} (h : Nt w L kk s) (i : Int) :
    Calls Try.prog 11 #[.pointer (some ⟨L.N, 0, none⟩), .int .i64 i] w fun e w' => ∃ p : Pv, e = .returned (.tuple #[.agg #[.int .i64 p.f, .int .i64 p.t, .slice p.a p.n p.cp], .int .i64 (reachE s i)]) ∧ Out w w' p (takeP s i) ∧ MvS w L kk (takeS s i) w' := by
  have B1 : Hid (Below w.heap.size w (w.alloc (.cells #[.int .i64 0, .int .i64 0, .slice none 0 0] 33))) := below_alloc (Below.refl _ _) _
  have H := hide h
  have H1 := hide (h.below B1.out)
  have C := hide (reach_net H1.out i)
  by_cases h0 : reachE s i = 0
  · obtain ⟨hi0, hi1⟩ := reach_lt h0
    obtain ⟨k, rfl⟩ : ∃ k : Nat, i = (k : Int) := ⟨i.toNat, by omega⟩
    have hk : k < s.ps.length := by simpa using hi1
    have hl : L.m = s.ps.length := by rw [h.ps, List.length_map]; exact h.len
    obtain ⟨g, p, ea, eo, hp1, hp2, hp3, k0, k1, k2⟩ := H1.out.at (k := k) (by omega)
    have HT : Hid (takeS s k = { s with ps := s.ps.eraseIdx k }) := take_eq h0
    have HP : Hid (takeP s k = p.pk) := by show _ = _; unfold takeP; rw [if_pos h0, List.getD, show (k : Int).toNat = k by omega, hp3]; rfl
    have P1 := hide (H1.out.ins p hp2)
    have hn : p.n ≤ 140737488351232 := by
      have h1 := h.ok.body p.pk (by rw [h.ps]; exact List.mem_map.2 ⟨p, hp2, rfl⟩)
      have h2 := P1.out.1.length
      have h3 : p.b.length ≤ 16384 := h1
      omega
    have CO := hide (own_any P1.out.1 hn p.f p.t)
    have c1 : (w.alloc (.cells #[.int .i64 0, .int .i64 0, .slice none 0 0] 33)).cell? ⟨L.N, 1, none⟩ = some (.slice (some ⟨g, 0, none⟩) L.m L.cv) := by rw [← ea]; exact H1.out.c1
    have b1 : (0 : Int) ≤ k := by omega
    have b2 : (k : Int) < L.m := by omega
    have HK := hide hk
    rw [h0] at C ⊢
    rw [HP.out, HT.out]
    have R0 : Hid ((w.alloc (.cells #[.int .i64 0, .int .i64 0, .slice none 0 0] 33)).heap[w.heap.size]? = some (.cells #[.int .i64 0, .int .i64 0, .slice none 0 0] 33)) := heap_alloc_new w _
    have S0 : Hid ((w.alloc (.cells #[.int .i64 0, .int .i64 0, .slice none 0 0] 33)).heap.size = w.heap.size + 1) := by show _ = _; simp
    clear h h0 hi0 hi1 hk hl ea eo hp1 hp2 hp3 hn
    go_enter Try.func11, Try.ntmps11
    go_wp2_with fail
    refine C.out.mono ?_
    rintro e w1 ⟨rfl, rfl⟩
    go_wp2_with fail
    refine CO.out.mono ?_
    rintro e w2 ⟨g0, rfl, hg1, hg2, ho2, hb2⟩
    have B2 := hide (below_step B1.out hb2)
    have O2 : Hid (Owned w2 g0 p.n p.b ∧ w.heap.size ≤ g0 ∧ g0 < w2.heap.size) := ⟨ho2, by have := B1.out.size; omega, hg2⟩
    have R2 := hide ((hb2.block _ (by rw [S0.out]; omega)).trans R0.out)
    have LT2 : Hid (w.heap.size < w2.heap.size) := by show _ < _; have := hb2.size; rw [S0.out] at this; omega
    obtain ⟨w3, e3⟩ : ∃ w3, w3 = w2.alloc (.cells #[.int .i64 p.f, .int .i64 p.t, .slice (some ⟨g0, 0, none⟩) p.n p.n] 33) := ⟨_, rfl⟩
    have B3 : Hid (Below w.heap.size w w3) := by rw [e3]; exact below_alloc B2.out _
    have R3 : Hid (w3.heap[w.heap.size]? = some (.cells #[.int .i64 0, .int .i64 0, .slice none 0 0] 33)) := by rw [e3]; exact (Below.heap_alloc _ _ _ LT2.out).trans R2.out
    have Q3 : Hid (w3.heap[w2.heap.size]? = some (.cells #[.int .i64 p.f, .int .i64 p.t, .slice (some ⟨g0, 0, none⟩) p.n p.n] 33)) := by rw [e3]; exact heap_alloc_new w2 _
    have O3 : Hid (Owned w3 g0 p.n p.b ∧ w.heap.size ≤ g0 ∧ g0 < w3.heap.size) := ⟨⟨by rw [e3]; exact (Below.heap_alloc _ _ _ O2.out.2.2).trans O2.out.1.row, O2.out.1.len, O2.out.1.wf⟩, O2.out.2.1, by rw [e3]; have := O2.out.2.2; simp; omega⟩
    have S3 : Hid (w3.heap.size = w2.heap.size + 1) := by rw [e3]; show _ = _; simp
    have H3 := hide (H.out.below B3.out)
    have RM := hide (remove_any H3.out k HK.out)
    rw [e3] at RM
    have E3 := hide e3
    clear hg1 hg2 ho2 hb2 c1 k0 k1 k2 e3 O2 R2
    go_wp2_with fail
    refine RM.out.mono ?_
    rintro e w4 ⟨rfl, hm4⟩
    rw [← E3.out] at hm4
    have far : ∀ q, w.heap.size ≤ q → q < w3.heap.size → w4.heap[q]? = w3.heap[q]? := fun q h1 h2 => hm4.1.block q h2 (fun hq => by have := H.out.lt q hq; omega)
    have R4 : Hid (w4.heap[w.heap.size]? = some (.cells #[.int .i64 0, .int .i64 0, .slice none 0 0] 33)) := (far _ (Nat.le_refl _) (by have := LT2.out; rw [S3.out]; omega)).trans R3.out
    have Q4 : Hid (w4.heap[w2.heap.size]? = some (.cells #[.int .i64 p.f, .int .i64 p.t, .slice (some ⟨g0, 0, none⟩) p.n p.n] 33)) := (far _ (Nat.le_of_lt LT2.out) (by rw [S3.out]; omega)).trans Q3.out
    have O4 : Hid (Owned w4 g0 p.n p.b ∧ w.heap.size ≤ g0 ∧ g0 < w4.heap.size) := ⟨⟨(far _ O3.out.2.1 O3.out.2.2).trans O3.out.1.row, O3.out.1.len, O3.out.1.wf⟩, O3.out.2.1, Nat.lt_of_lt_of_le O3.out.2.2 hm4.1.size⟩
    have GN : Hid (g0 ≠ w.heap.size) := fun e => by
      have h1 := O4.out.1.row
      rw [e, R4.out] at h1
      simp at h1
    have M4 := hide hm4
    have SZ : Hid ((#[.int .i64 0, .int .i64 0, .slice none 0 0] : Array Value).size = (#[.int .i64 p.f, .int .i64 p.t, .slice (some ⟨g0, 0, none⟩) p.n p.n] : Array Value).size) := rfl
    have ON : Hid ((#[.int .i64 p.f, .int .i64 p.t, .slice (some ⟨g0, 0, none⟩) p.n p.n] : Array Value).all (·.oneCell') = true) := by show _ = _; simp [Value.oneCell']
    clear hm4 far
    go_wp2_with (first | (refine wpList_load_row rfl 33 (.tmp 7) rfl w2.heap.size rfl 33 #[.int .i64 p.f, .int .i64 p.t, .slice (some ⟨g0, 0, none⟩) p.n p.n] (0, 0) _ Q4.out Try.underlying33 rfl pksize ?_) | (refine wpList_store_row rfl 33 (.tmp 4) (.tmp 26) rfl w.heap.size #[.int .i64 p.f, .int .i64 p.t, .slice (some ⟨g0, 0, none⟩) p.n p.n] rfl rfl 33 #[.int .i64 0, .int .i64 0, .slice none 0 0] R4.out pksize SZ.out ON.out ?_))
    refine bodyPost_ret (v := .tuple #[.agg #[.int .i64 p.f, .int .i64 p.t, .slice (some ⟨g0, 0, none⟩) p.n p.n], .int .i64 0]) ?r ?d ?_
    case r => exact results_cell_tmp' rfl _ _ w.heap.size 33 #[.int .i64 p.f, .int .i64 p.t, .slice (some ⟨g0, 0, none⟩) p.n p.n] (0, 0) _ (.int .i64 0) rfl rfl (setRow_heap _ _ _ _ _ _ R4.out) Try.underlying33 rfl pksize
    case d => rfl
    have O5 : Owned (w4.setRow w.heap.size #[.int .i64 p.f, .int .i64 p.t, .slice (some ⟨g0, 0, none⟩) p.n p.n]) g0 p.n p.b := ⟨(setRow_other _ _ _ _ GN.out).trans O4.out.1.row, O4.out.1.len, O4.out.1.wf⟩
    refine ⟨⟨p.f, p.t, some ⟨g0, 0, none⟩, p.n, p.n, p.b⟩, rfl, ⟨rfl, ⟨O5.sq, fun ad e => ?_⟩, fun ad e => ?_⟩, M4.out.around H.out B3.out (below_setRow (Below.refl _ _) (Nat.le_refl _) _)⟩
    · simp at e
      rw [← e, size_setRow]
      exact O4.out.2.2
    · simp at e
      rw [← e]
      exact O4.out.2.1
  · have e2 : Hid (takeS s i = s) := by show _ = _; unfold takeS; rw [if_neg h0]
    have e3 : Hid (takeP s i = zPk) := by show _ = _; unfold takeP; rw [if_neg h0]
    have hx : (reachE s i == 0) = false := by simpa using h0
    have hx2 : (reachE s i = 0) = False := by simpa using h0
    rw [e2.out, e3.out]
    generalize reachE s i = r at *
    clear h h0
    go_enter Try.func11, Try.ntmps11
    go_wp2_with fail
    refine C.out.mono ?_
    rintro e w1 ⟨rfl, rfl⟩
    go_wp2_with fail
    refine bodyPost_ret (v := .tuple #[.agg #[.int .i64 0, .int .i64 0, .slice none 0 0], .int .i64 r]) ?r ?d ?_
    case r => exact results_cell_tmp' rfl _ _ w.heap.size 33 #[.int .i64 0, .int .i64 0, .slice none 0 0] (0, 0) _ (.int .i64 r) rfl rfl (heap_alloc_new w _) Try.underlying33 rfl pksize
    case d => rfl
    exact ⟨zPv, rfl, out_zero _ _, (MvS.stay H.out).around H.out (Below.refl _ _) B1.out⟩
end Go.Proofs.Ytjbonklgklldmaa
