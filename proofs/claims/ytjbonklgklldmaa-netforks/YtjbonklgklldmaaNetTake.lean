/- The landed net's remove, Drop and Deliver. No condition. -/
import Derived.Test.YtjbonklgklldmaaNetDelete
import Derived.Test.YtjbonklgklldmaaNetDouble
namespace Go.Proofs.Ytjbonklgklldmaa
open Go.ChangeShapes Go.WideShapes Go.ChangeAt Go.RowKit B8 Nm
set_option linter.unusedVariables false

/-- what a call leaves that makes no block that may be written -/
def MvS (w : World) (L : Lay) (kk : Nat) (s : Ns) (w' : World) : Prop :=
  Chg L.M w w' ∧ ∃ L', Nt w' L' kk s ∧ L'.N = L.N ∧ (∀ k, L'.M k → L.M k) ∧ (∀ k, L'.R k → L.R k)
theorem MvS.mv {w w' : World} {L : Lay} {kk : Nat} {s : Ns} (h : MvS w L kk s w') : Mv w L kk s w' := by
  obtain ⟨h1, L', h2, h3, h4, h5⟩ := h
  exact ⟨h1, L', h2, h3, fun k hk => .inl (h4 k hk), fun k hk => .inl (h5 k hk)⟩
theorem MvS.stay {w : World} {L : Lay} {kk : Nat} {s : Ns} (h : Nt w L kk s) : MvS w L kk s w := ⟨Chg.refl _ _, L, h, rfl, fun k hk => hk, fun k hk => hk⟩
theorem Nt.taken {w w2 : World} {L : Lay} {kk : Nat} {s : Ns} (h : Nt w L kk s) {g k r : Nat} (ea : L.av = some ⟨g, 0, none⟩) (em : L.m = k + 1 + r)
    (hrow : w2.ownsRow 0 33 3 (.slice (some ⟨g, 0, none⟩) (k + r) L.cv) (k + r) (pcells (L.l.eraseIdx k))) (hg : w.grownBy w2 (some g)) :
    MvS w L kk { s with ps := s.ps.eraseIdx k } (w2.setCell ⟨L.N, 1, none⟩ (.slice (some ⟨g, 0, none⟩) (k + r) L.cv)) := by
  obtain ⟨w4, e4⟩ : ∃ w4, w4 = w2.setCell ⟨L.N, 1, none⟩ (.slice (some ⟨g, 0, none⟩) (k + r) L.cv) := ⟨_, rfl⟩
  have eo : (Value.slice L.av L.m L.cv).ownBlock = some g := by rw [ea]; rfl
  have gN : g ≠ L.N := fun e => h.v1 (e ▸ eo)
  have o4 : ∀ k, k ≠ L.N → w4.heap[k]? = w2.heap[k]? := fun k hk => by rw [e4]; exact Below.heap_setCell _ _ _ _ hk
  have s4 : w4.heap.size = w2.heap.size := by rw [e4]; simp [World.setCell]
  have nv : ∀ k, k < w.heap.size → k ≠ g → w2.heap[k]? = w.heap[k]? := fun k hk hn => hg.block k hk (fun e => hn (Option.some.inj e))
  have eN := nv L.N h.ltN (Ne.symm gN)
  have c3 : ∀ o, w2.cell? ⟨L.N, o, none⟩ = w.cell? ⟨L.N, o, none⟩ := fun o => World.cell?_of_block (a := ⟨L.N, o, none⟩) eN
  rw [← e4]
  have hch : Chg L.M w w4 := by
    rw [e4]
    exact ((Chg.refl L.M w).grown hg (fun k hk => .inl (.inr (.inr (eo.trans hk))))).setCell (p := ⟨L.N, 1, none⟩) (.inl (.inl rfl)) _
  have hkl : k < L.l.length := by have := h.len; omega
  have hR : ∀ j, Lay.R { L with m := k + r, l := L.l.eraseIdx k } j → L.R j := fun j ⟨q, hq, ad, e, hj⟩ => ⟨q, List.mem_of_mem_eraseIdx hq, ad, e, hj⟩
  have hM : ∀ j, Lay.M { L with m := k + r, l := L.l.eraseIdx k } j → L.M j := fun j hj => by
    rcases hj with hj | hj | hj
    · exact .inl hj
    · exact .inr (.inl hj)
    · refine .inr (.inr ?_)
      simp only [Lay.v, ea, Value.ownBlock] at hj ⊢
      exact hj
  have RN : ∀ k, L.R k → k ≠ L.N := fun k hk e => h.dis L.N (.inl rfl) (e ▸ hk)
  have RG : ∀ k, L.R k → k ≠ g := fun k hk e => h.dis g (.inr (.inr eo)) (e ▸ hk)
  refine ⟨hch, { L with m := k + r, l := L.l.eraseIdx k }, ⟨?_, ?_, ?_, fun o => ?_, ?_, ?_, ?_, ?_, ?_, ?_, ?_, ?_⟩, rfl, hM, hR⟩
  · show w4.cell? ⟨L.N, 0, none⟩ = _
    rw [e4, World.cell?_setCell_other _ _ _ _ (by simp), c3]; exact h.c0
  · show w4.cell? ⟨L.N, 1, none⟩ = some (.slice L.av (k + r) L.cv)
    rw [e4, ea]; exact World.cell?_setCell_same' _ _ _ (by rw [c3, h.c1]; rfl)
  · show w4.cell? ⟨L.N, 2, none⟩ = _
    rw [e4, World.cell?_setCell_other _ _ _ _ (by simp), c3]; exact h.c2
  · show w4.frozen? ⟨L.N, o, none⟩ = _
    rw [e4, setCell_frozen]
    exact (World.frozen?_of_block (a := ⟨L.N, o, none⟩) eN).trans (h.f o)
  · show w4.ownsRow 0 33 3 (.slice L.av (k + r) L.cv) (k + r) (pcells (L.l.eraseIdx k))
    rw [ea]
    exact row_same hrow (fun k hk => o4 k (by simp [Value.ownBlock] at hk; rw [← hk]; exact gN))
  · show k + r = (L.l.eraseIdx k).length
    rw [List.length_eraseIdx_of_lt hkl]
    have := h.len
    omega
  · show s.ps.eraseIdx k = (L.l.eraseIdx k).map Pv.pk
    rw [h.ps]
    simp [List.eraseIdx_eq_take_drop_succ]
  · intro q hq
    have hq' := List.mem_of_mem_eraseIdx hq
    have h1 := h.ins q hq'
    refine h1.same (by rw [s4]; exact hg.size) (fun ad e => ?_)
    have hr : L.R ad.block := ⟨q, hq', ad, e, rfl⟩
    exact (o4 _ (RN _ hr)).trans (nv _ (h1.2 ad e) (RG _ hr))
  · exact h.cuts.same ((o4 L.mb h.mN).trans (nv _ h.cuts.lt (fun e => h.vM (by rw [e]; exact eo))))
  · show (Value.slice L.av (k + r) L.cv).ownBlock ≠ some L.N
    rw [ea]
    simp [Value.ownBlock]
    exact gN
  · exact fun j hj hr => h.dis j (hM j hj) (hR j hr)
  · exact ⟨h.ok.lo, h.ok.hi, Nat.le_trans (List.length_eraseIdx_le _ _) h.ok.most, fun q hq => h.ok.body q (List.mem_of_mem_eraseIdx hq)⟩
theorem remove_any {w : World} {L : Lay} {kk : Nat} {s : Ns} (h : Nt w L kk s) (k : Nat) (hk : k < s.ps.length) :
    Calls Try.prog 26 #[.pointer (some ⟨L.N, 0, none⟩), .int .i64 k] w fun e w' => e = .returned (.tuple #[]) ∧ MvS w L kk { s with ps := s.ps.eraseIdx k } w' := by
  have hl : L.m = s.ps.length := by rw [h.ps, List.length_map]; exact h.len
  have hm := h.ok.most
  obtain ⟨g, p, ea, eo, _, _, _, _, _, _⟩ := h.at (k := k) (by omega)
  obtain ⟨r, er⟩ : ∃ r, L.m = k + 1 + r := ⟨L.m - (k + 1), by omega⟩
  have row := h.row
  rw [ea, er] at row
  have D := hide (delete_any (k := k) (r := r) row (by rw [← h.len]; exact er) (by omega) L.m er)
  have hw : IntKind.i64.wrap ((k : Int) + 1) = (k : Int) + 1 := by rw [IntKind.wrap_i64]; omega
  have c1 : w.cell? ⟨L.N, 1, none⟩ = some (.slice (some ⟨g, 0, none⟩) L.m L.cv) := by rw [← ea]; exact h.c1
  have H := hide h
  have EA := hide ea
  have EO := hide eo
  have ER := hide er
  clear h hl hm ea eo er row hk
  go_enter Try.func26, Try.ntmps26
  go_wp2_with fail
  refine D.out.mono ?_
  rintro e w2 ⟨rfl, hr2, hg2⟩
  have gN : g ≠ L.N := fun e => H.out.v1 (e ▸ EO.out)
  have d1 : w2.cell? ⟨L.N, 1, none⟩ = some (.slice (some ⟨g, 0, none⟩) L.m L.cv) := hg2.cell c1 (fun e => gN (Option.some.inj e).symm)
  have f1 : w2.frozen? ⟨L.N, 1, none⟩ = false := (World.frozen?_of_block (a := ⟨L.N, 1, none⟩) (hg2.block _ H.out.ltN (fun e => gN (Option.some.inj e).symm))).trans (H.out.f 1)
  have FIN := hide (H.out.taken EA.out ER.out hr2 hg2)
  clear hr2 hg2 gN
  go_wp2_with fail
  refine bodyPost_end (results_none rfl _ _ _) rfl ?_
  exact ⟨rfl, FIN.out⟩
theorem take_eq {s : Ns} {k : Nat} (h : reachE s k = 0) : takeS s k = { s with ps := s.ps.eraseIdx k } := by unfold takeS; rw [if_pos h]; rfl
theorem drop_any {w : World} {L : Lay} {kk : Nat} {s : Ns} (h : Nt w L kk s) (i : Int) :
    Calls Try.prog 12 #[.pointer (some ⟨L.N, 0, none⟩), .int .i64 i] w fun e w' => e = .returned (.int .i64 (reachE s i)) ∧ MvS w L kk (takeS s i) w' := by
  have C := hide (reach_net h i)
  have H := hide h
  by_cases h0 : reachE s i = 0
  · obtain ⟨hi0, hi1⟩ := reach_lt h0
    obtain ⟨k, rfl⟩ : ∃ k : Nat, i = (k : Int) := ⟨i.toNat, by omega⟩
    have R := hide (remove_any h k (by simpa using hi1))
    rw [← take_eq h0] at R
    rw [h0] at C ⊢
    clear h h0 hi0 hi1
    go_enter Try.func12, Try.ntmps12
    go_wp2_with fail
    refine C.out.mono ?_
    rintro e w1 ⟨rfl, rfl⟩
    go_wp2_with fail
    refine R.out.mono ?_
    rintro e w2 ⟨rfl, hm⟩
    have HM := hide hm
    clear hm
    go_wp2_with fail
    go_ret
    exact ⟨rfl, HM.out⟩
  · have e2 : Hid (takeS s i = s) := by show _ = _; unfold takeS; rw [if_neg h0]
    have hx : (reachE s i == 0) = false := by simpa using h0
    have hx2 : (reachE s i = 0) = False := by simpa using h0
    rw [e2.out]
    generalize reachE s i = r at *
    clear h h0
    go_enter Try.func12, Try.ntmps12
    go_wp2_with fail
    refine C.out.mono ?_
    rintro e w1 ⟨rfl, rfl⟩
    go_wp2_with fail
    go_ret
    exact ⟨rfl, MvS.stay H.out⟩
end Go.Proofs.Ytjbonklgklldmaa
