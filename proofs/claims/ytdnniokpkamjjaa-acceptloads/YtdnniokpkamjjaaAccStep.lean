/- The law folder's step: a call on both acceptors, the landed one and the document's. No condition. -/
import Derived.Test.YtdnniokpkamjjaaAccRefAcc
import Derived.Test.YtdnniokpkamjjaaAccVote
import Derived.Test.YtdnniokpkamjjaaAccRan
import Derived.Test.YtdnniokpkamjjaaOwn8
import Derived.Test.YtdnniokpkamjjaaAccShort
namespace Go.Proofs.Ytdnniokpkamjjaa
open Go.ChangeShapes Go.WideShapes Go.ChangeAt Go.RowKit B8 Am
set_option linter.unusedVariables false

/-- both acceptors, apart -/
structure Half (w : World) (N : Nat) (P Q : Nat → Prop) (A mb R : Nat) (s s' : As) : Prop where
  an : AcN w N P A mb s
  rf : Rf w Q R s'
  hR : N ≤ R
section
variable {w w' : World} {N : Nat} {P Q : Nat → Prop} {A mb R : Nat} {s s' t : As}
theorem Half.below (h : Half w N P Q A mb R s s') (hb : Below w.heap.size w w') : Half w' N P Q A mb R s s' := by
  obtain ⟨a, m, c, l, hr⟩ := h.rf
  exact ⟨h.an.below hb, ⟨a, m, c, l, hr.below hb⟩, h.hR⟩
theorem Half.neA (h : Half w N P Q A mb R s s') : A ≠ R := fun e => by
  obtain ⟨a, m, c, l, hr⟩ := h.rf
  have h1 := h.an.ac.row
  rw [e, hr.row] at h1
  simp at h1
theorem Half.neM (h : Half w N P Q A mb R s s') : mb ≠ R := fun e => by
  obtain ⟨a, m, c, l, hr⟩ := h.rf
  obtain ⟨es, ck, h1⟩ := h.an.ac.isMap
  rw [e, hr.row] at h1
  cases h1
theorem Half.landed (h : Half w N P Q A mb R s s') (hN : N ≤ w.heap.size) (hm : Mv w P A mb t w') : Half w' N P Q A mb R t s' ∧ Below N w w' := by
  obtain ⟨h1, h2⟩ := h.an.move hN hm
  obtain ⟨a, m, c, l, hr⟩ := h.rf
  refine ⟨⟨h1, ⟨a, m, c, l, hr.chg hm.1 (fun k hk => ⟨?_, h.an.ac.noV k hk, .inr (h.an.ac.noB k hk)⟩)⟩, h.hR⟩, h2⟩
  rcases hk with rfl | rfl
  · exact h.neA
  · exact h.neM
theorem Half.docs (h : Half w N P Q A mb R s s') (hN : N ≤ w.heap.size) (hm : RMv w Q R t w') : Half w' N P Q A mb R s t ∧ Below N w w' := by
  obtain ⟨hc, a, m, c, l, hr⟩ := hm
  obtain ⟨a0, m0, c0, l0, hr0⟩ := h.rf
  exact ⟨⟨⟨h.an.ac.chg hc (fun k hk => by rw [hk]; exact ⟨fun e => h.neA e.symm, fun e => h.neM e.symm, .inr hr0.noB⟩), h.an.hA, h.an.hM⟩, ⟨a, m, c, l, hr⟩, h.hR⟩, hc.below hN (fun k hk => by rw [hk]; exact h.hR)⟩
theorem Half.mono {P' : Nat → Prop} (h : Half w N P Q A mb R s s') (hp : ∀ k, P k → k < w.heap.size → P' k) : Half w N P' Q A mb R s s' := ⟨⟨h.an.ac.mono hp, h.an.hA, h.an.hM⟩, h.rf, h.hR⟩
/-- a block of bytes of neither is written -/
theorem Half.write (h : Half w N P Q A mb R s s') {G : Nat} (hc : Chg (fun k => k = G) w w') {cs : Array Value} (hg : w.heap[G]? = some (.cells cs 5 (0, 0))) (hP : ¬ P G) (hQ : ¬ Q G) : Half w' N P Q A mb R s s' := by
  obtain ⟨a, m, c, l, hr⟩ := h.rf
  refine ⟨⟨h.an.ac.chg hc (fun k hk => ?_), h.an.hA, h.an.hM⟩, ⟨a, m, c, l, hr.chg hc (fun k hk => ?_)⟩, h.hR⟩
  · subst hk
    refine ⟨fun e => ?_, fun e => ?_, .inl hP⟩
    · have := h.an.ac.row; rw [← e, hg] at this; simp at this
    · obtain ⟨es, ck, h1⟩ := h.an.ac.isMap
      rw [← e, hg] at h1
      cases h1
  · subst hk
    refine ⟨fun e => ?_, NoV.of_row hg (by decide), .inl hQ⟩
    have := hr.row; rw [← e, hg] at this; simp at this
end
def V5 (u : World) (N : Nat) (k : Int) (p : Vv) : Prop := u.cell? ⟨N, 0, none⟩ = some (.int .i64 k) ∧ u.cell? ⟨N, 1, none⟩ = some (.int .i64 p.s) ∧ u.cell? ⟨N, 2, none⟩ = some (.int .i64 p.r) ∧ u.cell? ⟨N, 3, none⟩ = some (.int .i64 p.n) ∧ u.cell? ⟨N, 4, none⟩ = some (.slice p.a p.m p.cp)
theorem V5.belowN {u u' : World} {N B : Nat} {k : Int} {p : Vv} (h : V5 u N k p) (hb : Below B u u') (hN : N < B) : V5 u' N k p :=
  ⟨(hb.cell hN).trans h.1, (hb.cell hN).trans h.2.1, (hb.cell hN).trans h.2.2.1, (hb.cell hN).trans h.2.2.2.1, (hb.cell hN).trans h.2.2.2.2⟩
theorem V5.chg {u u' : World} {N : Nat} {k : Int} {p : Vv} {M : Nat → Prop} (h : V5 u N k p) (hc : Chg M u u') (hn : ¬ M N) : V5 u' N k p := by
  have hl := World.block_lt_of_cell? _ _ h.1
  have c : ∀ o, u'.cell? ⟨N, o, none⟩ = u.cell? ⟨N, o, none⟩ := fun o => World.cell?_of_block (a := ⟨N, o, none⟩) (hc.block N hl hn)
  unfold V5
  rw [c, c, c, c, c]
  exact h
theorem V5.below {u u' : World} {N : Nat} {k : Int} {p : Vv} (h : V5 u N k p) (hb : Below u.heap.size u u') : V5 u' N k p := h.belowN hb (World.block_lt_of_cell? _ _ h.1)
theorem v5_new (w : World) (k : Int) (p : Vv) : V5 (w.alloc (.cells #[.int .i64 k, .int .i64 p.s, .int .i64 p.r, .int .i64 p.n, .slice p.a p.m p.cp] 33)) w.heap.size k p := by
  unfold V5
  simp
theorem prepL_mem {s : As} {r n f : Int} {v : Vt} (h : v ∈ prepL s r n f) : v ∈ s.vs := by
  unfold prepL at h
  split at h
  · exact (List.mem_filter.1 h).1
  · simp at h
set_option maxRecDepth 100000 in
set_option maxHeartbeats 2000000 in
theorem step_prep {w : World} {N : Nat} {P Q : Nat → Prop} {A mb R : Nat} {s : As} (h : Half w N P Q A mb R s s) (hN : N ≤ w.heap.size) (v : Vv) :
    Calls Try.prog 12 #[.pointer (some ⟨A, 0, none⟩), .pointer (some ⟨R, 0, none⟩), .agg #[.int .i64 1, .int .i64 v.s, .int .i64 v.r, .int .i64 v.n, .slice v.a v.m v.cp]] w fun e w' => e = .returned (.bool true) ∧ Below N w w' ∧ Half w' N P Q A mb R (prepS s v.r v.n) (prepS s v.r v.n) := by
  obtain ⟨K, eK⟩ : ∃ K, K = w.heap.size := ⟨_, rfl⟩
  obtain ⟨u, eu⟩ : ∃ u, u = w.alloc (.cells #[.int .i64 1, .int .i64 v.s, .int .i64 v.r, .int .i64 v.n, .slice v.a v.m v.cp] 33) := ⟨_, rfl⟩
  have BU : Hid (Below w.heap.size w u) := by rw [eu]; exact below_alloc (Below.refl _ _) _
  have X : Hid (V5 u K 1 v) := by rw [eu, eK]; exact v5_new w 1 v
  have H := hide (h.below BU.out)
  have NU : Hid (N ≤ u.heap.size) := Nat.le_trans hN BU.out.size
  have NK : Hid (¬ AM A mb K) := fun hk => by have := h.an.ac.lt K hk; omega
  have RK : Hid (K ≠ R) := fun e => by obtain ⟨a, m, c, l, hr⟩ := h.rf; have := hr.ltR; omega
  have OK := hide h.an.ac.ok
  have BN : Hid (Below N w u) := BU.out.mono hN
  have EU := hide eu
  have EK := hide eK
  obtain ⟨x0, x1, x2, x3, x4⟩ := X.out
  clear h eu eK
  go_enter Try.func12, Try.ntmps12
  go_wp2_with fail
  rw [← EU.out, ← EK.out]
  go_wp2_with fail
  refine (prepare_any H.out.an.ac v.r v.n v.s).mono ?_
  rintro e w1 ⟨a1, m1, c1, l1, rfl, hm1, ht1, hl1⟩
  have X1 : Hid (V5 w1 K 1 v) := X.out.chg hm1.1 NK.out
  have H1 := hide (H.out.landed NU.out hm1)
  have T1 := hide ht1
  have L1 := hide hl1
  have S1 : Hid (N ≤ w1.heap.size) := Nat.le_trans NU.out hm1.1.size
  clear hm1 ht1 hl1 x0 x1 x2 x3 x4
  obtain ⟨x0, x1, x2, x3, x4⟩ := X1.out
  go_wp2_with fail
  refine (rprepare_any H1.out.1.rf v.r v.n v.s).mono ?_
  rintro e w2 ⟨a2, m2, c2, l2, rfl, hm2, hv2, hl2⟩
  have H2 := hide (H1.out.1.docs S1.out hm2)
  have RV : Hid (NoV w1 R ∧ NoB w1 R) := by obtain ⟨a, m, c, l, hr⟩ := H1.out.1.rf; exact ⟨hr.noV, hr.noB⟩
  have V1 : Hid (Vl w2 u.heap.size (fun k => u.heap.size ≤ k) a1 m1 c1 l1) := T1.out.vl.chg hm2.1 (fun k hk => by rw [hk]; exact ⟨RV.out.1, .inr RV.out.2⟩)
  have LE : Hid (l1.map Vv.vt = l2.map Vv.vt) := by show _ = _; rw [L1.out, hl2]
  have SH : Hid (∀ p ∈ l1, p.m ≤ 140737488355328) := short_told OK.out.each (fun p hp => prepL_mem (r := v.r) (n := v.n) (f := v.s) (by rw [← L1.out]; exact List.mem_map.2 ⟨p, hp, rfl⟩)) V1.out.ins
  have M1 : Hid (m1 ≤ 9000000000000) := by
    show m1 ≤ 9000000000000
    have h1 := T1.out.vl.len
    have h2 : l1.length = (prepL s v.r v.n v.s).length := by rw [← L1.out]; simp
    have h3 : (prepL s v.r v.n v.s).length ≤ s.vs.length := by unfold prepL; split; exact List.length_filter_le _ _; simp
    have := length_le OK.out
    omega
  have CV := hide (votes_vl V1.out hv2 LE.out M1.out SH.out)
  clear hm2 hv2 hl2 x0 x1 x2 x3 x4
  go_wp2_with fail
  refine CV.out.mono ?_
  rintro e w3 ⟨rfl, hb3⟩
  have B3 := hide hb3
  clear hb3
  go_wp2_with fail
  go_ret
  exact ⟨by simp, (BN.out.trans (H1.out.2.trans H2.out.2)).trans (B3.out.mono (Nat.le_trans S1.out (H2.out.2.size))), H2.out.1.below B3.out⟩
end Go.Proofs.Ytdnniokpkamjjaa
