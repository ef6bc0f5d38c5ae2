/- A packet laid behind the others of a landed net. No condition. -/
import Derived.Test.YtjbonklgklldmaaNetSmall
import Derived.Test.YtjbonklgklldmaaAppendWide
import Derived.Test.YtjbonklgklldmaaBuildOne
namespace Go.Proofs.Ytjbonklgklldmaa
open Go.ChangeShapes Go.WideShapes Go.ChangeAt Go.RowKit B8 Nm
set_option linter.unusedVariables false

def Lay.push (L : Lay) (g cap : Nat) (p : Pv) : Lay := { L with av := some ⟨g, 0, none⟩, m := L.m + 1, cv := cap, l := L.l ++ [p] }
theorem Lay.push_R {L : Lay} {g cap : Nat} {p : Pv} {k : Nat} (h : (L.push g cap p).R k) : L.R k ∨ ∃ ad, p.a = some ad ∧ ad.block = k := by
  obtain ⟨q, hq, ad, e, hk⟩ := h
  rcases List.mem_append.1 hq with hq | hq
  · exact .inl ⟨q, hq, ad, e, hk⟩
  · rw [List.mem_singleton.1 hq] at e
    exact .inr ⟨ad, e, hk⟩
theorem Lay.push_M {L : Lay} {g cap : Nat} {p : Pv} {k : Nat} (h : (L.push g cap p).M k) : k = L.N ∨ k = L.mb ∨ k = g := by
  rcases h with h | h | h
  · exact .inl h
  · exact .inr (.inl h)
  · exact .inr (.inr (by simp [Lay.v, Lay.push, Value.ownBlock] at h; exact h.symm))
theorem setCell_frozen (w : World) (a : Addr) (u : Value) (b : Addr) : (w.setCell a u).frozen? b = w.frozen? b := World.frozen?_setCell _ _ _ _
theorem Nt.pushed {w w3 : World} {L : Lay} {kk : Nat} {s : Ns} (h : Nt w L kk s) (hc : Chg (fun k => (Value.slice L.av L.m L.cv).ownBlock = some k) w w3) {g cap : Nat} {p : Pv}
    (hown : w3.ownsRow 0 33 3 (.slice (some ⟨g, 0, none⟩) (L.m + 1) cap) (L.m + 1) (pcells L.l ++ p.cells)) (hg : (Value.slice L.av L.m L.cv).ownBlock = some g ∨ w.heap.size ≤ g) (hp : p.In w3)
    (hpb : ∀ ad, p.a = some ad → (L.R ad.block ∨ w.heap.size ≤ ad.block) ∧ ad.block ≠ g) (hm : s.ps.length < 256) (hb : p.b.length ≤ 16384) :
    Mv w L kk { s with ps := s.ps ++ [p.pk] } (w3.setCell ⟨L.N, 1, none⟩ (.slice (some ⟨g, 0, none⟩) (L.m + 1) cap)) := by
  obtain ⟨w4, e4⟩ : ∃ w4, w4 = w3.setCell ⟨L.N, 1, none⟩ (.slice (some ⟨g, 0, none⟩) (L.m + 1) cap) := ⟨_, rfl⟩
  have hMR := h.dis
  have o4 : ∀ k, k ≠ L.N → w4.heap[k]? = w3.heap[k]? := fun k hk => by rw [e4]; exact Below.heap_setCell _ _ _ _ hk
  have s4 : w4.heap.size = w3.heap.size := by rw [e4]; simp [World.setCell]
  have nv : ∀ k, k < w.heap.size → (Value.slice L.av L.m L.cv).ownBlock ≠ some k → w3.heap[k]? = w.heap[k]? := fun k hk hn => hc.block k hk hn
  have eN := nv L.N h.ltN h.v1
  have c3 : ∀ o, w3.cell? ⟨L.N, o, none⟩ = w.cell? ⟨L.N, o, none⟩ := fun o => World.cell?_of_block (a := ⟨L.N, o, none⟩) eN
  have gN : g ≠ L.N := by
    rcases hg with hg | hg
    · exact fun e => h.v1 (e ▸ hg)
    · have := h.ltN; omega
  have RN : ∀ k, L.R k → k ≠ L.N := fun k hk e => hMR L.N (.inl rfl) (e ▸ hk)
  have pN : ∀ ad, p.a = some ad → ad.block ≠ L.N := fun ad e => by
    rcases (hpb ad e).1 with h1 | h1
    · exact RN _ h1
    · have := h.ltN; omega
  rw [← e4]
  have hch : Chg L.M w w4 := by
    rw [e4]
    exact (hc.mono (fun k _ hk => .inr (.inr hk))).setCell (p := ⟨L.N, 1, none⟩) (.inl (.inl rfl)) _
  refine ⟨hch, L.push g cap p, ⟨?_, ?_, ?_, fun o => ?_, ?_, ?_, ?_, ?_, ?_, ?_, ?_, ?_⟩, rfl, fun k hk => ?_, fun k hk => ?_⟩
  · show w4.cell? ⟨L.N, 0, none⟩ = _
    rw [e4, World.cell?_setCell_other _ _ _ _ (by simp), c3]; exact h.c0
  · show w4.cell? ⟨L.N, 1, none⟩ = _
    rw [e4]; exact World.cell?_setCell_same' _ _ _ (by rw [c3, h.c1]; rfl)
  · show w4.cell? ⟨L.N, 2, none⟩ = _
    rw [e4, World.cell?_setCell_other _ _ _ _ (by simp), c3]; exact h.c2
  · show w4.frozen? ⟨L.N, o, none⟩ = _
    rw [e4, setCell_frozen]
    exact (World.frozen?_of_block (a := ⟨L.N, o, none⟩) eN).trans (h.f o)
  · show w4.ownsRow 0 33 3 (.slice (some ⟨g, 0, none⟩) (L.m + 1) cap) (L.m + 1) (pcells (L.l ++ [p]))
    rw [pcells_append, show pcells [p] = p.cells by simp [pcells]]
    exact row_same hown (fun k hk => o4 k (by simp [Value.ownBlock] at hk; rw [← hk]; exact gN))
  · show L.m + 1 = (L.l ++ [p]).length
    simp [h.len]
  · show s.ps ++ [p.pk] = (L.l ++ [p]).map Pv.pk
    simp [h.ps]
  · intro q hq
    rcases List.mem_append.1 hq with hq | hq
    · have h1 := h.ins q hq
      refine h1.same (by rw [s4]; exact hc.size) (fun ad e => ?_)
      have hr : L.R ad.block := ⟨q, hq, ad, e, rfl⟩
      exact (o4 _ (RN _ hr)).trans (nv _ (h1.2 ad e) (fun e2 => hMR _ (.inr (.inr e2)) hr))
    · rw [List.mem_singleton.1 hq]
      exact hp.same (by rw [s4]; exact Nat.le_refl _) (fun ad e => o4 _ (pN ad e))
  · exact h.cuts.same ((o4 L.mb h.mN).trans (nv _ h.cuts.lt h.vM))
  · show (Value.slice (some ⟨g, 0, none⟩) (L.m + 1) cap).ownBlock ≠ some L.N
    simp [Value.ownBlock]
    exact gN
  · intro k hk hr
    rcases Lay.push_R hr with hr1 | ⟨ad, e, rfl⟩
    · rcases Lay.push_M hk with rfl | rfl | rfl
      · exact hMR _ (.inl rfl) hr1
      · exact hMR _ (.inr (.inl rfl)) hr1
      · rcases hg with hg | hg
        · exact hMR _ (.inr (.inr hg)) hr1
        · have := h.ltR _ hr1; omega
    · rcases Lay.push_M hk with h1 | h1 | h1
      · exact pN ad e h1
      · rcases (hpb ad e).1 with h2 | h2
        · exact hMR _ (.inr (.inl h1)) h2
        · have := h.cuts.lt; omega
      · exact (hpb ad e).2 h1
  · refine ⟨h.ok.lo, h.ok.hi, by simp; omega, fun q hq => ?_⟩
    rcases List.mem_append.1 hq with hq | hq
    · exact h.ok.body q hq
    · rw [List.mem_singleton.1 hq]
      exact hb
  · rcases Lay.push_M hk with h1 | h1 | h1
    · exact .inl (.inl h1)
    · exact .inl (.inr (.inl h1))
    · subst h1
      rcases hg with hg | hg
      · exact .inl (.inr (.inr hg))
      · exact .inr hg
  · rcases Lay.push_R hk with h1 | ⟨ad, e, rfl⟩
    · exact .inl h1
    · exact (hpb ad e).1
/-- a net and a step behind what only made new memory -/
theorem Mv.behind {w w1 w2 : World} {L : Lay} {kk : Nat} {s : Ns} (hb : Below w.heap.size w w1) (h : Mv w1 L kk s w2) (hl : ∀ k, L.M k → k < w.heap.size) : Mv w L kk s w2 := by
  obtain ⟨hc, L', h1, h2, h3, h4⟩ := h
  exact ⟨(Chg.of_below hb L.M).trans hc (fun k _ hk => hk), L', h1, h2, fun k hk => (h3 k hk).imp id (fun h => Nat.le_trans hb.size h), fun k hk => (h4 k hk).imp id (fun h => Nat.le_trans hb.size h)⟩
end Go.Proofs.Ytjbonklgklldmaa
