/- What Fork makes, and what its loop keeps. No condition. -/
import Derived.Test.YtjbonklgklldmaaNetClone
import Derived.Test.YtjbonklgklldmaaNetList
namespace Go.Proofs.Ytjbonklgklldmaa
open Go.ChangeShapes Go.WideShapes Go.ChangeAt Go.RowKit Go.Shelf B8 Nm
set_option linter.unusedVariables false

theorem Cuts.below' {w w' : World} {mb kk : Nat} {cuts : List (Int × Int)} (h : Cuts w mb kk cuts) (hb : Below w.heap.size w w') : Cuts w' mb kk cuts := h.same (hb.block mb h.lt)
/-- the fork as it is first made -/
structure Fk (w W : World) (B F mb kk n : Nat) (cuts : List (Int × Int)) : Prop where
  box : Boxed W B 23 (.pointer (some ⟨F, 0, none⟩))
  net : W.heap[F]? = some (.cells #[.int .i64 n, .slice none 0 0, .map (some mb)] 54)
  cuts : Cuts W mb kk cuts
  lo : w.heap.size ≤ B ∧ w.heap.size ≤ F ∧ w.heap.size ≤ mb
  below : Below w.heap.size w W
theorem fkA {w w2 : World} {kk n : Nat} {cuts : List (Int × Int)} (hx : Boxed w2 w.heap.size 23 (.pointer none)) (hf : Cuts w2 (w.heap.size + 1) kk cuts ∧ Below w.heap.size w w2 ∧ w.heap.size + 1 < w2.heap.size) :
    Fk w ((w2.alloc (.cells #[.int .i64 n, .slice none 0 0, .map (some (w.heap.size + 1))] 54)).setCell ⟨w.heap.size, 0, none⟩ (.pointer (some ⟨w2.heap.size, 0, none⟩))) w.heap.size w2.heap.size (w.heap.size + 1) kk n cuts := by
  obtain ⟨h1, h2, h3⟩ := hf
  refine ⟨(hx.alloc _).set _, (Below.heap_setCell _ _ _ _ (by simp; omega)).trans (heap_alloc_new w2 _), (h1.below' (below_alloc (Below.refl _ _) _)).same (Below.heap_setCell _ _ _ _ (by simp)), ⟨Nat.le_refl _, by omega, by omega⟩, (below_alloc h2 _).setCell (p := ⟨w.heap.size, 0, none⟩) (Nat.le_refl _) _⟩
theorem fkB {w w2 : World} {kk n : Nat} {cuts : List (Int × Int)} (hf : Cuts w2 w.heap.size kk cuts ∧ Below w.heap.size w w2 ∧ w.heap.size < w2.heap.size) :
    Fk w ((w2.alloc (.cells #[.pointer (some ⟨w2.heap.size + 1, 0, none⟩)] 23)).alloc (.cells #[.int .i64 n, .slice none 0 0, .map (some w.heap.size)] 54)) w2.heap.size (w2.heap.size + 1) w.heap.size kk n cuts := by
  obtain ⟨h1, h2, h3⟩ := hf
  refine ⟨(Boxed.new w2 _ _).alloc _, ?_, h1.below' (below_alloc (below_alloc (Below.refl _ _) _) _), ⟨by omega, by omega, Nat.le_refl _⟩, below_alloc (below_alloc h2 _) _⟩
  have := heap_alloc_new (w2.alloc (.cells #[.pointer (some ⟨w2.heap.size + 1, 0, none⟩)] 23)) (.cells #[.int .i64 n, .slice none 0 0, .map (some w.heap.size)] 54)
  rw [World.size_alloc] at this
  exact this
theorem fkC {w w2 : World} {kk n : Nat} {cuts : List (Int × Int)} (hf : Cuts w2 w.heap.size kk cuts ∧ Below w.heap.size w w2 ∧ w.heap.size < w2.heap.size) :
    Fk w ((w2.alloc (.cells #[.int .i64 n, .slice none 0 0, .map (some w.heap.size)] 54)).alloc (.cells #[.pointer (some ⟨w2.heap.size, 0, none⟩)] 23)) (w2.heap.size + 1) w2.heap.size w.heap.size kk n cuts := by
  obtain ⟨h1, h2, h3⟩ := hf
  have hb := Boxed.new (w2.alloc (.cells #[.int .i64 n, .slice none 0 0, .map (some w.heap.size)] 54)) 23 (.pointer (some ⟨w2.heap.size, 0, none⟩))
  rw [World.size_alloc] at hb
  exact ⟨hb, (Below.heap_alloc _ _ _ (by simp)).trans (heap_alloc_new w2 _), h1.below' (below_alloc (below_alloc (Below.refl _ _) _) _), ⟨by omega, by omega, Nat.le_refl _⟩, below_alloc (below_alloc h2 _) _⟩
/-- one packet more in the fork -/
theorem fork_step {W w4 : World} {F mb N1 B0 k n : Nat} {a : Option Addr} {c g' cap' : Nat} {l' C : List Pv} {p q : Pv} {tmp : Obj} (hF : W.heap[F]? = some (.cells #[.int .i64 n, .slice a k c, .map (some mb)] 54)) (hrow : W.ownsRow N1 33 3 (.slice a k c) k (pcells l'))
    (hmap : l'.map Pv.pk = (C.take k).map Pv.pk) (hall : ∀ p ∈ l', Own1 W B0 p) (hq : Own1 W B0 q) (hqp : q.pk = p.pk) (hp : C[k]? = some p)
    (hown' : w4.ownsRow N1 33 3 (.slice (some ⟨g', 0, none⟩) (k + 1) cap') (k + 1) (pcells l' ++ q.cells)) (hgrow : (W.alloc tmp).drew.grownBy w4 (Value.slice a k c).ownBlock) :
    w4.heap[F]? = some (.cells #[.int .i64 n, .slice a k c, .map (some mb)] 54) ∧
    ((w4.setCell ⟨F, 1, none⟩ (.slice (some ⟨g', 0, none⟩) (k + 1) cap')).heap[F]? = some (.cells #[.int .i64 n, .slice (some ⟨g', 0, none⟩) (k + 1) cap', .map (some mb)] 54) ∧
      (w4.setCell ⟨F, 1, none⟩ (.slice (some ⟨g', 0, none⟩) (k + 1) cap')).ownsRow N1 33 3 (.slice (some ⟨g', 0, none⟩) (k + 1) cap') (k + 1) (pcells (l' ++ [q])) ∧ (l' ++ [q]).map Pv.pk = (C.take (k + 1)).map Pv.pk ∧
      ∀ r ∈ l' ++ [q], Own1 (w4.setCell ⟨F, 1, none⟩ (.slice (some ⟨g', 0, none⟩) (k + 1) cap')) B0 r) ∧
    (∀ (j : Nat) (o : Obj), W.heap[j]? = some o → j ≠ F → (Value.slice a k c).ownBlock ≠ some j → (w4.setCell ⟨F, 1, none⟩ (.slice (some ⟨g', 0, none⟩) (k + 1) cap')).heap[j]? = some o) ∧
    Chg (fun j => j = F ∨ (Value.slice a k c).ownBlock = some j) W (w4.setCell ⟨F, 1, none⟩ (.slice (some ⟨g', 0, none⟩) (k + 1) cap')) := by
  have hc0 : Chg (fun j => j = F ∨ (Value.slice a k c).ownBlock = some j) W w4 := (((Chg.refl _ W).alloc tmp).drew).grown hgrow (fun j hj => .inl (.inr hj))
  have hch : Chg (fun j => j = F ∨ (Value.slice a k c).ownBlock = some j) W (w4.setCell ⟨F, 1, none⟩ (.slice (some ⟨g', 0, none⟩) (k + 1) cap')) := hc0.setCell (p := ⟨F, 1, none⟩) (.inl (.inl rfl)) _
  have hlt : F < W.heap.size := (Array.getElem?_eq_some_iff.1 hF).1
  have nF : (Value.slice a k c).ownBlock ≠ some F := fun e => by
    obtain ⟨cs2, h2⟩ := own_cells hrow e
    rw [h2] at hF
    simp at hF
  have hF4 : w4.heap[F]? = some (.cells #[.int .i64 n, .slice a k c, .map (some mb)] 54) := (hgrow.block F (by simp; omega) (fun e => nF e.symm)).trans ((Below.heap_alloc _ _ _ hlt).trans hF)
  have oth : ∀ (j : Nat) (o : Obj), W.heap[j]? = some o → j ≠ F → (Value.slice a k c).ownBlock ≠ some j → (w4.setCell ⟨F, 1, none⟩ (.slice (some ⟨g', 0, none⟩) (k + 1) cap')).heap[j]? = some o := fun j o hj h1 h2 =>
    (hch.block j (Array.getElem?_eq_some_iff.1 hj).1 (fun h => h.elim h1 h2)).trans hj
  have bytes : ∀ (j : Nat) (cs : Array Value), W.heap[j]? = some (.cells cs 5 (0, 0)) → (w4.setCell ⟨F, 1, none⟩ (.slice (some ⟨g', 0, none⟩) (k + 1) cap')).heap[j]? = some (.cells cs 5 (0, 0)) := fun j cs hj => oth j _ hj
    (fun e => by rw [e, hF] at hj; simp at hj) (fun e => by
      obtain ⟨cs2, h2⟩ := own_cells hrow e
      rw [h2] at hj
      simp at hj)
  refine ⟨hF4, ⟨?_, ?_, ?_, fun r hr => ?_⟩, oth, hch⟩
  · have := heap_setCell_same w4 F 1 #[.int .i64 n, .slice a k c, .map (some mb)] 54 (.slice (some ⟨g', 0, none⟩) (k + 1) cap') hF4
    exact this
  · rw [pcells_append, show pcells [q] = q.cells by simp [pcells]]
    refine row_same hown' (fun j hj => Below.heap_setCell _ _ _ _ (fun e => ?_))
    obtain ⟨cs2, h2⟩ := own_cells hown' hj
    rw [e, hF4] at h2
    simp at h2
  · have hk : k < C.length := (List.getElem?_eq_some_iff.1 hp).1
    have ep : C[k] = p := (List.getElem?_eq_some_iff.1 hp).2
    rw [List.map_append, hmap, List.take_succ_eq_append_getElem hk, List.map_append, ep]
    simp [hqp]
  · rcases List.mem_append.1 hr with hr | hr
    · exact (hall r hr).same bytes
    · rw [List.mem_singleton.1 hr]
      exact hq.same bytes
/-- the invariant of Fork's loop -/
structure ForkI (w w1 : World) (B F mb n : Nat) (C : List Pv) (k : Nat) (W : World) : Prop where
  box : Boxed W B 23 (.pointer (some ⟨F, 0, none⟩))
  ex : ∃ a c l', W.heap[F]? = some (.cells #[.int .i64 n, .slice a k c, .map (some mb)] 54) ∧ W.ownsRow w1.heap.size 33 3 (.slice a k c) k (pcells l') ∧ l'.map Pv.pk = (C.take k).map Pv.pk ∧ ∀ p ∈ l', Own1 W w.heap.size p
  map : W.heap[mb]? = w1.heap[mb]?
  below : Below w.heap.size w W
  big : w1.heap.size ≤ W.heap.size
theorem ForkI.soft {w w1 W W' : World} {B F mb n : Nat} {C : List Pv} {k : Nat} (h : ForkI w w1 B F mb n C k W) (hs : Soft w1.heap.size W W') (hw : w.heap.size ≤ w1.heap.size) (hm : mb < w1.heap.size) : ForkI w w1 B F mb n C k W' := by
  obtain ⟨a, c, l', h1, h2, h3, h4⟩ := h.ex
  have keep : ∀ j, j < w1.heap.size → W'.heap[j]? = W.heap[j]? := fun j hj => by
    have hj' : j < W.heap.size := Nat.lt_of_lt_of_le hj h.big
    rw [Array.getElem?_eq_getElem hj']
    exact hs.same j _ (Array.getElem?_eq_getElem hj') (.inl hj)
  exact ⟨hs.same _ _ h.box (.inr rfl), ⟨a, c, l', hs.same _ _ h1 (.inr rfl), row_soft (N := 0) h2 (fun k cs t hk => hs.same _ _ hk (.inr rfl)), h3, fun p hp => (h4 p hp).same (fun k cs hk => hs.same _ _ hk (.inr rfl))⟩, (keep mb hm).trans h.map, h.below.trans ⟨hs.os, hs.tape, hs.output, hs.size, fun j hj => keep j (by omega)⟩, Nat.le_trans h.big hs.size⟩
/-- append at packets, kept shut -/
def appP (ty : TypeId) (args : Array Value) : Sem Value := Builtin.append_ #[27, 27] ty args
theorem app_fold (ty : TypeId) (args : Array Value) : Builtin.append_ #[27, 27] ty args = appP ty args := rfl
end Go.Proofs.Ytjbonklgklldmaa
