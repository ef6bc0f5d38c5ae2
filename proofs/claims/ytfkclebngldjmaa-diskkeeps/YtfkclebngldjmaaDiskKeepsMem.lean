/- What DiskKeeps keeps beside the disk: for each block the lists that were written to it; what a call on the disk and an append leave of it. No condition. -/
import Derived.Test.YtfkclebngldjmaaDiskAll
namespace Go.Proofs.Ytfkclebngldjmaa
namespace DiskKeeps
open Go.ChangeShapes Go.WideShapes Go.ChangeAt Go.RowKit B8 Dm
set_option linter.unusedVariables false

/-- a write that was let: its place, where its list lies, the list -/
structure U where
  at_ : Nat
  g : Nat
  cp : Nat
  bs : List Int
def wrs (us : List U) : List (Nat × List Int) := us.map (fun u => (u.at_, u.bs))
def put (us : List U) (i : Nat) : List U := us.filter (fun u => u.at_ == i)
def uval (u : U) : Value := .slice (some ⟨u.g, 0, none⟩) 64 u.cp
theorem put_same (us : List U) (u : U) : put (us ++ [u]) u.at_ = put us u.at_ ++ [u] := by simp [put]
theorem put_other (us : List U) (u : U) {i : Nat} (h : u.at_ ≠ i) : put (us ++ [u]) i = put us i := by simp [put, h]
theorem wrs_snoc (us : List U) (u : U) : wrs (us ++ [u]) = wrs us ++ [(u.at_, u.bs)] := by simp [wrs]

/-- behind a fall each byte is what was there, or what one of the writes had there -/
theorem torn_byte (keep : List Int) (p kk : Nat) (hk : kk < 64) : ∀ (ws : List (Nat × List Int)) (K : Nat → List Int) (j : Nat), (∀ x ∈ ws, x.2.length = 64) →
    (torn K keep j ws p)[kk]?.getD 0 = (K p)[kk]?.getD 0 ∨ ∃ x ∈ ws, x.1 = p ∧ (torn K keep j ws p)[kk]?.getD 0 = x.2[kk]?.getD 0
  | [], K, j, _ => .inl rfl
  | x :: r, K, j, h => by
    have ih := torn_byte keep p kk hk r (torn1 K x (kn keep j)) (j + 1) (fun y hy => h y (by simp [hy]))
    show (torn (torn1 K x (kn keep j)) keep (j + 1) r p)[kk]?.getD 0 = _ ∨ ∃ y ∈ x :: r, y.1 = p ∧ (torn (torn1 K x (kn keep j)) keep (j + 1) r p)[kk]?.getD 0 = _
    rcases ih with ih | ⟨y, hy, h1, h2⟩
    · rw [ih]
      have hx := h x (by simp)
      have hkn := kn_le keep j
      unfold torn1 upd
      by_cases e : p = x.1
      · subst e
        simp only [if_true]
        unfold tornB
        by_cases hm : kk < kn keep j
        · refine .inr ⟨x, by simp, rfl, ?_⟩
          rw [List.getElem?_append_left (by simp; omega), List.getElem?_take, if_pos hm]
        · refine .inl ?_
          rw [List.getElem?_append_right (by simp; omega), List.getElem?_drop]
          congr 2
          simp
          omega
      · rw [if_neg e]
        exact .inl rfl
    · exact .inr ⟨y, by simp [hy], h1, h2⟩
theorem put_of {us : List U} {p : Nat} {x : Nat × List Int} (hx : x ∈ wrs us) (h1 : x.1 = p) : ∃ (j : Nat) (u : U), (put us p)[j]? = some u ∧ u.bs = x.2 := by
  unfold wrs at hx
  obtain ⟨u, hu, rfl⟩ := List.mem_map.1 hx
  have : u ∈ put us p := by simp [put, hu]; exact h1
  obtain ⟨j, hj, e⟩ := List.getElem_of_mem this
  exact ⟨j, u, by rw [List.getElem?_eq_getElem hj, e], rfl⟩

/-- for each block a list of the lists that were written to it -/
structure Wrt (w : World) (gw n : Nat) (vs : Nat → Value) (us : List U) : Prop where
  cell : ∀ i, i < n → w.cell? ⟨gw, i, none⟩ = some (vs i)
  frz : ∀ i, w.frozen? ⟨gw, i, none⟩ = false
  row : ∀ i, i < n → w.ownsRow (gw + 1) 46 1 (vs i) (put us i).length ((put us i).map uval)
  apart : ∀ i j, i < n → j < n → i ≠ j → ∀ k, (vs i).ownBlock = some k → (vs j).ownBlock ≠ some k
  data : ∀ u ∈ us, gw < u.g ∧ u.g < w.heap.size ∧ ∀ j, j < 64 → w.cell? ⟨u.g, j, none⟩ = some (.int .u8 (u.bs[j]?.getD 0))
  off : ∀ i, i < n → ∀ u ∈ us, (vs i).ownBlock ≠ some u.g
def Wb (gw n : Nat) (vs : Nat → Value) (us : List U) (k : Nat) : Prop := k = gw ∨ (∃ i, i < n ∧ (vs i).ownBlock = some k) ∨ ∃ u ∈ us, u.g = k
section
variable {w w' : World} {gw n : Nat} {vs : Nat → Value} {us : List U}
theorem Wrt.same (h : Wrt w gw n vs us) (hb : ∀ k, Wb gw n vs us k → w'.heap[k]? = w.heap[k]?) (hs : w.heap.size ≤ w'.heap.size) : Wrt w' gw n vs us :=
  ⟨fun i hi => (World.cell?_of_block (w := w) (a := ⟨gw, i, none⟩) (hb gw (.inl rfl))).trans (h.cell i hi), fun i => (World.frozen?_of_block (w := w) (a := ⟨gw, i, none⟩) (hb gw (.inl rfl))).trans (h.frz i),
    fun i hi => row_same (h.row i hi) (fun k hk => hb k (.inr (.inl ⟨i, hi, hk⟩))), h.apart,
    fun u hu => ⟨(h.data u hu).1, Nat.lt_of_lt_of_le (h.data u hu).2.1 hs, fun j hj => (World.cell?_of_block (w := w) (a := ⟨u.g, j, none⟩) (hb u.g (.inr (.inr ⟨u, hu, rfl⟩)))).trans ((h.data u hu).2.2 j hj)⟩, h.off⟩
def updV (vs : Nat → Value) (p : Nat) (v : Value) : Nat → Value := fun i => if i = p then v else vs i
theorem updV_same (vs : Nat → Value) (p : Nat) (v : Value) : updV vs p v p = v := by simp [updV]
theorem updV_other (vs : Nat → Value) (p : Nat) (v : Value) {i : Nat} (h : i ≠ p) : updV vs p v i = vs i := by simp [updV, h]
/-- one list more at one block -/
theorem Wrt.push {w6 w7 : World} {g2 cp2 m : Nat} {u : U} (h : Wrt w gw n vs us) (hp : u.at_ < n) (hm : m = (put us u.at_).length) (hu1 : gw < u.g) (hu2 : u.g < w.heap.size) (hu3 : ∀ j, j < 64 → w.cell? ⟨u.g, j, none⟩ = some (.int .u8 (u.bs[j]?.getD 0))) (hu4 : ¬ Wb gw n vs us u.g)
    (hb : Below w.heap.size w w6) (hgr : w6.grownBy w7 (vs u.at_).ownBlock) (hown : w7.ownsRow (gw + 1) 46 1 (.slice (some ⟨g2, 0, none⟩) (m + 1) cp2) (m + 1) ((put us u.at_).map uval ++ [uval u])) (hat : (vs u.at_).ownBlock = some g2 ∨ w6.heap.size ≤ g2) :
    Wrt (w7.setCell ⟨gw, u.at_, none⟩ (.slice (some ⟨g2, 0, none⟩) (m + 1) cp2)) gw n (updV vs u.at_ (.slice (some ⟨g2, 0, none⟩) (m + 1) cp2)) (us ++ [u]) ∧
    Chg (Wb gw n vs us) w (w7.setCell ⟨gw, u.at_, none⟩ (.slice (some ⟨g2, 0, none⟩) (m + 1) cp2)) ∧
    (∀ k, Wb gw n (updV vs u.at_ (.slice (some ⟨g2, 0, none⟩) (m + 1) cp2)) (us ++ [u]) k → Wb gw n vs us k ∨ k = u.g ∨ w.heap.size ≤ k) := by
  have own7 : ∀ k, k < w.heap.size → (vs u.at_).ownBlock ≠ some k → w7.heap[k]? = w.heap[k]? := fun k hk hn => (hgr.block k (Nat.lt_of_lt_of_le hk hb.size) (fun e => hn e.symm)).trans (hb.block k hk)
  have lgw : gw < w.heap.size := World.block_lt_of_cell? w _ (h.cell u.at_ hp)
  have rowlt : ∀ i, i < n → ∀ k, (vs i).ownBlock = some k → gw + 1 ≤ k ∧ k < w.heap.size := fun i hi k hk => (h.row i hi).lt k hk
  have ngw : (vs u.at_).ownBlock ≠ some gw := fun e => by have := (rowlt _ hp gw e).1; omega
  have egw : w7.heap[gw]? = w.heap[gw]? := own7 gw lgw ngw
  have hg2 : gw + 1 ≤ g2 := (hown.lt g2 rfl).1
  have sz7 : w.heap.size ≤ w7.heap.size := Nat.le_trans hb.size hgr.size
  have o8 : ∀ k, k ≠ gw → (w7.setCell ⟨gw, u.at_, none⟩ (.slice (some ⟨g2, 0, none⟩) (m + 1) cp2)).heap[k]? = w7.heap[k]? := fun k hk => Below.heap_setCell _ ⟨gw, u.at_, none⟩ _ _ hk
  have c7 : ∀ i, i < n → w7.cell? ⟨gw, i, none⟩ = some (vs i) := fun i hi => (World.cell?_of_block (w := w) (a := ⟨gw, i, none⟩) egw).trans (h.cell i hi)
  refine ⟨⟨fun i hi => ?_, fun i => ?_, fun i hi => ?_, fun i j hi hj hij k hk => ?_, fun x hx => ?_, fun i hi x hx => ?_⟩, ?_, fun k hk => ?_⟩
  · by_cases e : i = u.at_
    · subst e; rw [updV_same]; exact World.cell?_setCell_same _ _ _ (c7 u.at_ hp)
    · rw [updV_other _ _ _ e, World.cell?_setCell_other _ _ _ _ (by intro e2; simp at e2)]; exact c7 i hi
  · rw [World.frozen?_setCell]; exact (World.frozen?_of_block (w := w) (a := ⟨gw, i, none⟩) egw).trans (h.frz i)
  · by_cases e : i = u.at_
    · subst e
      rw [updV_same, put_same, List.map_append, List.length_append, ← hm]
      exact row_same hown (fun k hk => o8 k (by have := (hown.lt k hk).1; omega))
    · rw [updV_other _ _ _ e, put_other _ _ (fun e2 => e e2.symm)]
      refine row_same (h.row i hi) (fun k hk => (o8 k (by have := (rowlt i hi k hk).1; omega)).trans (own7 k (rowlt i hi k hk).2 (h.apart i _ hi hp e k hk)))
  · by_cases e : i = u.at_
    · subst e
      rw [updV_same] at hk
      obtain rfl : g2 = k := by simpa [Value.ownBlock] using hk
      rw [updV_other _ _ _ (fun e2 => hij e2.symm)]
      rcases hat with h5 | h5
      · exact h.apart _ j hp hj hij g2 h5
      · intro h6; have := (rowlt j hj g2 h6).2; have := hb.size; omega
    · rw [updV_other _ _ _ e] at hk
      by_cases e2 : j = u.at_
      · subst e2
        rw [updV_same]
        intro h6
        obtain rfl : g2 = k := by simpa [Value.ownBlock] using h6
        rcases hat with h5 | h5
        · exact h.apart i _ hi hp e g2 hk h5
        · have := (rowlt i hi g2 hk).2; have := hb.size; omega
      · rw [updV_other _ _ _ e2]; exact h.apart i j hi hj hij k hk
  · have hs8 : (w7.setCell ⟨gw, u.at_, none⟩ (.slice (some ⟨g2, 0, none⟩) (m + 1) cp2)).heap.size = w7.heap.size := by simp [World.setCell]
    rcases List.mem_append.1 hx with hx | hx
    · obtain ⟨d1, d2, d3⟩ := h.data x hx
      have eb := (o8 x.g (by omega)).trans (own7 x.g d2 (h.off _ hp x hx))
      exact ⟨d1, by rw [hs8]; omega, fun j hj => (World.cell?_of_block (w := w) (a := ⟨x.g, j, none⟩) eb).trans (d3 j hj)⟩
    · simp at hx
      subst hx
      have eb := (o8 x.g (by omega)).trans (own7 x.g hu2 (fun e => hu4 (.inr (.inl ⟨_, hp, e⟩))))
      exact ⟨hu1, by rw [hs8]; omega, fun j hj => (World.cell?_of_block (w := w) (a := ⟨x.g, j, none⟩) eb).trans (hu3 j hj)⟩
  · have xlt : x.g < w.heap.size ∧ ((vs i).ownBlock ≠ some x.g) ∧ ((vs u.at_).ownBlock ≠ some x.g) := by
      rcases List.mem_append.1 hx with hx | hx
      · exact ⟨(h.data x hx).2.1, h.off i hi x hx, h.off _ hp x hx⟩
      · simp at hx
        subst hx
        exact ⟨hu2, fun e => hu4 (.inr (.inl ⟨i, hi, e⟩)), fun e => hu4 (.inr (.inl ⟨_, hp, e⟩))⟩
    by_cases e : i = u.at_
    · subst e
      rw [updV_same]
      intro h6
      obtain rfl : g2 = x.g := by simpa [Value.ownBlock] using h6
      rcases hat with h5 | h5
      · exact xlt.2.2 h5
      · have := xlt.1; have := hb.size; omega
    · rw [updV_other _ _ _ e]; exact xlt.2.1
  · refine ⟨hgr.os.trans hb.os, hgr.tape.trans hb.tape, hgr.output.trans hb.output, by simp [World.setCell]; exact sz7, fun k hk hn => ?_⟩
    exact (o8 k (fun e => hn (.inl e))).trans (own7 k hk (fun e => hn (.inr (.inl ⟨_, hp, e⟩))))
  · rcases hk with rfl | ⟨i, hi, hk⟩ | ⟨x, hx, rfl⟩
    · exact .inl (.inl rfl)
    · by_cases e : i = u.at_
      · subst e
        rw [updV_same] at hk
        obtain rfl : g2 = k := by simpa [Value.ownBlock] using hk
        rcases hat with h5 | h5
        · exact .inl (.inr (.inl ⟨_, hp, h5⟩))
        · exact .inr (.inr (Nat.le_trans hb.size h5))
      · rw [updV_other _ _ _ e] at hk
        exact .inl (.inr (.inl ⟨i, hi, hk⟩))
    · rcases List.mem_append.1 hx with hx | hx
      · exact .inl (.inr (.inr ⟨x, hx, rfl⟩))
      · simp at hx
        subst hx
        exact .inr (.inl rfl)
end

/-- the disk, what was there, and what was written since: no block in common -/
structure Kp (w : World) (N D : Nat) (s : Ds) (L M : Nat → Prop) (wb : World) (lo n : Nat) (vs : Nat → Value) (us : List U) : Prop where
  d : Dsk w D s L
  l : ∀ k, L k → N ≤ k ∧ k < w.heap.size ∧ ¬ M k
  m : ∀ k, M k → N ≤ k ∧ k < w.heap.size
  fr : ∀ k, lo ≤ k → k < wb.heap.size → M k ∧ w.heap[k]? = wb.heap[k]?
  wr : Wrt w wb.heap.size n vs us
  wm : ∀ k, Wb wb.heap.size n vs us k → M k
section
variable {w w' wb : World} {N D lo n : Nat} {s s' : Ds} {L M : Nat → Prop} {vs : Nat → Value} {us : List U}
theorem Kp.below (h : Kp w N D s L M wb lo n vs us) (hb : Below w.heap.size w w') : Kp w' N D s L M wb lo n vs us :=
  ⟨h.d.below hb, fun k hk => ⟨(h.l k hk).1, Nat.lt_of_lt_of_le (h.l k hk).2.1 hb.size, (h.l k hk).2.2⟩, fun k hk => ⟨(h.m k hk).1, Nat.lt_of_lt_of_le (h.m k hk).2 hb.size⟩, fun k h1 h2 => ⟨(h.fr k h1 h2).1, (hb.block k (h.m k (h.fr k h1 h2).1).2).trans (h.fr k h1 h2).2⟩,
    h.wr.same (fun k hk => hb.block k (h.m k (h.wm k hk)).2) hb.size, h.wm⟩
theorem Kp.mv (h : Kp w N D s L M wb lo n vs us) (hN : N ≤ w.heap.size) (hm : Mv w D L s' w') : Kp w' N D s' (fun k => (L k ∨ w.heap.size ≤ k) ∧ k < w'.heap.size) M wb lo n vs us ∧ Below N w w' := by
  have keep : ∀ k, M k → w'.heap[k]? = w.heap[k]? := fun k hk => hm.1.block k (h.m k hk).2 (fun hl => (h.l k hl).2.2 hk)
  exact ⟨⟨hm.2.lt, fun k hk => ⟨by rcases hk.1 with h1 | h1; exact (h.l k h1).1; omega, hk.2, fun hM => by rcases hk.1 with h1 | h1; exact (h.l k h1).2.2 hM; have := (h.m k hM).2; omega⟩, fun k hk => ⟨(h.m k hk).1, Nat.lt_of_lt_of_le (h.m k hk).2 hm.1.size⟩,
    fun k h1 h2 => ⟨(h.fr k h1 h2).1, (keep k (h.fr k h1 h2).1).trans (h.fr k h1 h2).2⟩, h.wr.same (fun k hk => keep k (h.wm k hk)) hm.1.size, h.wm⟩, hm.1.below hN (fun k hk => (h.l k hk).1)⟩
theorem Kp.push {w6 w7 : World} {g2 cp2 m : Nat} {u : U} (h : Kp w N D s L M wb lo n vs us) (hN : N ≤ w.heap.size) (hp : u.at_ < n) (hm : m = (put us u.at_).length) (hu1 : wb.heap.size < u.g) (hN2 : N ≤ wb.heap.size) (hu2 : u.g < w.heap.size) (hu3 : ∀ j, j < 64 → w.cell? ⟨u.g, j, none⟩ = some (.int .u8 (u.bs[j]?.getD 0))) (hu4 : ¬ M u.g) (hu5 : ¬ L u.g)
    (hb : Below w.heap.size w w6) (hgr : w6.grownBy w7 (vs u.at_).ownBlock) (hown : w7.ownsRow (wb.heap.size + 1) 46 1 (.slice (some ⟨g2, 0, none⟩) (m + 1) cp2) (m + 1) ((put us u.at_).map uval ++ [uval u])) (hat : (vs u.at_).ownBlock = some g2 ∨ w6.heap.size ≤ g2) :
    ∃ M', Kp (w7.setCell ⟨wb.heap.size, u.at_, none⟩ (.slice (some ⟨g2, 0, none⟩) (m + 1) cp2)) N D s L M' wb lo n (updV vs u.at_ (.slice (some ⟨g2, 0, none⟩) (m + 1) cp2)) (us ++ [u]) ∧ Below N w (w7.setCell ⟨wb.heap.size, u.at_, none⟩ (.slice (some ⟨g2, 0, none⟩) (m + 1) cp2)) := by
  obtain ⟨p1, p2, p3⟩ := h.wr.push hp hm hu1 hu2 hu3 (fun hW => hu4 (h.wm _ hW)) hb hgr hown hat
  have lt8 : ∀ k, Wb wb.heap.size n (updV vs u.at_ (.slice (some ⟨g2, 0, none⟩) (m + 1) cp2)) (us ++ [u]) k → k < (w7.setCell ⟨wb.heap.size, u.at_, none⟩ (.slice (some ⟨g2, 0, none⟩) (m + 1) cp2)).heap.size := fun k hk => by
    rcases hk with rfl | ⟨i, hi, hk⟩ | ⟨x, hx, rfl⟩
    · exact Nat.lt_of_lt_of_le (h.m _ (h.wm _ (.inl rfl))).2 p2.size
    · exact ((p1.row i hi).lt k hk).2
    · exact (p1.data x hx).2.1
  have nL : ∀ k, L k → ¬ Wb wb.heap.size n vs us k := fun k hk hW => (h.l k hk).2.2 (h.wm k hW)
  refine ⟨fun k => M k ∨ Wb wb.heap.size n (updV vs u.at_ (.slice (some ⟨g2, 0, none⟩) (m + 1) cp2)) (us ++ [u]) k, ⟨h.d.far p2 nL, fun k hk => ⟨(h.l k hk).1, Nat.lt_of_lt_of_le (h.l k hk).2.1 p2.size, fun hM => ?_⟩, fun k hk => ?_, fun k h1 h2 => ⟨.inl (h.fr k h1 h2).1, ?_⟩, p1, fun k hk => .inr hk⟩, p2.below hN (fun k hk => (h.m k (h.wm k hk)).1)⟩
  · rcases hM with hM | hM
    · exact (h.l k hk).2.2 hM
    · rcases p3 k hM with h5 | h5 | h5
      · exact nL k hk h5
      · subst h5; exact hu5 hk
      · have := (h.l k hk).2.1; omega
  · rcases hk with hM | hM
    · exact ⟨(h.m k hM).1, Nat.lt_of_lt_of_le (h.m k hM).2 p2.size⟩
    · refine ⟨?_, lt8 k hM⟩
      rcases p3 k hM with h5 | h5 | h5
      · exact (h.m k (h.wm k h5)).1
      · omega
      · omega
  · refine (p2.block k (h.m k (h.fr k h1 h2).1).2 (fun hW => ?_)).trans (h.fr k h1 h2).2
    rcases hW with rfl | ⟨i, hi, hk⟩ | ⟨x, hx, rfl⟩
    · omega
    · have := ((h.wr.row i hi).lt k hk).1; omega
    · have := (h.wr.data x hx).1; omega
end
/-- so many empty lists, as cells -/
def nils (n : Nat) : Array Value := (List.replicate n (Value.slice none 0 0)).toArray
theorem ninfo : (Try.prog.info? 43).map (fun i => (i.zero, i.size, i.bytes)) = some (some (.slice none 0 0), 1, 24) := by kernel_rfl
theorem make_lists (n : Nat) (hn : n ≤ 16384) (w : World) : (Instr.makeSlice 45 (.int .i64 n) (.int .i64 n)).run Try.prog w = .ok (.slice (some ⟨w.heap.size, 0, none⟩) n n) (w.alloc (.cells (nils n) 43)) := by
  obtain ⟨i0, hi, hz0, hz1, hz2⟩ := info_parts ninfo
  have hr := run_make (P := Try.prog) w 45 43 i0 (.slice none 0 0) Try.underlying45 hi hz0 .i64 .i64 (n : Int) (n : Int) (by omega) (by omega) (by rw [hz2]; omega) (by omega)
  rw [hr]
  have e : madeCells (Value.slice none 0 0).cells ((n : Int).toNat * i0.size) = nils n := by
    rw [hz1]
    unfold madeCells nils
    apply Array.ext
    · simp
    · intro i h1 h2
      simp [Value.cells, Nat.mod_one]
  rw [e, Int.toNat_natCast]
theorem wrt_new (w : World) (n : Nat) : Wrt (w.alloc (.cells (nils n) 43)) w.heap.size n (fun _ => .slice none 0 0) [] := by
  have hD : (w.alloc (.cells (nils n) 43)).heap[w.heap.size]? = some (.cells (nils n) 43 (0, 0)) := heap_alloc_new w _
  refine ⟨fun i hi => ?_, fun i => frozen_of_row _ _ i _ _ hD, fun i hi => World.ownsRow_nil _ _ _ _, fun i j _ _ _ k hk => by simp [Value.ownBlock] at hk, fun u hu => by simp at hu, fun i hi u hu => by simp at hu⟩
  rw [cell_of_row _ _ i _ _ _ hD]
  simp [nils, hi]
end DiskKeeps
end Go.Proofs.Ytfkclebngldjmaa
