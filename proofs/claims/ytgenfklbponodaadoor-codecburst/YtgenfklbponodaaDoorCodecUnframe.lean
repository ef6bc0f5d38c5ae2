/- What the landed Unframe returns. Condition: the table of the half bytes holds its numbers. -/
import Derived.Test.YtgenfklbponodaaDoorCodecFrame
import Derived.Test.YtgenfklbponodaaDoorCodecCut
import Derived.Deep.RegionHeld3
namespace Go.Proofs.YtgenfklbponodaaDoor
open Go.ChangeShapes Go.WideShapes Go.ChangeAt Go.RowKit B8
set_option linter.unusedVariables false

theorem cunframe_short (a : Option Addr) (len cap : Nat) (w : World) (h : len < 8) :
    Calls Tryd.prog 6 #[.slice a len cap] w fun e w' => e = .returned (.tuple #[.slice none 0 0, .int .i64 0, .int .i64 20]) ∧ Below w.heap.size w w' := by
  go_enter Tryd.func6, Tryd.ntmps6
  go_wp2_with fail
  go_ret3
  exact ⟨rfl, Below.refl _ _⟩

theorem low4 {w : World} {b off len cap : Nat} {bs : List Int} (h : Sq w (some ⟨b, off, none⟩) len cap bs) (h8 : 8 ≤ len) :
    Calls Tryd.prog 14 #[.slice (some ⟨b, off, none⟩) 4 cap] w fun e w' => e = .returned (.int .u32 (fwordV bs)) ∧ ∃ n, w' = w.drewN n := by
  obtain ⟨b', off', e, hc⟩ := h.cells (by omega)
  obtain ⟨rfl, rfl⟩ : b = b' ∧ off = off' := by simpa using e
  exact fromlow_any b off 4 cap bs w (Nat.le_refl _) h.wf (fun j hj => hc j (by omega))
theorem high4 {w : World} {b off len cap : Nat} {bs : List Int} (h : Sq w (some ⟨b, off, none⟩) len cap bs) (h8 : 8 ≤ len) (c : Nat) :
    Calls Tryd.prog 14 #[.slice (some ⟨b, off + 4, none⟩) 4 c] w fun e w' => e = .returned (.int .u32 (fwordV (bs.drop 4))) ∧ ∃ n, w' = w.drewN n := by
  obtain ⟨b', off', e, hc⟩ := h.cells (by omega)
  obtain ⟨rfl, rfl⟩ : b = b' ∧ off = off' := by simpa using e
  refine fromlow_any b (off + 4) 4 c (bs.drop 4) w (Nat.le_refl _) (wfs_drop h.wf 4) (fun j hj => ?_)
  rw [Nat.add_assoc, hc (4 + j) (by omega), List.getElem?_drop]

theorem cunframe_long {w : World} {b off len cap : Nat} {bs : List Int} (h : Sq w (some ⟨b, off, none⟩) len cap bs) (h8 : 8 ≤ len) (hn : 65536 < fwordV bs) :
    Calls Tryd.prog 6 #[.slice (some ⟨b, off, none⟩) len cap] w fun e w' => e = .returned (.tuple #[.slice none 0 0, .int .i64 0, .int .i64 22]) ∧ Below w.heap.size w w' := by
  have hb := fwordV_bd bs h.wf
  have hlc := h.lecap
  have c := hide (low4 h h8)
  have i1 : (4 : Int) ≤ (cap : Int) := by omega
  clear h
  obtain ⟨v, ev⟩ : ∃ v, v = fwordV bs := ⟨_, rfl⟩
  rw [← ev] at hb hn c
  clear ev
  go_enter Tryd.func6, Tryd.ntmps6
  go_wp2_with fail
  refine c.out.mono ?_
  rintro e w' ⟨rfl, n, rfl⟩
  go_wp2_with fail
  go_ret3
  exact ⟨rfl, below_drewN (Below.refl _ _) _⟩
theorem cunframe_less {w : World} {b off len cap : Nat} {bs : List Int} (h : Sq w (some ⟨b, off, none⟩) len cap bs) (h8 : 8 ≤ len) (hn : fwordV bs ≤ 65536) (hl : (len : Int) < 8 + fwordV bs) :
    Calls Tryd.prog 6 #[.slice (some ⟨b, off, none⟩) len cap] w fun e w' => e = .returned (.tuple #[.slice none 0 0, .int .i64 0, .int .i64 20]) ∧ Below w.heap.size w w' := by
  have hb := fwordV_bd bs h.wf
  have hlc := h.lecap
  have c := hide (low4 h h8)
  have i1 : (4 : Int) ≤ (cap : Int) := by omega
  clear h
  obtain ⟨v, ev⟩ : ∃ v, v = fwordV bs := ⟨_, rfl⟩
  rw [← ev] at hb hn c hl
  clear ev
  go_enter Tryd.func6, Tryd.ntmps6
  go_wp2_with fail
  refine c.out.mono ?_
  rintro e w' ⟨rfl, n, rfl⟩
  go_wp2_with fail
  go_ret3
  exact ⟨rfl, below_drewN (Below.refl _ _) _⟩

/-- what Unframe answers of bytes that are enough -/
def Unframed (w : World) (bs : List Int) (n : Nat) (e : Ending) (w' : World) : Prop :=
  ((fwordV (bs.drop 4) = (fsum (bs.take 4 ++ (bs.drop 8).take n) : Nat) ∧ ∃ a, e = .returned (.tuple #[.slice a n n, .int .i64 ((8 + n : Nat) : Int), .int .i64 0]) ∧ Mine w' w.heap.size a n n ((bs.drop 8).take n))
   ∨ (¬ fwordV (bs.drop 4) = (fsum (bs.take 4 ++ (bs.drop 8).take n) : Nat) ∧ e = .returned (.tuple #[.slice none 0 0, .int .i64 0, .int .i64 23]))) ∧ Below w.heap.size w w'

set_option maxHeartbeats 2000000 in
theorem cunframe_wide {w : World} {b off len cap n : Nat} {bs : List Int} (h : Sq w (some ⟨b, off, none⟩) len cap bs) (ht : Tab w) (h8 : 8 + n ≤ len) (hm : len ≤ 140737488355328) (hn : fwordV bs = n) (hn1 : n ≤ 65536) (hcp : cap ≠ 8) :
    Calls Tryd.prog 6 #[.slice (some ⟨b, off, none⟩) len cap] w (Unframed w bs n) := by
  have hlc := h.lecap
  have c := low4 h (by omega)
  rw [hn] at c
  have C := hide c
  have H := hide h
  have HT := hide ht
  have HL := hide h.length
  obtain ⟨q, eq⟩ : ∃ q, q = 8 + n := ⟨_, rfl⟩
  have HQ := hide eq
  have i1 : (4 : Int) ≤ (cap : Int) := by omega
  have i2 : (8 : Int) ≤ (cap : Int) := by omega
  have i3 : (8 : Int) + (n : Int) = (q : Int) := by omega
  have i4 : (q : Int) ≤ (cap : Int) := by omega
  have i5 : (8 : Int) ≤ (q : Int) := by omega
  have i6 : (q : Int) ≤ (len : Int) := by omega
  have i7 : q - 8 = n := by omega
  have i8 : q ≤ cap := by omega
  have i9 : 8 ≤ q := by omega
  have n4 : ¬ cap = 4 := by omega
  clear c h ht hn eq
  unfold Unframed
  obtain ⟨E1, eE1⟩ : ∃ E1, E1 = fwordV (bs.drop 4) := ⟨_, rfl⟩
  obtain ⟨E2, eE2⟩ : ∃ E2, E2 = fsum (bs.take 4 ++ (bs.drop 8).take n) := ⟨_, rfl⟩
  rw [← eE1, ← eE2]
  have HE1 := hide eE1
  have HE2 := hide eE2
  clear eE1 eE2
  go_enter Tryd.func6, Tryd.ntmps6
  go_wp2_with fail
  refine C.out.mono ?_
  rintro e w1 ⟨rfl, m1, e1⟩
  have B1 := hide (below_drewN (Below.refl w.heap.size w) m1)
  rw [← e1] at B1
  have hw1 : w.heap.size ≤ w1.heap.size := B1.out.size
  clear C e1
  have H1 := hide (H.out.below B1.out)
  have T1 := hide (HT.out.below B1.out)
  have CH : Hid (∀ (c : Nat) (W : World), (∃ k, W = w1.drewN k) → Calls Tryd.prog 14 #[.slice (some ⟨b, off + 4, none⟩) 4 c] W fun e w' => e = .returned (.int .u32 E1) ∧ ∃ m, w' = w1.drewN m) := by
    rintro c W ⟨k, rfl⟩
    rw [HE1.out]
    refine (high4 (H1.out.drew k) (by omega) c).mono ?_
    rintro e w' ⟨he, m, hw⟩
    exact ⟨he, k + m, by rw [hw]; exact World.drewN_drewN _ _ _⟩
  have q4 : ∀ W, Sq W (some ⟨b, off, none⟩) len cap bs → Sq W (some ⟨b, off + 8, none⟩) n (cap - 8) ((bs.drop 8).take n) := by
    intro W hW
    have := ((hW.take q (by omega)).drop 8 (by omega) (some ⟨b, off + 8, none⟩) (fun h => absurd h (by simp)) (fun _ => rfl))
    rw [List.drop_take, i7] at this
    exact ⟨this.length, by omega, this.nil, this.cells, this.wf⟩
  have Q4 := hide q4
  clear q4
  have CF : Hid (∀ W, (∃ k, W = w1.drewN k) → Calls Tryd.prog 9 #[.slice (some ⟨b, off, none⟩) 4 cap, .slice (some ⟨b, off + 8, none⟩) n (cap - 8)] W fun e w' => e = .returned (.int .u32 (E2 : Nat)) ∧ w' = W) := by
    rintro W ⟨k, rfl⟩
    have := cframesum_sq ((H1.out.drew k).take 4 (by omega)) (Q4.out _ (H1.out.drew k)) (T1.out.drewN k) (by omega) (by omega)
    rw [← HE2.out] at this
    exact this
  go_wp2_with fail
  go_region_held3 (fun _ => True) (trivial) ((first
    | (go_at_call 14; refine (CH.out _ _ (by first | exact ⟨_, rfl⟩ | exact ⟨_, World.drewN_drewN _ _ _⟩)).mono ?_; rintro e w2 ⟨rfl, m2, rfl⟩)
    | (go_at_call 9; refine (CF.out _ (by first | exact ⟨_, rfl⟩ | exact ⟨_, World.drewN_drewN _ _ _⟩)).mono ?_; rintro e w3 ⟨rfl, rfl⟩)))
  by_cases hE : E1 = (E2 : Int)
  · have b1 : (E1 != (E2 : Int)) = false := by simpa using hE
    have HE := hide hE
    clear hE
    go_wp2_with fail
    refine (cut_sq (Q4.out _ (H1.out.drew m2)) (by omega)).mono ?_
    rintro e w4 ⟨a4, rfl, m4, b4⟩
    have M4 := hide m4
    have B4 := hide (below_step (below_drewN B1.out m2) b4)
    clear m4 b4
    go_wp2_with fail
    go_ret3
    exact ⟨.inl ⟨HE.out, a4, by have hq := HQ.out; subst hq; rfl, M4.out.base hw1⟩, B4.out⟩
  · have b1 : (E1 != (E2 : Int)) = true := by simpa using hE
    have HE := hide hE
    clear hE
    go_wp2_with fail
    go_ret3
    exact ⟨.inr ⟨HE.out, rfl⟩, below_drewN B1.out m2⟩

set_option maxHeartbeats 2000000 in
theorem cunframe_thin {w : World} {b off len cap n : Nat} {bs : List Int} (h : Sq w (some ⟨b, off, none⟩) len cap bs) (ht : Tab w) (h8 : 8 + n ≤ len) (hm : len ≤ 140737488355328) (hn : fwordV bs = n) (hn1 : n ≤ 65536) (hcp : cap = 8 ∧ n = 0) :
    Calls Tryd.prog 6 #[.slice (some ⟨b, off, none⟩) len cap] w (Unframed w bs n) := by
  obtain ⟨rfl, rfl⟩ := hcp
  have hlc := h.lecap
  have c := low4 h (by omega)
  rw [hn] at c
  have C := hide c
  have H := hide h
  have HT := hide ht
  have HL := hide h.length
  obtain ⟨q, eq⟩ : ∃ q, q = 8 + 0 := ⟨_, rfl⟩
  have HQ := hide eq
  have i1 : (4 : Int) ≤ (8 : Int) := by omega
  have i2 : (8 : Int) ≤ (8 : Int) := by omega
  have i3 : (8 : Int) + (0 : Int) = (q : Int) := by omega
  have i4 : (q : Int) ≤ (8 : Int) := by omega
  have i5 : (8 : Int) ≤ (q : Int) := by omega
  have i6 : (q : Int) ≤ (len : Int) := by omega
  have i7 : q - 8 = 0 := by omega
  have i8 : q ≤ 8 := by omega
  have i9 : 8 ≤ q := by omega
  clear c h ht hn eq
  unfold Unframed
  obtain ⟨E1, eE1⟩ : ∃ E1, E1 = fwordV (bs.drop 4) := ⟨_, rfl⟩
  obtain ⟨E2, eE2⟩ : ∃ E2, E2 = fsum (bs.take 4 ++ (bs.drop 8).take 0) := ⟨_, rfl⟩
  rw [← eE1, ← eE2]
  have HE1 := hide eE1
  have HE2 := hide eE2
  clear eE1 eE2
  go_enter Tryd.func6, Tryd.ntmps6
  go_wp2_with fail
  refine C.out.mono ?_
  rintro e w1 ⟨rfl, m1, e1⟩
  have B1 := hide (below_drewN (Below.refl w.heap.size w) m1)
  rw [← e1] at B1
  have hw1 : w.heap.size ≤ w1.heap.size := B1.out.size
  clear C e1
  have H1 := hide (H.out.below B1.out)
  have T1 := hide (HT.out.below B1.out)
  have CH : Hid (∀ (c : Nat) (W : World), (∃ k, W = w1.drewN k) → Calls Tryd.prog 14 #[.slice (some ⟨b, off + 4, none⟩) 4 c] W fun e w' => e = .returned (.int .u32 E1) ∧ ∃ m, w' = w1.drewN m) := by
    rintro c W ⟨k, rfl⟩
    rw [HE1.out]
    refine (high4 (H1.out.drew k) (by omega) c).mono ?_
    rintro e w' ⟨he, m, hw⟩
    exact ⟨he, k + m, by rw [hw]; exact World.drewN_drewN _ _ _⟩
  have q4 : ∀ W, Sq W (some ⟨b, off, none⟩) len 8 bs → Sq W (some ⟨b, off, none⟩) 0 (8 - 8) ((bs.drop 8).take 0) := by
    intro W hW
    have := ((hW.take q (by omega)).drop 8 (by omega) (some ⟨b, off, none⟩) (fun h => absurd h (by simp)) (fun h => by omega))
    rw [List.drop_take, i7] at this
    exact ⟨this.length, by omega, this.nil, this.cells, this.wf⟩
  have Q4 := hide q4
  clear q4
  have CF : Hid (∀ W, (∃ k, W = w1.drewN k) → Calls Tryd.prog 9 #[.slice (some ⟨b, off, none⟩) 4 8, .slice (some ⟨b, off, none⟩) 0 (8 - 8)] W fun e w' => e = .returned (.int .u32 (E2 : Nat)) ∧ w' = W) := by
    rintro W ⟨k, rfl⟩
    have := cframesum_sq ((H1.out.drew k).take 4 (by omega)) (Q4.out _ (H1.out.drew k)) (T1.out.drewN k) (by omega) (by omega)
    rw [← HE2.out] at this
    exact this
  go_wp2_with fail
  go_region_held3 (fun _ => True) (trivial) ((first
    | (go_at_call 14; refine (CH.out _ _ (by first | exact ⟨_, rfl⟩ | exact ⟨_, World.drewN_drewN _ _ _⟩)).mono ?_; rintro e w2 ⟨rfl, m2, rfl⟩)
    | (go_at_call 9; refine (CF.out _ (by first | exact ⟨_, rfl⟩ | exact ⟨_, World.drewN_drewN _ _ _⟩)).mono ?_; rintro e w3 ⟨rfl, rfl⟩)))
  by_cases hE : E1 = (E2 : Int)
  · have b1 : (E1 != (E2 : Int)) = false := by simpa using hE
    have HE := hide hE
    clear hE
    go_wp2_with fail
    refine (cut_sq (Q4.out _ (H1.out.drew m2)) (by omega)).mono ?_
    rintro e w4 ⟨a4, rfl, m4, b4⟩
    have M4 := hide m4
    have B4 := hide (below_step (below_drewN B1.out m2) b4)
    clear m4 b4
    go_wp2_with fail
    go_ret3
    exact ⟨.inl ⟨HE.out, a4, by have hq := HQ.out; subst hq; rfl, M4.out.base hw1⟩, B4.out⟩
  · have b1 : (E1 != (E2 : Int)) = true := by simpa using hE
    have HE := hide hE
    clear hE
    go_wp2_with fail
    go_ret3
    exact ⟨.inr ⟨HE.out, rfl⟩, below_drewN B1.out m2⟩

theorem cunframe_some {w : World} {b off len cap n : Nat} {bs : List Int} (h : Sq w (some ⟨b, off, none⟩) len cap bs) (ht : Tab w) (h8 : 8 + n ≤ len) (hm : len ≤ 140737488355328) (hn : fwordV bs = n) (hn1 : n ≤ 65536) :
    Calls Tryd.prog 6 #[.slice (some ⟨b, off, none⟩) len cap] w (Unframed w bs n) := by
  by_cases hc : cap = 8
  · have := h.lecap
    exact cunframe_thin h ht h8 hm hn hn1 ⟨hc, by omega⟩
  · exact cunframe_wide h ht h8 hm hn hn1 hc
end Go.Proofs.YtgenfklbponodaaDoor
