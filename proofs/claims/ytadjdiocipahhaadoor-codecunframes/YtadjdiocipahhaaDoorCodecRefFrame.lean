/- What the document's own Frame (purseref02) returns, at the landed code. No condition. -/
import Derived.Test.YtadjdiocipahhaaDoorCodecRefNum
import Derived.Test.YtadjdiocipahhaaDoorCodecRefSum
namespace Go.Proofs.YtadjdiocipahhaaDoor
open Go.ChangeShapes Go.WideShapes Go.ChangeAt Go.RowKit B8 Cm
set_option linter.unusedVariables false

/-- four bytes, the lowest first -/
def wordB (v : Int) : List Int := [v % 256, v / 256 % 256, v / 65536 % 256, v / 16777216]
theorem wordB_wfs (v : Int) (h0 : 0 ≤ v) (h1 : v ≤ 4294967295) : wfs (wordB v) :=
  wfs_cons (WalkArith.wf_u8 (by omega)) (wfs_cons (WalkArith.wf_u8 (by omega)) (wfs_cons (WalkArith.wf_u8 (by omega)) (wfs_cons (WalkArith.wf_u8 (by omega)) wfs_nil)))
/-- the frame of bytes -/
def frameB (bs : List Int) : List Int := wordB bs.length ++ wordB (sumB (wordB bs.length ++ bs)) ++ bs
theorem frameB_length (bs : List Int) : (frameB bs).length = bs.length + 8 := by unfold frameB wordB; simp

theorem frameB_wfs (bs : List Int) (h : wfs bs) (hl : bs.length ≤ 4294967295) : wfs (frameB bs) := by
  have := sumB_lt (wordB bs.length ++ bs)
  exact wfs_append (wfs_append (wordB_wfs _ (by omega) (by omega)) (wordB_wfs _ (by omega) (by omega))) h

theorem refword_row (v : Int) (w : World) (B : Nat) (hB : B ≤ w.heap.size) (h0 : 0 ≤ v) (h1 : v ≤ 4294967295) :
    Calls Tryd.prog 23 #[.int .u32 v] w fun e w' => e = .returned (.slice (some ⟨w.heap.size, 0, none⟩) 4 4) ∧ w'.ownsRow B 5 1 (.slice (some ⟨w.heap.size, 0, none⟩) 4 4) 4 (vals (wordB v)) ∧ Below w.heap.size w w' := by
  refine (refword_any v w h0 h1).mono ?_
  rintro e w' ⟨rfl, rfl⟩
  exact ⟨rfl, row_new w B hB _ (by unfold maxLen; simp), below_alloc (Below.refl _ _) _⟩

theorem refframe_long (a : Option Addr) (len cap : Nat) (w : World) (h : 65536 < len) :
    Calls Tryd.prog 7 #[.slice a len cap] w fun e w' => e = .returned (.tuple #[.slice none 0 0, .int .i64 22]) ∧ w' = w := by
  go_enter Tryd.func7, Tryd.ntmps7
  go_wp2_with fail
  go_ret2
  exact ⟨rfl, rfl⟩

set_option maxHeartbeats 1000000 in
theorem refframe_sq {a : Option Addr} {len cap : Nat} {bs : List Int} {w : World} (h : Sq w a len cap bs) (hr : len ≤ 65536) :
    Calls Tryd.prog 7 #[.slice a len cap] w fun e w' => ∃ y, e = .returned (.tuple #[y, .int .i64 0]) ∧ w'.ownsRow w.heap.size 5 1 y (frameB bs).length (vals (frameB bs)) ∧ Below w.heap.size w w' := by
  have H := hide h
  have c1 := hide (refword_row len w w.heap.size (Nat.le_refl _) (by omega) (by omega))
  clear h
  go_enter Tryd.func7, Tryd.ntmps7
  go_wp2_with fail
  refine c1.out.mono ?_
  rintro e w1 ⟨rfl, hown1, hb1⟩
  have hN : w.heap.size < w1.heap.size := (hown1.lt _ rfl).2
  have r0 := row_new w1 (w.heap.size + 1) hN #[] (by decide)
  obtain ⟨a1, cp1, e1, q1⟩ := sq_of_row (zs := wordB len) rfl (wordB_wfs _ (by omega) (by omega)) (hown1.alloc (.cells #[] 5))
  simp only [Value.slice.injEq] at e1
  obtain ⟨rfl, _, rfl⟩ := e1
  go_wp2_with (first
    | (at_builtin; refine wp_append_sq _ rfl (.tmp 13) (.tmp 14) rfl (w.heap.size + 1) (.slice (some ⟨w1.heap.size, 0, none⟩) 0 0) 0 [] rfl r0 (some ⟨w.heap.size, 0, none⟩) 4 4 (wordB len) rfl q1 (by omega) (by simp; omega) ?_; intro v2 w2 hown2 hgrow2; have b2 : Below w.heap.size w w2 := below_grown (below_alloc hb1 _) r0 (by omega) hgrow2; have k2 : w2.ownsRow w.heap.size 5 1 (.slice (some ⟨w.heap.size, 0, none⟩) 4 4) 4 (vals (wordB len)) := (hown1.alloc _).kept hgrow2 (.inr (by show some _ ≠ some _; simp; omega)); have q2 := H.out.below b2; simp only [List.nil_append, Nat.zero_add] at hown2; have z2 : w.heap.size + 1 ≤ w2.heap.size := Nat.le_trans (by simp; omega) hgrow2.size)
    | (at_builtin; refine wp_append_sq _ rfl (.tmp 15) (.tmp 16) rfl (w.heap.size + 1) v2 4 (wordB len) rfl hown2 a len cap bs rfl q2 (by omega) z2 ?_; intro v3 w3 hown3 hgrow3))
  have b3 := below_grown b2 hown2 (by omega) hgrow3
  have k3 := k2.kept hgrow3 (by
    rcases hv : v2.ownBlock with _ | k
    · exact .inr (by simp [Value.ownBlock])
    · refine .inr ?_
      have := (hown2.lt k hv).1
      show some _ ≠ some _
      simp
      omega)
  have wl := wordB_wfs (len : Int) (by omega) (by omega)
  obtain ⟨a3, cp3, e3, q3⟩ := sq_of_row (by have := H.out.length; simp [wordB]; omega) (wfs_append wl H.out.wf) hown3
  rw [e3]
  have c3 := hide (refsum_sq q3 (by omega))
  obtain ⟨S, hS⟩ : ∃ S, S = sumB (wordB len ++ bs) := ⟨_, rfl⟩
  rw [← hS] at c3
  have s1 : S < 4294967296 := by rw [hS]; exact sumB_lt _
  have HS := hide hS
  have B3 := hide b3
  have K3 := hide k3
  clear hS b3 k3 b2 k2 q2 hown2 hown3 hgrow2 hgrow3 e3 q3 q1 r0 hown1 hb1 c1 wl
  go_wp2_with fail
  refine c3.out.mono ?_
  rintro e wq ⟨rfl, hwq⟩
  subst wq
  go_wp2_with fail
  refine (refword_row S w3 w3.heap.size (Nat.le_refl _) (by omega) (by omega)).mono ?_
  rintro e w4 ⟨rfl, hown4, hb4⟩
  have b4 : Below w.heap.size w w4 := below_step B3.out hb4
  have k4 := row_below K3.out hb4
  obtain ⟨a4, cp4, e4, q4⟩ := sq_of_row (zs := wordB S) rfl (wordB_wfs _ (by omega) (by omega)) hown4
  simp only [Value.slice.injEq] at e4
  obtain ⟨rfl, _, rfl⟩ := e4
  go_wp2_with (first
    | (at_builtin; refine wp_append_sq _ rfl (.tmp 20) (.tmp 21) rfl w.heap.size (.slice (some ⟨w.heap.size, 0, none⟩) 4 4) 4 (wordB len) rfl k4 (some ⟨w3.heap.size, 0, none⟩) 4 4 (wordB S) rfl q4 (by omega) b4.size ?_; intro v5 w5 hown5 hgrow5; have b5 := below_grown b4 k4 (Nat.le_refl _) hgrow5; have q5 := H.out.below b5)
    | (at_builtin; refine wp_append_sq _ rfl (.tmp 22) (.tmp 23) rfl w.heap.size v5 8 (wordB len ++ wordB S) rfl hown5 a len cap bs rfl q5 (by omega) b5.size ?_; intro v6 w6 hown6 hgrow6))
  have b6 := below_grown b5 hown5 (Nat.le_refl _) hgrow6
  go_ret2
  refine ⟨v6, rfl, ?_, b6⟩
  rw [frameB_length, H.out.length, Nat.add_comm len 8]
  unfold frameB
  rw [H.out.length, ← HS.out]
  exact hown6
end Go.Proofs.YtadjdiocipahhaaDoor
