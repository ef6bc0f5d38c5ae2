/- The law's awake. No condition. -/
import Derived.Test.YthfjndlmihepbaaRgSplit
namespace Go.Proofs.Ythfjndlmihepbaa
open Go.ChangeShapes Go.WideShapes Go.ChangeAt Go.RowKit Rg
set_option linter.unusedVariables false

def awM : ByteArray := ⟨#[109]⟩
def awZ : ByteArray := ⟨#[122]⟩
theorem aw_m : ltB awM none0 = false := lt_none _
theorem aw_zm : ltB awZ awM = false := by unfold ltB; rw [Lib.toList_data, Lib.toList_data]; rfl
def aw1 : List Pc := [⟨1, none0, 1⟩]
def aw2 : List Pc := [⟨1, none0, 2⟩, ⟨2, awM, 2⟩]
theorem aw_right : rightB aw1 = true := right_of (by decide) (by decide) (by rfl) (fun j hj => by
  have hj' : j < 1 := hj
  obtain rfl : j = 0 := by omega
  rw [ok_zero (p := ⟨1, none0, 1⟩) rfl]
  rfl)
theorem aw_find : findV aw1 awM = 0 := by
  unfold findV
  rw [first_at (k := 0) (by decide) (by unfold hasB aw1 withinB endN; simp [aw_m]) (fun j h => by omega)]
  rfl
theorem aw_find2 : findV aw2 awZ = 1 := by
  unfold findV
  rw [first_at (k := 1) (by decide) (by unfold hasB aw2 withinB endN; simp [aw_zm]) (fun j h => by
    obtain rfl : j = 0 := by omega
    unfold hasB aw2 withinB endN
    simp [aw_zm]
    intro _ h
    have := size_none.1 h
    exact absurd this (by decide))]
  rfl
theorem aw_e : splitE aw1 awM 2 = 0 := by
  unfold splitE
  rw [if_neg (by rw [aw_right]; decide), if_neg (by decide), aw_find, if_neg (by
    rintro (h | h)
    · exact absurd h (by decide)
    · have h' : none0 = awM := h
      exact absurd (size_none.1 h'.symm) (by decide))]
  rfl
theorem aw_l : splitL aw1 awM 2 = aw2 := by
  unfold splitL
  rw [if_pos aw_e, aw_find]
  rfl
theorem aw_lit1 : ({ data := #[109] } : ByteArray) = awM := rfl
theorem aw_lit2 : ({ data := #[122] } : ByteArray) = awZ := rfl
set_option maxRecDepth 100000 in
set_option maxHeartbeats 1000000 in
theorem awake_any (w : World) : Calls Try.prog 12 #[] w fun e w' => e = .returned (.bool true) ∧ Below w.heap.size w w' := by
  have X0 := hide (pb_new w ⟨1, none0, 1⟩)
  obtain ⟨w1, ew⟩ : ∃ w1, w1 = w.alloc (.cells #[.int .i64 1, .string none0, .int .i64 1] 39) := ⟨_, rfl⟩
  have HB1 : Hid (Below w.heap.size w w1) := by rw [ew]; exact below_alloc (Below.refl _ _) _
  rw [← ew] at X0
  have HP : Hid (Ps w1 (some ⟨w.heap.size, 0, none⟩) 1 aw1) := ⟨rfl, fun _ => ⟨_, _, rfl, X0.out.lt, fun j x hj => by
    have hj1 : j < 1 := (List.getElem?_eq_some_iff.1 hj).1
    obtain rfl : j = 0 := by omega
    obtain rfl : (⟨1, none0, 1⟩ : Pc) = x := Option.some.inj hj
    intro o v hv
    have M := X0.out.at_
    match o, hv with
    | 0, hv => rw [← Option.some.inj hv]; exact M.c0
    | 1, hv => rw [← Option.some.inj hv]; exact M.c1
    | 2, hv => rw [← Option.some.inj hv]; exact M.c2⟩, by omega⟩
  have C1 := hide (split_any (c := 1) HP.out ⟨fun e => (by cases e), Nat.le_refl _⟩ awM 2)
  rw [aw_e, aw_l] at C1
  go_enter Try.func12, Try.ntmps12
  go_wp2_with fail
  simp only [aw_lit1, none_lit]
  rw [← ew]
  clear ew
  refine C1.out.mono ?_
  rintro e w2 ⟨a2, n2, c2, rfl, hp2, hb2, hc2⟩
  have h2 : n2 = 2 := by rw [← hp2.len]; rfl
  subst h2
  have HB2 : Hid (Below w.heap.size w w2) := HB1.out.trans (hb2.mono HB1.out.size)
  have C2 := hide (find_any (c := c2) hp2 awZ)
  rw [aw_find2] at C2
  clear hp2 hb2 hc2 C1
  go_wp2_with fail
  simp only [aw_lit2]
  refine C2.out.mono ?_
  rintro e w3 ⟨rfl, hb3⟩
  have HB3 : Hid (Below w.heap.size w w3) := HB2.out.trans (hb3.mono HB2.out.size)
  have C3 := hide (check_any (w := w3) (c := 0) (Rl.nil w3) cp_none)
  rw [show checkE [] = 21 from rfl] at C3
  clear hb3 C2
  go_wp2_with fail
  refine C3.out.mono ?_
  rintro e w4 ⟨rfl, hb4⟩
  have HB4 : Hid (Below w.heap.size w w4) := HB3.out.trans (hb4.mono HB3.out.size)
  clear hb4 C3
  go_wp2_with fail
  go_returns
  exact ⟨rfl, HB4.out⟩
end Go.Proofs.Ythfjndlmihepbaa
