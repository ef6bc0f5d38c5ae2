/- The document's Plain. Condition: the account can be read. -/
import Derived.Test.YtfolpnjndlklkaaAcoRefB
import Derived.Test.YtfolpnjndlklkaaAcoSame
namespace Go.Proofs.Ytfolpnjndlklkaa
open Go.ChangeShapes Go.WideShapes Go.ChangeAt Go.RowKit Ao
set_option linter.unusedVariables false

/-- a new account of that key -/
def acK (k : ByteArray) : Ac := ⟨k, 0, 0, 0, 0, [], lk0⟩
theorem plain_eq (A : Ac) : plainB A = (keyB A.key && accEq A (acK A.key)) := by
  rw [Bool.eq_iff_iff, Bool.and_eq_true, accEq_iff]
  constructor
  · intro h
    unfold plainB knownB lockedB at h
    simp only [Bool.and_eq_true, decide_eq_true_eq, Bool.not_not] at h
    obtain ⟨⟨⟨⟨h1, h2, h3⟩, h4⟩, h5⟩, h6, h7⟩ := h
    have hR := (right_iff A).1 h1
    have hk := hR.lk
    have hc : A.lk.c = 0 := by simpa using h7
    unfold lkB at hk
    rw [if_pos hc] at hk
    have hk2 := of_decide_eq_true hk
    have h8 : A.hs = [] := by simpa using h6
    refine ⟨hR.key, ?_⟩
    obtain ⟨ak, alo, ahi, ab, ard, ahs, alk⟩ := A
    unfold acK
    simp only at h2 h3 h4 h5 h8 hk2 ⊢
    subst h2 h3 h4 h5 h8 hk2
    rfl
  · rintro ⟨hk, e⟩
    have hR : rightB A = true := by
      rw [right_iff, e]
      exact ⟨hk, ⟨Int.le_refl _, Int.le_refl _⟩, Int.le_refl _, rfl, by simp [acK, ups], by simp [acK, downs], by unfold lkB acK lk0; simp⟩
    unfold plainB knownB lockedB
    rw [hR, e]
    unfold acK lk0
    simp
set_option maxRecDepth 100000 in
set_option maxHeartbeats 2000000 in
theorem rplain_any {w : World} {a : Option Addr} {n c : Nat} {A : Ac} (h : Hs w a n A.hs) : Calls Try.prog 23 #[.agg #[.string A.key, .int .i64 A.lo, .int .i64 A.hi, .int .i64 A.base, .int .i64 A.rd, .slice a n c, .int .i64 A.lk.c, .int .i64 A.lk.s, .int .i64 A.lk.h, .int .i64 A.lk.n]] w fun e w' => e = .returned (.bool (plainB A)) ∧ Below w.heap.size w w' := by
  have NW := fun W => hide (rnew_any A.key W)
  have SM := fun W => hide (fun hW : Below w.heap.size w W => same_any (A := A) (B := acK A.key) (a := a) (b := none) (n := n) (c := c) (m := 0) (d := 0) (h.below hW) (Rl.nil _))
  rw [plain_eq]
  unfold acval acK lk0 at SM
  unfold acval newE newA at NW
  cases hk : keyB A.key
  · simp only [hk, Bool.false_eq_true, if_false] at NW
    unfold ac0 lk0 at NW
    clear SM h hk
    rw [Bool.false_and]
    go_enter Try.func23, Try.ntmps23
    go_wp2_with fail
    obtain ⟨w1, ew, hb1, ha1⟩ := one_new w A a n c
    rw [← ew]
    have HB1 := hide hb1
    have HA1 := hide ha1
    clear hb1 ha1 ew
    obtain ⟨z0, z1, z2, z3, z4, z5, z6, z7, z8, z9⟩ := HA1.out.at_
    have hs1 : w.heap.size < w1.heap.size := HA1.out.lt
    refine ((NW _).out).mono ?_
    rintro e w2 ⟨rfl, hb⟩
    have HB2 : Hid (Below w.heap.size w w2) := HB1.out.trans (hb.mono HB1.out.size)
    have HA2 := hide (HA1.out.below hb)
    clear hb z0 z1 z2 z3 z4 z5 z6 z7 z8 z9
    obtain ⟨z0, z1, z2, z3, z4, z5, z6, z7, z8, z9⟩ := HA2.out.at_
    have hs2 : w.heap.size < w2.heap.size := HA2.out.lt
    go_wp2_with fail
    go_returns
    exact ⟨rfl, HB2.out.alloc HB2.out.size _⟩
  · simp only [hk, if_true] at NW
    unfold lk0 at NW
    rw [Bool.true_and]
    obtain ⟨r, er⟩ : ∃ r, r = accEq A (acK A.key) := ⟨_, rfl⟩
    have ER : Hid (accEq A ⟨A.key, 0, 0, 0, 0, [], ⟨0, 0, 0, 0⟩⟩ = r) := er.symm
    rw [← er]
    simp only [ER.out] at SM
    clear h hk er ER
    go_enter Try.func23, Try.ntmps23
    go_wp2_with fail
    obtain ⟨w1, ew, hb1, ha1⟩ := one_new w A a n c
    rw [← ew]
    have HB1 := hide hb1
    have HA1 := hide ha1
    clear hb1 ha1 ew
    obtain ⟨z0, z1, z2, z3, z4, z5, z6, z7, z8, z9⟩ := HA1.out.at_
    have hs1 : w.heap.size < w1.heap.size := HA1.out.lt
    refine ((NW _).out).mono ?_
    rintro e w2 ⟨rfl, hb⟩
    have HB2 : Hid (Below w.heap.size w w2) := HB1.out.trans (hb.mono HB1.out.size)
    have HA2 := hide (HA1.out.below hb)
    clear hb z0 z1 z2 z3 z4 z5 z6 z7 z8 z9
    obtain ⟨z0, z1, z2, z3, z4, z5, z6, z7, z8, z9⟩ := HA2.out.at_
    have hs2 : w.heap.size < w2.heap.size := HA2.out.lt
    go_wp2_with fail
    obtain ⟨w3, ew, hbu, hau⟩ := one_new w2 (acK A.key) none 0 0
    unfold acK lk0 at ew
    rw [← ew]
    have HB3 : Hid (Below w.heap.size w w3) := HB2.out.trans (hbu.mono HB2.out.size)
    clear ew hbu hau z0 z1 z2 z3 z4 z5 z6 z7 z8 z9
    refine ((SM _).out HB3.out).mono ?_
    rintro e w4 ⟨rfl, hb⟩
    have HB4 : Hid (Below w.heap.size w w4) := HB3.out.trans (hb.mono HB3.out.size)
    go_wp2_with fail
    go_returns
    exact ⟨rfl, HB4.out⟩
end Go.Proofs.Ytfolpnjndlklkaa
