/- The landed clock's Set in all its ways; the calls of a nil clock; the law folder's awake. No condition but sizes. -/
import Derived.Test.YtoganfdpaagomaaClockSetA
import Derived.Test.YtoganfdpaagomaaClockSetB
import Derived.Test.YtoganfdpaagomaaClockNames
namespace Go.Proofs.Ytoganfdpaagomaa
open Go.ChangeShapes Go.WideShapes Go.ChangeAt Go.RowKit Cm
set_option linter.unusedVariables false

section
variable {w : World} {C : Nat} {L : Ql} {s : Cs} {B : Int}
set_option maxRecDepth 100000 in
theorem set_full (h : Cl w C L s B) (name : ByteArray) (d : Int) (hh : has s name = false) (hr : 64 ≤ s.r.length) (hg : ¬ (name.size < 1 ∨ 16 < name.size ∨ d < 1 ∨ 2147483647 < d)) :
    Calls Try.prog 18 #[.pointer (some ⟨C, 0, none⟩), .string name, .int .i64 d] w fun e w' => e = .returned (.int .i64 3) ∧ w' = w := by
  obtain ⟨l, o, h1, h2, hq, e0, k1, k2, hc⟩ := h.find name (by unfold maxLen; omega)
  have c2 := h.c2
  have CF := hide hc
  have CL := hide (len_any hq)
  have hln : l.length = s.r.length := h1.length_eq
  have x1 : ¬ ((name.size : Int) < 1) := by omega
  have x0 : name.size ≠ 0 := by omega
  have x2 : ¬ ((16 : Int) < (name.size : Int)) := by omega
  have x3 : ¬ (d < 1) := by omega
  have x4 : ¬ (2147483647 < d) := by omega
  have x5 : (64 : Int) ≤ (l.length : Int) := by omega
  cases o with
  | some i =>
    have := (k1 i rfl).2.2.2
    rw [hh] at this
    cases this
  | none =>
    clear h h1 h2 hq e0 k1 k2 hc hln hh hr hg
    go_enter Try.func18, Try.ntmps18
    go_wp2_with fail
    refine CF.out.mono ?_
    rintro e w2 ⟨rfl, rfl⟩
    go_wp2_with fail
    refine CL.out.mono ?_
    rintro e w2 ⟨rfl, rfl⟩
    go_wp2_with fail
    go_ret
    exact ⟨rfl, rfl⟩
theorem set_any (h : Cl w C L s B) (hB : B < 1000000000000000000) (name : ByteArray) (d : Int) :
    Calls Try.prog 18 #[.pointer (some ⟨C, 0, none⟩), .string name, .int .i64 d] w fun e w' => e = .returned (.int .i64 (setE s name d)) ∧ CMv w C L (setS s name d) (B + 1) w' := by
  by_cases hg : name.size < 1 ∨ 16 < name.size ∨ d < 1 ∨ 2147483647 < d
  · obtain ⟨e1, e2⟩ := bad_E (s := s) hg
    rw [e1, e2]
    exact (set_bad h name d hg).mono fun e w' ⟨a, b⟩ => ⟨a, by rw [b]; exact CMv.stay (h.mono (by omega))⟩
  · cases hh : has s name with
    | true => exact set_again h hB name d hh hg
    | false =>
      by_cases hr : s.r.length < 64
      · exact set_new h hB name d hh hr hg
      · obtain ⟨e1, e2⟩ := full_E (d := d) hg hh (by omega)
        rw [e1, e2]
        exact (set_full h name d hh (by omega) hg).mono fun e w' ⟨a, b⟩ => ⟨a, by rw [b]; exact CMv.stay (h.mono (by omega))⟩
end
/-- strings compared -/
theorem str_eq (a b : ByteArray) : (a.toList == b.toList) = decide (a = b) := by
  rw [Lib.toList_data, Lib.toList_data]
  by_cases h : a = b
  · subst h; simp
  · rw [decide_eq_false h, beq_eq_false_iff_ne]
    exact fun e => h (WideShapes.bytes_inj e)
theorem now_nil (w : World) : Calls Try.prog 11 #[.pointer none] w fun e w' => e = .returned (.int .i64 0) ∧ w' = w := by
  go_enter Try.func11, Try.ntmps11
  go_wp2_with fail
  go_ret
  exact ⟨rfl, rfl⟩
theorem set_nil (w : World) (name : ByteArray) (d : Int) : Calls Try.prog 18 #[.pointer none, .string name, .int .i64 d] w fun e w' => e = .returned (.int .i64 2) ∧ w' = w := by
  go_enter Try.func18, Try.ntmps18
  go_wp2_with fail
  go_ret
  exact ⟨rfl, rfl⟩
theorem stop_nil (w : World) (name : ByteArray) : Calls Try.prog 21 #[.pointer none, .string name] w fun e w' => e = .returned (.bool false) ∧ w' = w := by
  go_enter Try.func21, Try.ntmps21
  go_wp2_with fail
  go_ret
  exact ⟨rfl, rfl⟩
theorem due_nil (w : World) (name : ByteArray) : Calls Try.prog 15 #[.pointer none, .string name] w fun e w' => e = .returned (.tuple #[.int .i64 0, .bool false]) ∧ w' = w := by
  go_enter Try.func15, Try.ntmps15
  go_wp2_with fail
  go_ret2
  exact ⟨rfl, rfl⟩
theorem tick_nil (w : World) : Calls Try.prog 19 #[.pointer none] w fun e w' => e = .returned (.slice none 0 0) ∧ w' = w := by
  go_enter Try.func19, Try.ntmps19
  go_wp2_with fail
  go_ret
  exact ⟨rfl, rfl⟩
theorem names_nil (w : World) : Calls Try.prog 13 #[.pointer none] w fun e w' => e = .returned (.slice none 0 0) ∧ w' = w := by
  go_enter Try.func13, Try.ntmps13
  go_wp2_with fail
  go_ret
  exact ⟨rfl, rfl⟩
theorem fork_nil (w : World) : Calls Try.prog 20 #[.pointer none] w fun e w' => e = .returned (.pointer none) ∧ w' = w := by
  go_enter Try.func20, Try.ntmps20
  go_wp2_with fail
  go_ret
  exact ⟨rfl, rfl⟩
/-- a string of a list that was told -/
theorem Told.cell {w : World} {B m c b : Nat} {l : List ByteArray} (h : Told w B (.slice (some ⟨b, 0, none⟩) m c) l) (hm : m = l.length) {i : Nat} {x : ByteArray} (hx : l[i]? = some x) : w.cell? ⟨b, i, none⟩ = some (.string x) := by
  subst hm
  have hi := (List.getElem?_eq_some_iff.1 hx).1
  have := World.ownsRow.cellAt (h : w.ownsRow B 9 1 (.slice (some ⟨b, 0, none⟩) l.length c) l.length (strs l)) i (by omega)
  rw [this, strs, List.getElem?_map, hx]
  rfl
theorem Told.addr {w : World} {B m c : Nat} {a : Option Addr} {l : List ByteArray} (h : Told w B (.slice a m c) l) (h0 : 0 < l.length) : ∃ b, a = some ⟨b, 0, none⟩ ∧ B ≤ b ∧ b < w.heap.size := by
  obtain ⟨_, ⟨e1, e2⟩ | ⟨b, cp, cur, e1, e2, e3, _⟩⟩ := h
  · omega
  · exact ⟨b, by simp at e1; exact e1.1, e2, (Array.getElem?_eq_some_iff.1 e3).1⟩
/-- a clock at p whose blocks lie from N0 on -/
def ClN (w : World) (N0 p : Nat) (s : Cs) (B : Int) : Prop := ∃ L, Cl w p L s B ∧ ∀ k, Cb p L k → N0 ≤ k
theorem ClN.below {w w' : World} {N0 p : Nat} {s : Cs} {B : Int} (h : ClN w N0 p s B) (hb : Below w.heap.size w w') : ClN w' N0 p s B := by
  obtain ⟨L, h, h2⟩ := h
  exact ⟨L, h.below hb, h2⟩
theorem cmv_next {w w' : World} {N0 p : Nat} {s : Cs} {B : Int} {L : Ql} (hl : ∀ k, Cb p L k → N0 ≤ k) (hN : N0 ≤ w.heap.size) (h : CMv w p L s B w') : ClN w' N0 p s B ∧ Below N0 w w' := by
  obtain ⟨hc, L', h1, h3⟩ := h
  exact ⟨⟨L', h1, fun k hk => by rcases h3 k hk with h | h; exact hl k h; omega⟩, hc.below hN (fun k hk => hl k hk)⟩
theorem tick_next {w w' : World} {N0 p : Nat} {s : Cs} {B : Int} {L : Ql} {e : Ending} (hl : ∀ k, Cb p L k → N0 ≤ k) (hN : N0 ≤ w.heap.size) (h : TickP w p L s B e w') : ∃ a c, e = .returned (.slice a (tickN s).length c) ∧ Told w' w.heap.size (.slice a (tickN s).length c) (tickN s) ∧ ClN w' N0 p (tickS s) (B + 1) ∧ Below N0 w w' := by
  obtain ⟨a, c, e1, e2, hc, L', h1, h3, h4⟩ := h
  exact ⟨a, c, e1, e2, ⟨L', h1, fun k hk => by rcases h3 k hk with h | h; exact hl k h; omega⟩, hc.below hN (fun k hk => hl k hk)⟩
/-- what lies behind awake's two calls -/
theorem awake_s : setE newS ⟨#[120]⟩ 1 = 0 ∧ tickN (setS newS ⟨#[120]⟩ 1) = [⟨#[120]⟩] ∧ (tickS (setS newS ⟨#[120]⟩ 1)).now = 1 := by
  refine ⟨by decide, ?_, by decide⟩
  have e : setS newS ⟨#[120]⟩ 1 = ⟨0, 1, [⟨⟨#[120]⟩, 1, 1⟩]⟩ := by
    rw [(good_E (s := newS) (name := ⟨#[120]⟩) (d := 1) (by decide) (.inr (by decide))).2]
    simp [newS, without]
  rw [e]
  simp [tickN, nowDue, names]
set_option maxRecDepth 100000 in
theorem awake_any (w : World) : Calls Try.prog 9 #[] w fun e w' => e = .returned (.bool true) ∧ Below w.heap.size w w' := by
  have N := hide (new_any w)
  have AW := hide awake_s
  go_enter Try.func9, Try.ntmps9
  go_wp2_with fail
  refine N.out.mono ?_
  rintro e w1 ⟨rfl, hb1, L1, h1, hl1⟩
  have B1 := hide hb1
  have LL1 := hide hl1
  have CS := hide (set_any h1 (by omega) ⟨#[120]⟩ 1)
  rw [AW.out.1] at CS
  clear hb1 hl1 h1
  go_wp2_with fail
  refine CS.out.mono ?_
  rintro e w2 ⟨rfl, hm⟩
  obtain ⟨⟨L2, h2, hl2⟩, b2⟩ := cmv_next LL1.out B1.out.size hm
  have B2 := hide (B1.out.trans b2)
  have CT := hide (tick_any h2 (by omega))
  have LL2 := hide hl2
  clear hm h2 hl2 b2
  go_wp2_with fail
  refine CT.out.mono ?_
  intro e w3 ht
  obtain ⟨a, c, rfl, td, ⟨L3, h3, hl3⟩, b3⟩ := tick_next LL2.out B2.out.size ht
  rw [AW.out.2.1] at td ⊢
  obtain ⟨b, rfl, _, _⟩ := td.addr (by simp)
  have t0 := td.cell rfl (i := 0) rfl
  have CN := hide (now_any h3)
  rw [AW.out.2.2] at CN
  have B3 := hide (B2.out.trans b3)
  clear ht td h3 hl3 b3
  go_wp2_with fail
  refine CN.out.mono ?_
  rintro e w4 ⟨rfl, rfl⟩
  go_wp2_with fail
  go_ret
  exact ⟨rfl, B3.out⟩
end Go.Proofs.Ytoganfdpaagomaa
