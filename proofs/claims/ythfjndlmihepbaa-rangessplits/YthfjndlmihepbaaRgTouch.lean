/- A copy of the places in which one has a greater Epoch: the landed touched. Conditions: the list can be read, and has that place; the greatest Epoch is below the last. -/
import Derived.Test.YthfjndlmihepbaaRgCheck
import Derived.Test.YthfjndlmihepbaaFlatFnP
namespace Go.Proofs.Ythfjndlmihepbaa
open Go.ChangeShapes Go.WideShapes Go.ChangeAt Go.RowKit Rg
set_option linter.unusedVariables false

/-- what is stored where it lies changes nothing -/
theorem set_same {w : World} {g o : Nat} {v : Value} (h : w.cell? ⟨g, o, none⟩ = some v) : w.setCell ⟨g, o, none⟩ v = w := by
  have hh : (w.setCell ⟨g, o, none⟩ v).heap = w.heap := by
    apply Array.ext
    · simp [World.setCell]
    · intro i h1 h2
      by_cases hi : i = g
      · subst hi
        simp only [World.cell?] at h
        rw [Array.getElem?_eq_getElem h2] at h
        simp only [World.setCell, Array.getElem_modify_self]
        cases e : w.heap[i] with
        | cells c t fr =>
          rw [e] at h
          simp at h
          have hc : c.setIfInBounds o v = c := by
            obtain ⟨h3, h4⟩ := Array.getElem?_eq_some_iff.1 h
            apply Array.ext
            · simp
            · intro j h5 h6
              rw [Array.getElem_setIfInBounds]
              split
              · next e => subst e; exact h4.symm
              · rfl
          simp [hc]
        | _ => rfl
      · have := Below.heap_setCell w ⟨g, o, none⟩ v i hi
        rw [Array.getElem?_eq_getElem h1, Array.getElem?_eq_getElem h2] at this
        exact Option.some.inj this
  cases w
  simp only [World.setCell] at hh ⊢
  rw [hh]
theorem epoch_ge : ∀ (l : List Pc) (m : Int), m ≤ l.foldl (fun m p => maxI m p.ep) m
  | [], m => Int.le_refl _
  | p :: r, m => Int.le_trans (by unfold maxI; split <;> omega) (epoch_ge r (maxI m p.ep))
theorem epoch_nn (l : List Pc) : 0 ≤ epochV l := epoch_ge l 0
theorem epoch_in : ∀ (l : List Pc) (m : Int) (p : Pc), p ∈ l → p.ep ≤ l.foldl (fun m p => maxI m p.ep) m
  | y :: r, m, p, h => by
    rcases List.mem_cons.1 h with rfl | h
    · exact Int.le_trans (by unfold maxI; split <;> omega) (epoch_ge r (maxI m p.ep))
    · exact epoch_in r _ p h
theorem set3 (w : World) (g o : Nat) (m : Pc) : w.setCells g o (penc m) = ((w.setCell ⟨g, o, none⟩ (.int .i64 m.g)).setCell ⟨g, o + 1, none⟩ (.string m.k)).setCell ⟨g, o + 1 + 1, none⟩ (.int .i64 m.ep) := rfl
set_option maxRecDepth 100000 in
set_option maxHeartbeats 1000000 in
theorem touched_any {w : World} {a : Option Addr} {n c k : Nat} {l : List Pc} {p : Pc} (h : Ps w a n l) (hk : l[k]? = some p) (hep : epochV l < 4611686018427387904) :
    Calls Try.prog 37 #[.slice a n c, .int .i64 k] w fun e w' => ∃ g c', e = .returned (.slice (some ⟨g, 0, none⟩) n c') ∧ Below w.heap.size w w' ∧ w'.ownsRow w.heap.size 39 3 (.slice (some ⟨g, 0, none⟩) n c') n (fcells penc (l.set k (touch l p))) := by
  have H := hide h
  have hlt : k < n := by rw [← h.len]; exact (List.getElem?_eq_some_iff.1 hk).1
  have hr := h.room
  have HK := hide hk
  have CE := fun W hb => hide (epoch_any (c := c) (H.out.below (w' := W) hb))
  have hn := epoch_nn l
  have EP : Hid (touch l p = ⟨p.g, p.k, epochV l + 1⟩) := rfl
  generalize epochV l = ep at CE hep hn EP
  clear h hk
  go_enter Try.func37, Try.ntmps37
  go_wp2_with fail
  refine (FnP.clone_any H.out).mono ?_
  rintro e w1 ⟨a1, c1, rfl, hb1, ho1⟩
  have HB1 := hide hb1
  obtain ⟨_, ⟨e1, e2⟩ | ⟨g, cpp, cur, e1, hBg, hg, _⟩⟩ := id ho1
  · omega
  obtain ⟨rfl, rfl⟩ : a1 = some ⟨g, 0, none⟩ ∧ c1 = cpp := by simpa using e1
  have HO1 := hide ho1
  have HG : Hid (w.heap.size ≤ g) := hBg
  clear ho1 hg e1 hb1 hBg
  go_wp2_with fail
  refine (CE _ HB1.out).out.mono ?_
  rintro e w2 ⟨rfl, hb2⟩
  have ho2 := row_keeps HO1.out hb2
  have HB2 : Hid (Below w.heap.size w w2) := HB1.out.trans (hb2.mono HB1.out.size)
  obtain ⟨_, ⟨e1, e2⟩ | ⟨g', cpp, cur, e1, hBg, hg, _⟩⟩ := id ho2
  · omega
  obtain ⟨rfl, rfl⟩ : g = g' ∧ c1 = cpp := by simpa using e1
  have hf : w2.frozen? ⟨g, k * 3 + 2, none⟩ = false := frozen_of_row _ _ _ _ _ hg
  obtain ⟨b, off, z, eb, hz, _, M⟩ := ps_at (Rl.of_row (by_ := 32) pflat ho2 (by omega)) hlt
  obtain ⟨rfl, rfl⟩ : g = b ∧ 0 = off := by simpa using eb
  rw [Nat.zero_add] at M
  obtain ⟨y0, y1, y2⟩ := M
  obtain rfl : z = p := by have := HK.out; rw [this] at hz; exact (Option.some.inj hz).symm
  have hs := row_set pflat ho2 hlt (touch l z)
  rw [EP.out, set3, set_same (show w2.cell? ⟨g, k * 3, none⟩ = some (.int .i64 z.g) from y0), set_same (show w2.cell? ⟨g, k * 3 + 1, none⟩ = some (.string z.k) from y1)] at hs
  have HS := hide hs
  have i1 : (k : Int) < (n : Int) := by omega
  have i2 : IntKind.i64.wrap (ep + 1) = ep + 1 := by rw [IntKind.wrap_i64]; omega
  clear hs hz ho2 hg eb e1 hBg y0 y1 hb2 CE
  go_wp2_with fail
  go_returns
  refine ⟨_, _, rfl, ?_, ?_⟩
  · exact HB2.out.grown HS.out.2 HB2.out.size (fun k hk => by cases hk; exact HG.out)
  · rw [EP.out]
    exact HS.out.1
end Go.Proofs.Ythfjndlmihepbaa
