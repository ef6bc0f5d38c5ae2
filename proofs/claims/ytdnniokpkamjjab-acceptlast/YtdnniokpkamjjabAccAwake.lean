/- The law folder's awake; the calls of a nil acceptor. No condition. -/
import Derived.Test.YtdnniokpkamjjabAccAccept
import Derived.Handy
namespace Go.Proofs.Ytdnniokpkamjjab
open Go.ChangeShapes Go.WideShapes Go.ChangeAt Go.RowKit B8 Am
set_option linter.unusedVariables false

theorem awake_any (w : World) :
    Calls Try.prog 5 #[] w fun e w' => e = .returned (.bool true) ∧ Below w.heap.size w w' := by
  have N := hide (new_any w)
  go_enter Try.func5, Try.ntmps5
  go_wp2_with fail
  refine N.out.mono ?_
  rintro e w1 ⟨rfl, hb1, ha1⟩
  obtain ⟨A, eA⟩ : ∃ A, A = w.heap.size + 1 := ⟨_, rfl⟩
  rw [← eA] at ha1 ⊢
  have LA : Hid (w.heap.size ≤ A) := by show _ ≤ _; omega
  obtain ⟨mb, em⟩ : ∃ mb, mb = w.heap.size := ⟨_, rfl⟩
  rw [← em] at ha1
  have LM : Hid (w.heap.size ≤ mb) := by show _ ≤ _; omega
  have A1 := hide (ha1 (fun _ => True))
  have B1 := hide hb1
  clear hb1 ha1 eA em
  go_wp2_with fail
  have B2 : Hid (Below w1.heap.size w1 (w1.alloc (.cells #[.int .u8 5] 5))) := below_alloc (Below.refl _ _) _
  have A2 := hide (A1.out.below B2.out)
  have Q2 : Hid (Sq (w1.alloc (.cells #[.int .u8 5] 5)) (some ⟨w1.heap.size, 0, none⟩) 1 1 [5]) := ⟨rfl, by omega, (fun e => by cases e), fun _ => ⟨w1.heap.size, 0, rfl, fun j hj => by
    obtain rfl : j = 0 := by omega
    simp⟩, wfs_cons (by decide) wfs_nil⟩
  refine (accept_any A2.out (fun _ _ => trivial) ⟨2, 1, 1, some ⟨w1.heap.size, 0, none⟩, 1, 1, [5]⟩ Q2.out).mono ?_
  rintro e w3 ⟨rfl, hm3⟩
  have e1 : accE newS (Vv.vt ⟨2, 1, 1, some ⟨w1.heap.size, 0, none⟩, 1, 1, [5]⟩) = 0 := by rfl
  have e2 : (accS newS (Vv.vt ⟨2, 1, 1, some ⟨w1.heap.size, 0, none⟩, 1, 1, [5]⟩)).vs.length = 1 := by rfl
  have e3 : (accS newS (Vv.vt ⟨2, 1, 1, some ⟨w1.heap.size, 0, none⟩, 1, 1, [5]⟩)).first = 1 := by rfl
  rw [e1]
  have B3 : Hid (Below w.heap.size w w3) := (below_step B1.out B2.out).trans (hm3.1.below (Nat.le_trans B1.out.size B2.out.size) (fun k hk => by rcases hk with rfl | rfl; exact LA.out; exact LM.out))
  have V := hide (votes_any hm3.2)
  have A3 := hide hm3.2
  have E2 := hide e2
  have E3 := hide e3
  generalize accS newS (Vv.vt ⟨2, 1, 1, some ⟨w1.heap.size, 0, none⟩, 1, 1, [5]⟩) = s1 at *
  clear hm3 e1 e2 e3
  go_wp2_with fail
  refine V.out.mono ?_
  rintro e w4 ⟨a, m, c, l, rfl, hb4, ht4, hl4⟩
  obtain rfl : m = 1 := by
    have h1 := ht4.vl.len
    have h2 : (l.map Vv.vt).length = 1 := by rw [hl4]; exact E2.out
    simp at h2
    omega
  have F := hide (first_any (A3.out.below hb4))
  rw [E3.out] at F
  have B4 := hide (below_step B3.out hb4)
  clear hb4 ht4 hl4
  go_wp2_with fail
  refine F.out.mono ?_
  rintro e w5 ⟨rfl, rfl⟩
  go_wp2_with fail
  go_ret
  exact ⟨rfl, B4.out⟩
end Go.Proofs.Ytdnniokpkamjjab
