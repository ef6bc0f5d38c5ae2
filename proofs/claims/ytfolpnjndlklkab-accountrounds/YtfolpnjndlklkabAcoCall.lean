/- awake, and call: what any call makes of any account, the landed code. Condition: the account can be read. -/
import Derived.Deep.Cut
import Derived.Test.YtfolpnjndlklkabAcoAdd
import Derived.Test.YtfolpnjndlklkabAcoFrz
import Derived.Test.YtfolpnjndlklkabAcoBnd
import Derived.Test.YtfolpnjndlklkabAcoTake
import Derived.Test.YtfolpnjndlklkabAcoRep
import Derived.Test.YtfolpnjndlklkabAcoGrt
import Derived.Test.YtfolpnjndlklkabAcoGrtB
import Derived.Test.YtfolpnjndlklkabAcoFind
import Derived.Test.YtfolpnjndlklkabAcoOps
import Derived.Laws.Tables
namespace Go.Proofs.Ytfolpnjndlklkab
open Go.ChangeShapes Go.WideShapes Go.ChangeAt Go.RowKit Ao
set_option linter.unusedVariables false

theorem three_new (w : World) (X Y Z : Obj) : ∃ w1, w1 = ((w.alloc X).alloc Y).alloc Z ∧ Below w.heap.size w w1 ∧ w1.heap[w.heap.size]? = some X ∧ w1.heap[w.heap.size + 1]? = some Y ∧ w1.heap[w.heap.size + 2]? = some Z := by
  have b0 : Below w.heap.size w (w.alloc X) := Below.alloc (Below.refl _ _) (Nat.le_refl _) _
  have h0 := heap_alloc_new w X
  obtain ⟨u, eu⟩ : ∃ u, u = w.alloc X := ⟨_, rfl⟩
  have s0 : u.heap.size = w.heap.size + 1 := by rw [eu]; simp
  rw [← eu] at b0 h0 ⊢
  have b1 : Below u.heap.size u (u.alloc Y) := Below.alloc (Below.refl _ _) (Nat.le_refl _) _
  have h1 := heap_alloc_new u Y
  obtain ⟨v, ev⟩ : ∃ v, v = u.alloc Y := ⟨_, rfl⟩
  have s1 : v.heap.size = w.heap.size + 2 := by rw [ev]; simp; omega
  rw [← ev] at b1 h1 ⊢
  have b2 : Below v.heap.size v (v.alloc Z) := Below.alloc (Below.refl _ _) (Nat.le_refl _) _
  have h2 := heap_alloc_new v Z
  rw [s1] at h2
  rw [s0] at h1
  refine ⟨_, rfl, b0.trans ((b1.trans (b2.mono (by omega))).mono (by omega)), ?_, ?_, h2⟩
  · exact (b2.block _ (by omega)).trans ((b1.block _ (by omega)).trans h0)
  · exact (b2.block _ (by omega)).trans h1
theorem grant_call {w : World} {a : Option Addr} {n c : Nat} {A : Ac} {nd ls nodes : Int} (h : Hs w a n A.hs) (hw : AcW A) : Calls Try.prog 16 #[acval A a n c, .int .i64 nd, .int .i64 ls, .int .i64 nodes] w fun e w' => Mad w (grantA A nd ls nodes) (grantE A nd ls nodes) e w' := by
  by_cases he : grantE A nd ls nodes = 0
  · exact grant_good h hw he
  · exact grant_bad h hw he
theorem freeze_call {w : World} {a : Option Addr} {n c : Nat} {A : Ac} {v : Int} (h : Hs w a n A.hs) (hw : AcW A) : Calls Try.prog 6 #[acval A a n c, .int .i64 v] w fun e w' => Mad w (freezeA A v) (freezeE A v) e w' := freeze_any h hw
theorem report_call {w : World} {a : Option Addr} {n c : Nat} {A : Ac} {node lease r net : Int} (h : Hs w a n A.hs) (hw : AcW A) (hcp : Cp a n c) : Calls Try.prog 9 #[acval A a n c, .int .i64 node, .int .i64 lease, .int .i64 r, .int .i64 net] w fun e w' => Mad w (reportA A node lease r net) (reportE A node lease r net) e w' := report_any h hw hcp
theorem bounds_call {w : World} {a : Option Addr} {n c : Nat} {A : Ac} {lo hi : Int} (h : Hs w a n A.hs) (hw : AcW A) : Calls Try.prog 15 #[acval A a n c, sval lo hi] w fun e w' => Mad w (boundsA A lo hi) (boundsE A lo hi) e w' := bounds_any h hw
theorem take_call {w : World} {a : Option Addr} {n c : Nat} {A : Ac} {l : Lk} (h : Hs w a n A.hs) (hw : AcW A) (hl : LkW l) : Calls Try.prog 13 #[acval A a n c, lval l] w fun e w' => Mad w (takeA A l) (takeE A l) e w' := take_any h hw hl
theorem free_call {w : World} {a : Option Addr} {n c : Nat} {A : Ac} {b : Bool} (h : Hs w a n A.hs) (hw : AcW A) : Calls Try.prog 17 #[acval A a n c, .bool b] w fun e w' => Mad w (freeA A b) (freeE A) e w' := free_any h hw
theorem add_call {w : World} {a : Option Addr} {n c : Nat} {A : Ac} {v : Int} (h : Hs w a n A.hs) (hw : AcW A) (hv : I64 v) : Calls Try.prog 14 #[acval A a n c, .int .i64 v] w fun e w' => Mad w (addA A v) (addE A v) e w' := add_any h hw hv
set_option maxRecDepth 100000 in
set_option maxHeartbeats 2000000 in
theorem awake_any (w : World) : Calls Try.prog 5 #[] w fun e w' => e = .returned (.bool true) ∧ Below w.heap.size w w' := by
  have NW := fun W => hide (new_any ⟨#[107]⟩ W)
  rw [show newA ⟨#[107]⟩ = ⟨⟨#[107]⟩, 0, 0, 0, 0, [], lk0⟩ from if_pos (by decide), show newE ⟨#[107]⟩ = 0 by decide] at NW
  have kw : AcW ⟨⟨#[107]⟩, 0, 0, 0, 0, [], lk0⟩ := ⟨by decide, acw0.lo, acw0.hi, acw0.base, acw0.rd, lkw0, fun h hh => by cases hh⟩
  have PN := fun W => hide (plain_a (w := W) (a := none) (n := 0) (c := 0) (A := ⟨⟨#[107]⟩, 0, 0, 0, 0, [], lk0⟩) (Rl.nil _) kw)
  rw [show plainB ⟨⟨#[107]⟩, 0, 0, 0, 0, [], lk0⟩ = true by decide] at PN
  have CZ := fun W => hide (check_any (w := W) (a := none) (n := 0) (c := 0) (A := ac0) (Rl.nil _) acw0)
  rw [show checkE ac0 = 21 by decide] at CZ
  unfold acval lk0 at NW PN
  unfold acval ac0 lk0 at CZ
  clear kw
  go_enter Try.func5, Try.ntmps5
  go_wp2_with fail
  refine (NW _).out.mono ?_
  rintro e w1 ⟨rfl, hb⟩
  have HB1 := hide hb
  clear hb
  go_wp2_with fail
  refine (PN _).out.mono ?_
  rintro e w2 ⟨rfl, hb⟩
  have HB2 : Hid (Below w.heap.size w w2) := (HB1.out.alloc HB1.out.size _).trans (hb.mono (HB1.out.alloc HB1.out.size _).size)
  clear hb
  go_wp2_with fail
  refine (CZ _).out.mono ?_
  rintro e w3 ⟨rfl, hb⟩
  have HB3 : Hid (Below w.heap.size w w3) := HB2.out.trans (hb.mono HB2.out.size)
  clear hb
  go_wp2_with fail
  go_returns
  exact ⟨rfl, HB3.out⟩
end Go.Proofs.Ytfolpnjndlklkab
