/- awake, and call: what any call makes of any account, the landed code. Condition: the account can be read. -/
import Derived.Deep.Cut
import Derived.Test.YtjcbhgkfbilifaaFAcoAdd
import Derived.Test.YtjcbhgkfbilifaaJBA
import Derived.Test.YtjcbhgkfbilifaaJBC
import Derived.Test.YtjcbhgkfbilifaaFAcoFind
import Derived.Test.YtjcbhgkfbilifaaFAcoOps
import Derived.Laws.Tables
namespace Go.Proofs.Ytjcbhgkfbilifaa
open Go.ChangeShapes Go.WideShapes Go.ChangeAt Go.RowKit Ao
set_option linter.unusedVariables false

theorem three_new (w : World) (X Y Z : Obj) : ∃ w1, w1 = ((w.alloc X).alloc Y).alloc Z ∧ Below w.heap.size w w1 ∧ w1.heap[w.heap.size]? = some X ∧ w1.heap[w.heap.size + 1]? = some Y ∧ w1.heap[w.heap.size + 2]? = some Z := by
  have b0 : Below w.heap.size w (w.alloc X) := Below.alloc (Below.refl _ _) (Nat.le_refl _) _
  have h0 := heap_alloc_new w X
  obtain ⟨u, eu⟩ : ∃ u, u = w.alloc X := ⟨_, rfl⟩
  have s0 : u.heap.size = w.heap.size + 1 := by rw [eu]; simp
  rw [← eu] at b0 h0 ⊢
  have b1 : Below u.heap.size u (u.alloc Y) := Below.alloc (Below.refl _ _) (Nat.le_refl _) _
  have h1 := heap_alloc_new u Y
  obtain ⟨v, ev⟩ : ∃ v, v = u.alloc Y := ⟨_, rfl⟩
  have s1 : v.heap.size = w.heap.size + 2 := by rw [ev]; simp; omega
  rw [← ev] at b1 h1 ⊢
  have b2 : Below v.heap.size v (v.alloc Z) := Below.alloc (Below.refl _ _) (Nat.le_refl _) _
  have h2 := heap_alloc_new v Z
  rw [s1] at h2
  rw [s0] at h1
  refine ⟨_, rfl, b0.trans ((b1.trans (b2.mono (by omega))).mono (by omega)), ?_, ?_, h2⟩
  · exact (b2.block _ (by omega)).trans ((b1.block _ (by omega)).trans h0)
  · exact (b2.block _ (by omega)).trans h1
theorem grant_call {w : World} {a : Option Addr} {n c : Nat} {A : Ac} {nd ls nodes : Int} (h : Hs w a n A.hs) (hw : AcW A) : Calls Try.prog 39 #[acval A a n c, .int .i64 nd, .int .i64 ls, .int .i64 nodes] w fun e w' => Mad w (grantA A nd ls nodes) (grantE A nd ls nodes) e w' := by
  by_cases he : grantE A nd ls nodes = 0
  · exact grant_good h hw he
  · exact grant_bad h hw he
theorem freeze_call {w : World} {a : Option Addr} {n c : Nat} {A : Ac} {v : Int} (h : Hs w a n A.hs) (hw : AcW A) : Calls Try.prog 40 #[acval A a n c, .int .i64 v] w fun e w' => Mad w (freezeA A v) (freezeE A v) e w' := freeze_any h hw
theorem thaw_call {w : World} {a : Option Addr} {n c : Nat} {A : Ac} (h : Hs w a n A.hs) (hw : AcW A) : Calls Try.prog 41 #[acval A a n c] w fun e w' => Mad w (thawA A) (thawE A) e w' := thaw_any h hw
theorem report_call {w : World} {a : Option Addr} {n c : Nat} {A : Ac} {node lease r net : Int} (h : Hs w a n A.hs) (hw : AcW A) (hcp : Cp a n c) : Calls Try.prog 42 #[acval A a n c, .int .i64 node, .int .i64 lease, .int .i64 r, .int .i64 net] w fun e w' => Mad w (reportA A node lease r net) (reportE A node lease r net) e w' := report_any h hw hcp
theorem bounds_call {w : World} {a : Option Addr} {n c : Nat} {A : Ac} {lo hi : Int} (h : Hs w a n A.hs) (hw : AcW A) : Calls Try.prog 43 #[acval A a n c, sval lo hi] w fun e w' => Mad w (boundsA A lo hi) (boundsE A lo hi) e w' := bounds_any h hw
theorem take_call {w : World} {a : Option Addr} {n c : Nat} {A : Ac} {l : Lk} (h : Hs w a n A.hs) (hw : AcW A) (hl : LkW l) : Calls Try.prog 44 #[acval A a n c, lval l] w fun e w' => Mad w (takeA A l) (takeE A l) e w' := take_any h hw hl
theorem free_call {w : World} {a : Option Addr} {n c : Nat} {A : Ac} {b : Bool} (h : Hs w a n A.hs) (hw : AcW A) : Calls Try.prog 45 #[acval A a n c, .bool b] w fun e w' => Mad w (freeA A b) (freeE A) e w' := free_any h hw
theorem add_call {w : World} {a : Option Addr} {n c : Nat} {A : Ac} {v : Int} (h : Hs w a n A.hs) (hw : AcW A) (hv : I64 v) : Calls Try.prog 46 #[acval A a n c, .int .i64 v] w fun e w' => Mad w (addA A v) (addE A v) e w' := add_any h hw hv
set_option maxRecDepth 100000 in
set_option maxHeartbeats 2000000 in
theorem call_any {w : World} {a : Option Addr} {n c : Nat} {A : Ac} {o : Opd} {nodes : Int} (h : Hs w a n A.hs) (hw : AcW A) (hcp : Cp a n c) (ho : OpW o) : Calls Try.prog 10 #[acval A a n c, oval o, .int .i64 nodes] w fun e w' => Mad w (stepA A o nodes) (stepE A o nodes) e w' := by
  obtain ⟨k, nd, ls, rd, nn, lo, hi, lk, cm⟩ := o
  by_cases k1 : k = 1
  · subst k1
    have eE : stepE A ⟨1, nd, ls, rd, nn, lo, hi, lk, cm⟩ nodes = grantE A nd ls nodes := by unfold stepE; rw [if_pos rfl]
    have eA : stepA A ⟨1, nd, ls, rd, nn, lo, hi, lk, cm⟩ nodes = grantA A nd ls nodes := by unfold stepA; rw [if_pos rfl]
    have C : ∀ W, Hid (Below w.heap.size w W → Calls Try.prog 39 #[.agg #[.string A.key, .int .i64 (A.lo), .int .i64 (A.hi), .int .i64 (A.base), .int .i64 (A.rd), .slice a n c, .int .i64 (A.lk.c), .int .i64 (A.lk.s), .int .i64 (A.lk.h), .int .i64 (A.lk.n)], .int .i64 nd, .int .i64 ls, .int .i64 nodes] W fun e w' => ∃ a' n' c', e = .returned (.tuple #[.agg #[.string (grantA A nd ls nodes).key, .int .i64 ((grantA A nd ls nodes).lo), .int .i64 ((grantA A nd ls nodes).hi), .int .i64 ((grantA A nd ls nodes).base), .int .i64 ((grantA A nd ls nodes).rd), (.slice a' n' c'), .int .i64 ((grantA A nd ls nodes).lk.c), .int .i64 ((grantA A nd ls nodes).lk.s), .int .i64 ((grantA A nd ls nodes).lk.h), .int .i64 ((grantA A nd ls nodes).lk.n)], .int .i64 (grantE A nd ls nodes)]) ∧ Hs w' a' n' (grantA A nd ls nodes).hs ∧ Below W.heap.size W w' ∧ Fr W.heap.size a' ∧ Cp a' n' c') := fun W hW => grant_call (h.below hW) hw
    rw [eE, eA]
    generalize grantA A nd ls nodes = B at C ⊢
    generalize grantE A nd ls nodes = E at C ⊢
    clear eE eA h hw hcp ho
    unfold acval oval
    go_enter Try.func10, Try.ntmps10
    go_upto_region 3 with fail
    go_wp2_with fail
    obtain ⟨w1, ew, hb1, _, _, hz1⟩ := three_new w (.cells #[.string A.key, .int .i64 (A.lo), .int .i64 (A.hi), .int .i64 (A.base), .int .i64 (A.rd), .slice a n c, .int .i64 (A.lk.c), .int .i64 (A.lk.s), .int .i64 (A.lk.h), .int .i64 (A.lk.n)] 28) (.cells #[.int .i64 1, .int .i64 nd, .int .i64 ls, .int .i64 rd, .int .i64 nn, .int .i64 lo, .int .i64 hi, .int .i64 lk.c, .int .i64 lk.s, .int .i64 lk.h, .int .i64 lk.n, .bool cm] 30) (.cells #[.string ⟨#[]⟩, .int .i64 0, .int .i64 0, .int .i64 0, .int .i64 0, .slice none 0 0, .int .i64 0, .int .i64 0, .int .i64 0, .int .i64 0] 28)
    rw [← ew]
    have HB1 := hide hb1
    have HZ1 : Hid (Zr w1 (w.heap.size + 2)) := hz1
    clear ew hb1 hz1
    refine ((C _).out HB1.out).mono ?_
    rintro e w2 ⟨a', n', c', rfl, h5, hb, hf, hc⟩
    have HB2 : Hid (Below w.heap.size w w2) := HB1.out.trans (hb.mono HB1.out.size)
    have HZ2 := hide (HZ1.out.below hb)
    have H5 : Hid (Hs (w2.setRow (w.heap.size + 2) #[.string B.key, .int .i64 (B.lo), .int .i64 (B.hi), .int .i64 (B.base), .int .i64 (B.rd), (.slice a' n' c'), .int .i64 (B.lk.c), .int .i64 (B.lk.s), .int .i64 (B.lk.h), .int .i64 (B.lk.n)]) a' n' B.hs) := h5.setRow fun ad e => by have := hf ad e; have := HZ1.out.lt; omega
    have HF : Hid (Fr w.heap.size a') := hf.mono HB1.out.size
    have HC := hide hc
    clear h5 hb hf hc
    go_wp2_with (refine wpList_store_row rfl 28 (.tmp 6) (.tmp 19) rfl (w.heap.size + 2) #[.string B.key, .int .i64 (B.lo), .int .i64 (B.hi), .int .i64 (B.base), .int .i64 (B.rd), (.slice a' n' c'), .int .i64 (B.lk.c), .int .i64 (B.lk.s), .int .i64 (B.lk.h), .int .i64 (B.lk.n)] rfl rfl 28 #[.string ⟨#[]⟩, .int .i64 0, .int .i64 0, .int .i64 0, .int .i64 0, .slice none 0 0, .int .i64 0, .int .i64 0, .int .i64 0, .int .i64 0] HZ2.out ac_info rfl (by simp [Value.oneCell']) ?_)
    refine bodyPost_ret (v := .tuple #[.agg #[.string B.key, .int .i64 (B.lo), .int .i64 (B.hi), .int .i64 (B.base), .int .i64 (B.rd), (.slice a' n' c'), .int .i64 (B.lk.c), .int .i64 (B.lk.s), .int .i64 (B.lk.h), .int .i64 (B.lk.n)], .int .i64 E]) ?r ?d ?_
    case r => exact results_cell_tmp' rfl _ _ (w.heap.size + 2) 28 #[.string B.key, .int .i64 (B.lo), .int .i64 (B.hi), .int .i64 (B.base), .int .i64 (B.rd), (.slice a' n' c'), .int .i64 (B.lk.c), .int .i64 (B.lk.s), .int .i64 (B.lk.h), .int .i64 (B.lk.n)] (0, 0) _ (.int .i64 E) rfl rfl (setRow_heap _ _ _ _ _ _ HZ2.out) Try.underlying28 rfl ac_info
    case d => rfl
    exact ⟨a', n', c', rfl, H5.out, below_setRow HB2.out (by omega) _, HF.out, HC.out⟩
  by_cases k2 : k = 2
  · subst k2
    have eE : stepE A ⟨2, nd, ls, rd, nn, lo, hi, lk, cm⟩ nodes = freezeE A rd := by unfold stepE; rw [if_neg k1, if_pos rfl]
    have eA : stepA A ⟨2, nd, ls, rd, nn, lo, hi, lk, cm⟩ nodes = freezeA A rd := by unfold stepA; rw [if_neg k1, if_pos rfl]
    have C : ∀ W, Hid (Below w.heap.size w W → Calls Try.prog 40 #[.agg #[.string A.key, .int .i64 (A.lo), .int .i64 (A.hi), .int .i64 (A.base), .int .i64 (A.rd), .slice a n c, .int .i64 (A.lk.c), .int .i64 (A.lk.s), .int .i64 (A.lk.h), .int .i64 (A.lk.n)], .int .i64 rd] W fun e w' => ∃ a' n' c', e = .returned (.tuple #[.agg #[.string (freezeA A rd).key, .int .i64 ((freezeA A rd).lo), .int .i64 ((freezeA A rd).hi), .int .i64 ((freezeA A rd).base), .int .i64 ((freezeA A rd).rd), (.slice a' n' c'), .int .i64 ((freezeA A rd).lk.c), .int .i64 ((freezeA A rd).lk.s), .int .i64 ((freezeA A rd).lk.h), .int .i64 ((freezeA A rd).lk.n)], .int .i64 (freezeE A rd)]) ∧ Hs w' a' n' (freezeA A rd).hs ∧ Below W.heap.size W w' ∧ Fr W.heap.size a' ∧ Cp a' n' c') := fun W hW => freeze_call (h.below hW) hw
    rw [eE, eA]
    generalize freezeA A rd = B at C ⊢
    generalize freezeE A rd = E at C ⊢
    clear eE eA h hw hcp ho
    unfold acval oval
    go_enter Try.func10, Try.ntmps10
    go_upto_region 5 with fail
    go_wp2_with fail
    obtain ⟨w1, ew, hb1, _, _, hz1⟩ := three_new w (.cells #[.string A.key, .int .i64 (A.lo), .int .i64 (A.hi), .int .i64 (A.base), .int .i64 (A.rd), .slice a n c, .int .i64 (A.lk.c), .int .i64 (A.lk.s), .int .i64 (A.lk.h), .int .i64 (A.lk.n)] 28) (.cells #[.int .i64 2, .int .i64 nd, .int .i64 ls, .int .i64 rd, .int .i64 nn, .int .i64 lo, .int .i64 hi, .int .i64 lk.c, .int .i64 lk.s, .int .i64 lk.h, .int .i64 lk.n, .bool cm] 30) (.cells #[.string ⟨#[]⟩, .int .i64 0, .int .i64 0, .int .i64 0, .int .i64 0, .slice none 0 0, .int .i64 0, .int .i64 0, .int .i64 0, .int .i64 0] 28)
    rw [← ew]
    have HB1 := hide hb1
    have HZ1 : Hid (Zr w1 (w.heap.size + 2)) := hz1
    clear ew hb1 hz1
    refine ((C _).out HB1.out).mono ?_
    rintro e w2 ⟨a', n', c', rfl, h5, hb, hf, hc⟩
    have HB2 : Hid (Below w.heap.size w w2) := HB1.out.trans (hb.mono HB1.out.size)
    have HZ2 := hide (HZ1.out.below hb)
    have H5 : Hid (Hs (w2.setRow (w.heap.size + 2) #[.string B.key, .int .i64 (B.lo), .int .i64 (B.hi), .int .i64 (B.base), .int .i64 (B.rd), (.slice a' n' c'), .int .i64 (B.lk.c), .int .i64 (B.lk.s), .int .i64 (B.lk.h), .int .i64 (B.lk.n)]) a' n' B.hs) := h5.setRow fun ad e => by have := hf ad e; have := HZ1.out.lt; omega
    have HF : Hid (Fr w.heap.size a') := hf.mono HB1.out.size
    have HC := hide hc
    clear h5 hb hf hc
    go_wp2_with (refine wpList_store_row rfl 28 (.tmp 6) (.tmp 27) rfl (w.heap.size + 2) #[.string B.key, .int .i64 (B.lo), .int .i64 (B.hi), .int .i64 (B.base), .int .i64 (B.rd), (.slice a' n' c'), .int .i64 (B.lk.c), .int .i64 (B.lk.s), .int .i64 (B.lk.h), .int .i64 (B.lk.n)] rfl rfl 28 #[.string ⟨#[]⟩, .int .i64 0, .int .i64 0, .int .i64 0, .int .i64 0, .slice none 0 0, .int .i64 0, .int .i64 0, .int .i64 0, .int .i64 0] HZ2.out ac_info rfl (by simp [Value.oneCell']) ?_)
    refine bodyPost_ret (v := .tuple #[.agg #[.string B.key, .int .i64 (B.lo), .int .i64 (B.hi), .int .i64 (B.base), .int .i64 (B.rd), (.slice a' n' c'), .int .i64 (B.lk.c), .int .i64 (B.lk.s), .int .i64 (B.lk.h), .int .i64 (B.lk.n)], .int .i64 E]) ?r ?d ?_
    case r => exact results_cell_tmp' rfl _ _ (w.heap.size + 2) 28 #[.string B.key, .int .i64 (B.lo), .int .i64 (B.hi), .int .i64 (B.base), .int .i64 (B.rd), (.slice a' n' c'), .int .i64 (B.lk.c), .int .i64 (B.lk.s), .int .i64 (B.lk.h), .int .i64 (B.lk.n)] (0, 0) _ (.int .i64 E) rfl rfl (setRow_heap _ _ _ _ _ _ HZ2.out) Try.underlying28 rfl ac_info
    case d => rfl
    exact ⟨a', n', c', rfl, H5.out, below_setRow HB2.out (by omega) _, HF.out, HC.out⟩
  by_cases k3 : k = 3
  · subst k3
    have eE : stepE A ⟨3, nd, ls, rd, nn, lo, hi, lk, cm⟩ nodes = thawE A := by unfold stepE; rw [if_neg k1, if_neg k2, if_pos rfl]
    have eA : stepA A ⟨3, nd, ls, rd, nn, lo, hi, lk, cm⟩ nodes = thawA A := by unfold stepA; rw [if_neg k1, if_neg k2, if_pos rfl]
    have C : ∀ W, Hid (Below w.heap.size w W → Calls Try.prog 41 #[.agg #[.string A.key, .int .i64 (A.lo), .int .i64 (A.hi), .int .i64 (A.base), .int .i64 (A.rd), .slice a n c, .int .i64 (A.lk.c), .int .i64 (A.lk.s), .int .i64 (A.lk.h), .int .i64 (A.lk.n)]] W fun e w' => ∃ a' n' c', e = .returned (.tuple #[.agg #[.string (thawA A).key, .int .i64 ((thawA A).lo), .int .i64 ((thawA A).hi), .int .i64 ((thawA A).base), .int .i64 ((thawA A).rd), (.slice a' n' c'), .int .i64 ((thawA A).lk.c), .int .i64 ((thawA A).lk.s), .int .i64 ((thawA A).lk.h), .int .i64 ((thawA A).lk.n)], .int .i64 (thawE A)]) ∧ Hs w' a' n' (thawA A).hs ∧ Below W.heap.size W w' ∧ Fr W.heap.size a' ∧ Cp a' n' c') := fun W hW => thaw_call (h.below hW) hw
    rw [eE, eA]
    generalize thawA A = B at C ⊢
    generalize thawE A = E at C ⊢
    clear eE eA h hw hcp ho
    unfold acval oval
    go_enter Try.func10, Try.ntmps10
    go_upto_region 7 with fail
    go_wp2_with fail
    obtain ⟨w1, ew, hb1, _, _, hz1⟩ := three_new w (.cells #[.string A.key, .int .i64 (A.lo), .int .i64 (A.hi), .int .i64 (A.base), .int .i64 (A.rd), .slice a n c, .int .i64 (A.lk.c), .int .i64 (A.lk.s), .int .i64 (A.lk.h), .int .i64 (A.lk.n)] 28) (.cells #[.int .i64 3, .int .i64 nd, .int .i64 ls, .int .i64 rd, .int .i64 nn, .int .i64 lo, .int .i64 hi, .int .i64 lk.c, .int .i64 lk.s, .int .i64 lk.h, .int .i64 lk.n, .bool cm] 30) (.cells #[.string ⟨#[]⟩, .int .i64 0, .int .i64 0, .int .i64 0, .int .i64 0, .slice none 0 0, .int .i64 0, .int .i64 0, .int .i64 0, .int .i64 0] 28)
    rw [← ew]
    have HB1 := hide hb1
    have HZ1 : Hid (Zr w1 (w.heap.size + 2)) := hz1
    clear ew hb1 hz1
    refine ((C _).out HB1.out).mono ?_
    rintro e w2 ⟨a', n', c', rfl, h5, hb, hf, hc⟩
    have HB2 : Hid (Below w.heap.size w w2) := HB1.out.trans (hb.mono HB1.out.size)
    have HZ2 := hide (HZ1.out.below hb)
    have H5 : Hid (Hs (w2.setRow (w.heap.size + 2) #[.string B.key, .int .i64 (B.lo), .int .i64 (B.hi), .int .i64 (B.base), .int .i64 (B.rd), (.slice a' n' c'), .int .i64 (B.lk.c), .int .i64 (B.lk.s), .int .i64 (B.lk.h), .int .i64 (B.lk.n)]) a' n' B.hs) := h5.setRow fun ad e => by have := hf ad e; have := HZ1.out.lt; omega
    have HF : Hid (Fr w.heap.size a') := hf.mono HB1.out.size
    have HC := hide hc
    clear h5 hb hf hc
    go_wp2_with (refine wpList_store_row rfl 28 (.tmp 6) (.tmp 33) rfl (w.heap.size + 2) #[.string B.key, .int .i64 (B.lo), .int .i64 (B.hi), .int .i64 (B.base), .int .i64 (B.rd), (.slice a' n' c'), .int .i64 (B.lk.c), .int .i64 (B.lk.s), .int .i64 (B.lk.h), .int .i64 (B.lk.n)] rfl rfl 28 #[.string ⟨#[]⟩, .int .i64 0, .int .i64 0, .int .i64 0, .int .i64 0, .slice none 0 0, .int .i64 0, .int .i64 0, .int .i64 0, .int .i64 0] HZ2.out ac_info rfl (by simp [Value.oneCell']) ?_)
    refine bodyPost_ret (v := .tuple #[.agg #[.string B.key, .int .i64 (B.lo), .int .i64 (B.hi), .int .i64 (B.base), .int .i64 (B.rd), (.slice a' n' c'), .int .i64 (B.lk.c), .int .i64 (B.lk.s), .int .i64 (B.lk.h), .int .i64 (B.lk.n)], .int .i64 E]) ?r ?d ?_
    case r => exact results_cell_tmp' rfl _ _ (w.heap.size + 2) 28 #[.string B.key, .int .i64 (B.lo), .int .i64 (B.hi), .int .i64 (B.base), .int .i64 (B.rd), (.slice a' n' c'), .int .i64 (B.lk.c), .int .i64 (B.lk.s), .int .i64 (B.lk.h), .int .i64 (B.lk.n)] (0, 0) _ (.int .i64 E) rfl rfl (setRow_heap _ _ _ _ _ _ HZ2.out) Try.underlying28 rfl ac_info
    case d => rfl
    exact ⟨a', n', c', rfl, H5.out, below_setRow HB2.out (by omega) _, HF.out, HC.out⟩
  by_cases k4 : k = 4
  · subst k4
    have eE : stepE A ⟨4, nd, ls, rd, nn, lo, hi, lk, cm⟩ nodes = reportE A nd ls rd nn := by unfold stepE; rw [if_neg k1, if_neg k2, if_neg k3, if_pos rfl]
    have eA : stepA A ⟨4, nd, ls, rd, nn, lo, hi, lk, cm⟩ nodes = reportA A nd ls rd nn := by unfold stepA; rw [if_neg k1, if_neg k2, if_neg k3, if_pos rfl]
    have C : ∀ W, Hid (Below w.heap.size w W → Calls Try.prog 42 #[.agg #[.string A.key, .int .i64 (A.lo), .int .i64 (A.hi), .int .i64 (A.base), .int .i64 (A.rd), .slice a n c, .int .i64 (A.lk.c), .int .i64 (A.lk.s), .int .i64 (A.lk.h), .int .i64 (A.lk.n)], .int .i64 nd, .int .i64 ls, .int .i64 rd, .int .i64 nn] W fun e w' => ∃ a' n' c', e = .returned (.tuple #[.agg #[.string (reportA A nd ls rd nn).key, .int .i64 ((reportA A nd ls rd nn).lo), .int .i64 ((reportA A nd ls rd nn).hi), .int .i64 ((reportA A nd ls rd nn).base), .int .i64 ((reportA A nd ls rd nn).rd), (.slice a' n' c'), .int .i64 ((reportA A nd ls rd nn).lk.c), .int .i64 ((reportA A nd ls rd nn).lk.s), .int .i64 ((reportA A nd ls rd nn).lk.h), .int .i64 ((reportA A nd ls rd nn).lk.n)], .int .i64 (reportE A nd ls rd nn)]) ∧ Hs w' a' n' (reportA A nd ls rd nn).hs ∧ Below W.heap.size W w' ∧ Fr W.heap.size a' ∧ Cp a' n' c') := fun W hW => report_call (h.below hW) hw hcp
    rw [eE, eA]
    generalize reportA A nd ls rd nn = B at C ⊢
    generalize reportE A nd ls rd nn = E at C ⊢
    clear eE eA h hw hcp ho
    unfold acval oval
    go_enter Try.func10, Try.ntmps10
    go_upto_region 9 with fail
    go_wp2_with fail
    obtain ⟨w1, ew, hb1, _, _, hz1⟩ := three_new w (.cells #[.string A.key, .int .i64 (A.lo), .int .i64 (A.hi), .int .i64 (A.base), .int .i64 (A.rd), .slice a n c, .int .i64 (A.lk.c), .int .i64 (A.lk.s), .int .i64 (A.lk.h), .int .i64 (A.lk.n)] 28) (.cells #[.int .i64 4, .int .i64 nd, .int .i64 ls, .int .i64 rd, .int .i64 nn, .int .i64 lo, .int .i64 hi, .int .i64 lk.c, .int .i64 lk.s, .int .i64 lk.h, .int .i64 lk.n, .bool cm] 30) (.cells #[.string ⟨#[]⟩, .int .i64 0, .int .i64 0, .int .i64 0, .int .i64 0, .slice none 0 0, .int .i64 0, .int .i64 0, .int .i64 0, .int .i64 0] 28)
    rw [← ew]
    have HB1 := hide hb1
    have HZ1 : Hid (Zr w1 (w.heap.size + 2)) := hz1
    clear ew hb1 hz1
    refine ((C _).out HB1.out).mono ?_
    rintro e w2 ⟨a', n', c', rfl, h5, hb, hf, hc⟩
    have HB2 : Hid (Below w.heap.size w w2) := HB1.out.trans (hb.mono HB1.out.size)
    have HZ2 := hide (HZ1.out.below hb)
    have H5 : Hid (Hs (w2.setRow (w.heap.size + 2) #[.string B.key, .int .i64 (B.lo), .int .i64 (B.hi), .int .i64 (B.base), .int .i64 (B.rd), (.slice a' n' c'), .int .i64 (B.lk.c), .int .i64 (B.lk.s), .int .i64 (B.lk.h), .int .i64 (B.lk.n)]) a' n' B.hs) := h5.setRow fun ad e => by have := hf ad e; have := HZ1.out.lt; omega
    have HF : Hid (Fr w.heap.size a') := hf.mono HB1.out.size
    have HC := hide hc
    clear h5 hb hf hc
    go_wp2_with (refine wpList_store_row rfl 28 (.tmp 6) (.tmp 47) rfl (w.heap.size + 2) #[.string B.key, .int .i64 (B.lo), .int .i64 (B.hi), .int .i64 (B.base), .int .i64 (B.rd), (.slice a' n' c'), .int .i64 (B.lk.c), .int .i64 (B.lk.s), .int .i64 (B.lk.h), .int .i64 (B.lk.n)] rfl rfl 28 #[.string ⟨#[]⟩, .int .i64 0, .int .i64 0, .int .i64 0, .int .i64 0, .slice none 0 0, .int .i64 0, .int .i64 0, .int .i64 0, .int .i64 0] HZ2.out ac_info rfl (by simp [Value.oneCell']) ?_)
    refine bodyPost_ret (v := .tuple #[.agg #[.string B.key, .int .i64 (B.lo), .int .i64 (B.hi), .int .i64 (B.base), .int .i64 (B.rd), (.slice a' n' c'), .int .i64 (B.lk.c), .int .i64 (B.lk.s), .int .i64 (B.lk.h), .int .i64 (B.lk.n)], .int .i64 E]) ?r ?d ?_
    case r => exact results_cell_tmp' rfl _ _ (w.heap.size + 2) 28 #[.string B.key, .int .i64 (B.lo), .int .i64 (B.hi), .int .i64 (B.base), .int .i64 (B.rd), (.slice a' n' c'), .int .i64 (B.lk.c), .int .i64 (B.lk.s), .int .i64 (B.lk.h), .int .i64 (B.lk.n)] (0, 0) _ (.int .i64 E) rfl rfl (setRow_heap _ _ _ _ _ _ HZ2.out) Try.underlying28 rfl ac_info
    case d => rfl
    exact ⟨a', n', c', rfl, H5.out, below_setRow HB2.out (by omega) _, HF.out, HC.out⟩
  by_cases k5 : k = 5
  · subst k5
    have eE : stepE A ⟨5, nd, ls, rd, nn, lo, hi, lk, cm⟩ nodes = boundsE A lo hi := by unfold stepE; rw [if_neg k1, if_neg k2, if_neg k3, if_neg k4, if_pos rfl]
    have eA : stepA A ⟨5, nd, ls, rd, nn, lo, hi, lk, cm⟩ nodes = boundsA A lo hi := by unfold stepA; rw [if_neg k1, if_neg k2, if_neg k3, if_neg k4, if_pos rfl]
    have C : ∀ W, Hid (Below w.heap.size w W → Calls Try.prog 43 #[.agg #[.string A.key, .int .i64 (A.lo), .int .i64 (A.hi), .int .i64 (A.base), .int .i64 (A.rd), .slice a n c, .int .i64 (A.lk.c), .int .i64 (A.lk.s), .int .i64 (A.lk.h), .int .i64 (A.lk.n)], .agg #[.int .i64 lo, .int .i64 hi]] W fun e w' => ∃ a' n' c', e = .returned (.tuple #[.agg #[.string (boundsA A lo hi).key, .int .i64 ((boundsA A lo hi).lo), .int .i64 ((boundsA A lo hi).hi), .int .i64 ((boundsA A lo hi).base), .int .i64 ((boundsA A lo hi).rd), (.slice a' n' c'), .int .i64 ((boundsA A lo hi).lk.c), .int .i64 ((boundsA A lo hi).lk.s), .int .i64 ((boundsA A lo hi).lk.h), .int .i64 ((boundsA A lo hi).lk.n)], .int .i64 (boundsE A lo hi)]) ∧ Hs w' a' n' (boundsA A lo hi).hs ∧ Below W.heap.size W w' ∧ Fr W.heap.size a' ∧ Cp a' n' c') := fun W hW => bounds_call (h.below hW) hw
    rw [eE, eA]
    generalize boundsA A lo hi = B at C ⊢
    generalize boundsE A lo hi = E at C ⊢
    clear eE eA h hw hcp ho
    unfold acval oval
    go_enter Try.func10, Try.ntmps10
    go_upto_region 11 with fail
    go_wp2_with fail
    obtain ⟨w1, ew, hb1, _, _, hz1⟩ := three_new w (.cells #[.string A.key, .int .i64 (A.lo), .int .i64 (A.hi), .int .i64 (A.base), .int .i64 (A.rd), .slice a n c, .int .i64 (A.lk.c), .int .i64 (A.lk.s), .int .i64 (A.lk.h), .int .i64 (A.lk.n)] 28) (.cells #[.int .i64 5, .int .i64 nd, .int .i64 ls, .int .i64 rd, .int .i64 nn, .int .i64 lo, .int .i64 hi, .int .i64 lk.c, .int .i64 lk.s, .int .i64 lk.h, .int .i64 lk.n, .bool cm] 30) (.cells #[.string ⟨#[]⟩, .int .i64 0, .int .i64 0, .int .i64 0, .int .i64 0, .slice none 0 0, .int .i64 0, .int .i64 0, .int .i64 0, .int .i64 0] 28)
    rw [← ew]
    have HB1 := hide hb1
    have HZ1 : Hid (Zr w1 (w.heap.size + 2)) := hz1
    clear ew hb1 hz1
    refine ((C _).out HB1.out).mono ?_
    rintro e w2 ⟨a', n', c', rfl, h5, hb, hf, hc⟩
    have HB2 : Hid (Below w.heap.size w w2) := HB1.out.trans (hb.mono HB1.out.size)
    have HZ2 := hide (HZ1.out.below hb)
    have H5 : Hid (Hs (w2.setRow (w.heap.size + 2) #[.string B.key, .int .i64 (B.lo), .int .i64 (B.hi), .int .i64 (B.base), .int .i64 (B.rd), (.slice a' n' c'), .int .i64 (B.lk.c), .int .i64 (B.lk.s), .int .i64 (B.lk.h), .int .i64 (B.lk.n)]) a' n' B.hs) := h5.setRow fun ad e => by have := hf ad e; have := HZ1.out.lt; omega
    have HF : Hid (Fr w.heap.size a') := hf.mono HB1.out.size
    have HC := hide hc
    clear h5 hb hf hc
    go_wp2_with (refine wpList_store_row rfl 28 (.tmp 6) (.tmp 55) rfl (w.heap.size + 2) #[.string B.key, .int .i64 (B.lo), .int .i64 (B.hi), .int .i64 (B.base), .int .i64 (B.rd), (.slice a' n' c'), .int .i64 (B.lk.c), .int .i64 (B.lk.s), .int .i64 (B.lk.h), .int .i64 (B.lk.n)] rfl rfl 28 #[.string ⟨#[]⟩, .int .i64 0, .int .i64 0, .int .i64 0, .int .i64 0, .slice none 0 0, .int .i64 0, .int .i64 0, .int .i64 0, .int .i64 0] HZ2.out ac_info rfl (by simp [Value.oneCell']) ?_)
    refine bodyPost_ret (v := .tuple #[.agg #[.string B.key, .int .i64 (B.lo), .int .i64 (B.hi), .int .i64 (B.base), .int .i64 (B.rd), (.slice a' n' c'), .int .i64 (B.lk.c), .int .i64 (B.lk.s), .int .i64 (B.lk.h), .int .i64 (B.lk.n)], .int .i64 E]) ?r ?d ?_
    case r => exact results_cell_tmp' rfl _ _ (w.heap.size + 2) 28 #[.string B.key, .int .i64 (B.lo), .int .i64 (B.hi), .int .i64 (B.base), .int .i64 (B.rd), (.slice a' n' c'), .int .i64 (B.lk.c), .int .i64 (B.lk.s), .int .i64 (B.lk.h), .int .i64 (B.lk.n)] (0, 0) _ (.int .i64 E) rfl rfl (setRow_heap _ _ _ _ _ _ HZ2.out) Try.underlying28 rfl ac_info
    case d => rfl
    exact ⟨a', n', c', rfl, H5.out, below_setRow HB2.out (by omega) _, HF.out, HC.out⟩
  by_cases k6 : k = 6
  · subst k6
    have eE : stepE A ⟨6, nd, ls, rd, nn, lo, hi, lk, cm⟩ nodes = takeE A lk := by unfold stepE; rw [if_neg k1, if_neg k2, if_neg k3, if_neg k4, if_neg k5, if_pos rfl]
    have eA : stepA A ⟨6, nd, ls, rd, nn, lo, hi, lk, cm⟩ nodes = takeA A lk := by unfold stepA; rw [if_neg k1, if_neg k2, if_neg k3, if_neg k4, if_neg k5, if_pos rfl]
    have C : ∀ W, Hid (Below w.heap.size w W → Calls Try.prog 44 #[.agg #[.string A.key, .int .i64 (A.lo), .int .i64 (A.hi), .int .i64 (A.base), .int .i64 (A.rd), .slice a n c, .int .i64 (A.lk.c), .int .i64 (A.lk.s), .int .i64 (A.lk.h), .int .i64 (A.lk.n)], .agg #[.int .i64 lk.c, .int .i64 lk.s, .int .i64 lk.h, .int .i64 lk.n]] W fun e w' => ∃ a' n' c', e = .returned (.tuple #[.agg #[.string (takeA A lk).key, .int .i64 ((takeA A lk).lo), .int .i64 ((takeA A lk).hi), .int .i64 ((takeA A lk).base), .int .i64 ((takeA A lk).rd), (.slice a' n' c'), .int .i64 ((takeA A lk).lk.c), .int .i64 ((takeA A lk).lk.s), .int .i64 ((takeA A lk).lk.h), .int .i64 ((takeA A lk).lk.n)], .int .i64 (takeE A lk)]) ∧ Hs w' a' n' (takeA A lk).hs ∧ Below W.heap.size W w' ∧ Fr W.heap.size a' ∧ Cp a' n' c') := fun W hW => take_call (h.below hW) hw ho.lk
    rw [eE, eA]
    generalize takeA A lk = B at C ⊢
    generalize takeE A lk = E at C ⊢
    clear eE eA h hw hcp ho
    unfold acval oval
    go_enter Try.func10, Try.ntmps10
    go_upto_region 13 with fail
    go_wp2_with fail
    obtain ⟨w1, ew, hb1, _, _, hz1⟩ := three_new w (.cells #[.string A.key, .int .i64 (A.lo), .int .i64 (A.hi), .int .i64 (A.base), .int .i64 (A.rd), .slice a n c, .int .i64 (A.lk.c), .int .i64 (A.lk.s), .int .i64 (A.lk.h), .int .i64 (A.lk.n)] 28) (.cells #[.int .i64 6, .int .i64 nd, .int .i64 ls, .int .i64 rd, .int .i64 nn, .int .i64 lo, .int .i64 hi, .int .i64 lk.c, .int .i64 lk.s, .int .i64 lk.h, .int .i64 lk.n, .bool cm] 30) (.cells #[.string ⟨#[]⟩, .int .i64 0, .int .i64 0, .int .i64 0, .int .i64 0, .slice none 0 0, .int .i64 0, .int .i64 0, .int .i64 0, .int .i64 0] 28)
    rw [← ew]
    have HB1 := hide hb1
    have HZ1 : Hid (Zr w1 (w.heap.size + 2)) := hz1
    clear ew hb1 hz1
    refine ((C _).out HB1.out).mono ?_
    rintro e w2 ⟨a', n', c', rfl, h5, hb, hf, hc⟩
    have HB2 : Hid (Below w.heap.size w w2) := HB1.out.trans (hb.mono HB1.out.size)
    have HZ2 := hide (HZ1.out.below hb)
    have H5 : Hid (Hs (w2.setRow (w.heap.size + 2) #[.string B.key, .int .i64 (B.lo), .int .i64 (B.hi), .int .i64 (B.base), .int .i64 (B.rd), (.slice a' n' c'), .int .i64 (B.lk.c), .int .i64 (B.lk.s), .int .i64 (B.lk.h), .int .i64 (B.lk.n)]) a' n' B.hs) := h5.setRow fun ad e => by have := hf ad e; have := HZ1.out.lt; omega
    have HF : Hid (Fr w.heap.size a') := hf.mono HB1.out.size
    have HC := hide hc
    clear h5 hb hf hc
    go_wp2_with (refine wpList_store_row rfl 28 (.tmp 6) (.tmp 63) rfl (w.heap.size + 2) #[.string B.key, .int .i64 (B.lo), .int .i64 (B.hi), .int .i64 (B.base), .int .i64 (B.rd), (.slice a' n' c'), .int .i64 (B.lk.c), .int .i64 (B.lk.s), .int .i64 (B.lk.h), .int .i64 (B.lk.n)] rfl rfl 28 #[.string ⟨#[]⟩, .int .i64 0, .int .i64 0, .int .i64 0, .int .i64 0, .slice none 0 0, .int .i64 0, .int .i64 0, .int .i64 0, .int .i64 0] HZ2.out ac_info rfl (by simp [Value.oneCell']) ?_)
    refine bodyPost_ret (v := .tuple #[.agg #[.string B.key, .int .i64 (B.lo), .int .i64 (B.hi), .int .i64 (B.base), .int .i64 (B.rd), (.slice a' n' c'), .int .i64 (B.lk.c), .int .i64 (B.lk.s), .int .i64 (B.lk.h), .int .i64 (B.lk.n)], .int .i64 E]) ?r ?d ?_
    case r => exact results_cell_tmp' rfl _ _ (w.heap.size + 2) 28 #[.string B.key, .int .i64 (B.lo), .int .i64 (B.hi), .int .i64 (B.base), .int .i64 (B.rd), (.slice a' n' c'), .int .i64 (B.lk.c), .int .i64 (B.lk.s), .int .i64 (B.lk.h), .int .i64 (B.lk.n)] (0, 0) _ (.int .i64 E) rfl rfl (setRow_heap _ _ _ _ _ _ HZ2.out) Try.underlying28 rfl ac_info
    case d => rfl
    exact ⟨a', n', c', rfl, H5.out, below_setRow HB2.out (by omega) _, HF.out, HC.out⟩
  by_cases k7 : k = 7
  · subst k7
    have eE : stepE A ⟨7, nd, ls, rd, nn, lo, hi, lk, cm⟩ nodes = freeE A := by unfold stepE; rw [if_neg k1, if_neg k2, if_neg k3, if_neg k4, if_neg k5, if_neg k6, if_pos rfl]
    have eA : stepA A ⟨7, nd, ls, rd, nn, lo, hi, lk, cm⟩ nodes = freeA A cm := by unfold stepA; rw [if_neg k1, if_neg k2, if_neg k3, if_neg k4, if_neg k5, if_neg k6, if_pos rfl]
    have C : ∀ W, Hid (Below w.heap.size w W → Calls Try.prog 45 #[.agg #[.string A.key, .int .i64 (A.lo), .int .i64 (A.hi), .int .i64 (A.base), .int .i64 (A.rd), .slice a n c, .int .i64 (A.lk.c), .int .i64 (A.lk.s), .int .i64 (A.lk.h), .int .i64 (A.lk.n)], .bool cm] W fun e w' => ∃ a' n' c', e = .returned (.tuple #[.agg #[.string (freeA A cm).key, .int .i64 ((freeA A cm).lo), .int .i64 ((freeA A cm).hi), .int .i64 ((freeA A cm).base), .int .i64 ((freeA A cm).rd), (.slice a' n' c'), .int .i64 ((freeA A cm).lk.c), .int .i64 ((freeA A cm).lk.s), .int .i64 ((freeA A cm).lk.h), .int .i64 ((freeA A cm).lk.n)], .int .i64 (freeE A)]) ∧ Hs w' a' n' (freeA A cm).hs ∧ Below W.heap.size W w' ∧ Fr W.heap.size a' ∧ Cp a' n' c') := fun W hW => free_call (h.below hW) hw
    rw [eE, eA]
    generalize freeA A cm = B at C ⊢
    generalize freeE A = E at C ⊢
    clear eE eA h hw hcp ho
    unfold acval oval
    go_enter Try.func10, Try.ntmps10
    go_upto_region 15 with fail
    go_wp2_with fail
    obtain ⟨w1, ew, hb1, _, _, hz1⟩ := three_new w (.cells #[.string A.key, .int .i64 (A.lo), .int .i64 (A.hi), .int .i64 (A.base), .int .i64 (A.rd), .slice a n c, .int .i64 (A.lk.c), .int .i64 (A.lk.s), .int .i64 (A.lk.h), .int .i64 (A.lk.n)] 28) (.cells #[.int .i64 7, .int .i64 nd, .int .i64 ls, .int .i64 rd, .int .i64 nn, .int .i64 lo, .int .i64 hi, .int .i64 lk.c, .int .i64 lk.s, .int .i64 lk.h, .int .i64 lk.n, .bool cm] 30) (.cells #[.string ⟨#[]⟩, .int .i64 0, .int .i64 0, .int .i64 0, .int .i64 0, .slice none 0 0, .int .i64 0, .int .i64 0, .int .i64 0, .int .i64 0] 28)
    rw [← ew]
    have HB1 := hide hb1
    have HZ1 : Hid (Zr w1 (w.heap.size + 2)) := hz1
    clear ew hb1 hz1
    refine ((C _).out HB1.out).mono ?_
    rintro e w2 ⟨a', n', c', rfl, h5, hb, hf, hc⟩
    have HB2 : Hid (Below w.heap.size w w2) := HB1.out.trans (hb.mono HB1.out.size)
    have HZ2 := hide (HZ1.out.below hb)
    have H5 : Hid (Hs (w2.setRow (w.heap.size + 2) #[.string B.key, .int .i64 (B.lo), .int .i64 (B.hi), .int .i64 (B.base), .int .i64 (B.rd), (.slice a' n' c'), .int .i64 (B.lk.c), .int .i64 (B.lk.s), .int .i64 (B.lk.h), .int .i64 (B.lk.n)]) a' n' B.hs) := h5.setRow fun ad e => by have := hf ad e; have := HZ1.out.lt; omega
    have HF : Hid (Fr w.heap.size a') := hf.mono HB1.out.size
    have HC := hide hc
    clear h5 hb hf hc
    go_wp2_with (refine wpList_store_row rfl 28 (.tmp 6) (.tmp 71) rfl (w.heap.size + 2) #[.string B.key, .int .i64 (B.lo), .int .i64 (B.hi), .int .i64 (B.base), .int .i64 (B.rd), (.slice a' n' c'), .int .i64 (B.lk.c), .int .i64 (B.lk.s), .int .i64 (B.lk.h), .int .i64 (B.lk.n)] rfl rfl 28 #[.string ⟨#[]⟩, .int .i64 0, .int .i64 0, .int .i64 0, .int .i64 0, .slice none 0 0, .int .i64 0, .int .i64 0, .int .i64 0, .int .i64 0] HZ2.out ac_info rfl (by simp [Value.oneCell']) ?_)
    refine bodyPost_ret (v := .tuple #[.agg #[.string B.key, .int .i64 (B.lo), .int .i64 (B.hi), .int .i64 (B.base), .int .i64 (B.rd), (.slice a' n' c'), .int .i64 (B.lk.c), .int .i64 (B.lk.s), .int .i64 (B.lk.h), .int .i64 (B.lk.n)], .int .i64 E]) ?r ?d ?_
    case r => exact results_cell_tmp' rfl _ _ (w.heap.size + 2) 28 #[.string B.key, .int .i64 (B.lo), .int .i64 (B.hi), .int .i64 (B.base), .int .i64 (B.rd), (.slice a' n' c'), .int .i64 (B.lk.c), .int .i64 (B.lk.s), .int .i64 (B.lk.h), .int .i64 (B.lk.n)] (0, 0) _ (.int .i64 E) rfl rfl (setRow_heap _ _ _ _ _ _ HZ2.out) Try.underlying28 rfl ac_info
    case d => rfl
    exact ⟨a', n', c', rfl, H5.out, below_setRow HB2.out (by omega) _, HF.out, HC.out⟩
  have e1 : (k == 1) = false := by simpa using k1
  have e2 : (k == 2) = false := by simpa using k2
  have e3 : (k == 3) = false := by simpa using k3
  have e4 : (k == 4) = false := by simpa using k4
  have e5 : (k == 5) = false := by simpa using k5
  have e6 : (k == 6) = false := by simpa using k6
  have e7 : (k == 7) = false := by simpa using k7
  have eE : stepE A ⟨k, nd, ls, rd, nn, lo, hi, lk, cm⟩ nodes = addE A nn := by unfold stepE; rw [if_neg k1, if_neg k2, if_neg k3, if_neg k4, if_neg k5, if_neg k6, if_neg k7]
  have eA : stepA A ⟨k, nd, ls, rd, nn, lo, hi, lk, cm⟩ nodes = addA A nn := by unfold stepA; rw [if_neg k1, if_neg k2, if_neg k3, if_neg k4, if_neg k5, if_neg k6, if_neg k7]
  have C : ∀ W, Hid (Below w.heap.size w W → Calls Try.prog 46 #[.agg #[.string A.key, .int .i64 (A.lo), .int .i64 (A.hi), .int .i64 (A.base), .int .i64 (A.rd), .slice a n c, .int .i64 (A.lk.c), .int .i64 (A.lk.s), .int .i64 (A.lk.h), .int .i64 (A.lk.n)], .int .i64 nn] W fun e w' => ∃ a' n' c', e = .returned (.tuple #[.agg #[.string (addA A nn).key, .int .i64 ((addA A nn).lo), .int .i64 ((addA A nn).hi), .int .i64 ((addA A nn).base), .int .i64 ((addA A nn).rd), (.slice a' n' c'), .int .i64 ((addA A nn).lk.c), .int .i64 ((addA A nn).lk.s), .int .i64 ((addA A nn).lk.h), .int .i64 ((addA A nn).lk.n)], .int .i64 (addE A nn)]) ∧ Hs w' a' n' (addA A nn).hs ∧ Below W.heap.size W w' ∧ Fr W.heap.size a' ∧ Cp a' n' c') := fun W hW => add_call (h.below hW) hw ho.n
  rw [eE, eA]
  generalize addA A nn = B at C ⊢
  generalize addE A nn = E at C ⊢
  clear eE eA h hw hcp ho
  clear k1 k2 k3 k4 k5 k6 k7
  unfold acval oval
  go_enter Try.func10, Try.ntmps10
  go_upto_region 16 with fail
  go_wp2_with fail
  obtain ⟨w1, ew, hb1, _, _, hz1⟩ := three_new w (.cells #[.string A.key, .int .i64 (A.lo), .int .i64 (A.hi), .int .i64 (A.base), .int .i64 (A.rd), .slice a n c, .int .i64 (A.lk.c), .int .i64 (A.lk.s), .int .i64 (A.lk.h), .int .i64 (A.lk.n)] 28) (.cells #[.int .i64 k, .int .i64 nd, .int .i64 ls, .int .i64 rd, .int .i64 nn, .int .i64 lo, .int .i64 hi, .int .i64 lk.c, .int .i64 lk.s, .int .i64 lk.h, .int .i64 lk.n, .bool cm] 30) (.cells #[.string ⟨#[]⟩, .int .i64 0, .int .i64 0, .int .i64 0, .int .i64 0, .slice none 0 0, .int .i64 0, .int .i64 0, .int .i64 0, .int .i64 0] 28)
  rw [← ew]
  have HB1 := hide hb1
  have HZ1 : Hid (Zr w1 (w.heap.size + 2)) := hz1
  clear ew hb1 hz1
  refine ((C _).out HB1.out).mono ?_
  rintro e w2 ⟨a', n', c', rfl, h5, hb, hf, hc⟩
  have HB2 : Hid (Below w.heap.size w w2) := HB1.out.trans (hb.mono HB1.out.size)
  have HZ2 := hide (HZ1.out.below hb)
  have H5 : Hid (Hs (w2.setRow (w.heap.size + 2) #[.string B.key, .int .i64 (B.lo), .int .i64 (B.hi), .int .i64 (B.base), .int .i64 (B.rd), (.slice a' n' c'), .int .i64 (B.lk.c), .int .i64 (B.lk.s), .int .i64 (B.lk.h), .int .i64 (B.lk.n)]) a' n' B.hs) := h5.setRow fun ad e => by have := hf ad e; have := HZ1.out.lt; omega
  have HF : Hid (Fr w.heap.size a') := hf.mono HB1.out.size
  have HC := hide hc
  clear h5 hb hf hc
  go_wp2_with (refine wpList_store_row rfl 28 (.tmp 6) (.tmp 77) rfl (w.heap.size + 2) #[.string B.key, .int .i64 (B.lo), .int .i64 (B.hi), .int .i64 (B.base), .int .i64 (B.rd), (.slice a' n' c'), .int .i64 (B.lk.c), .int .i64 (B.lk.s), .int .i64 (B.lk.h), .int .i64 (B.lk.n)] rfl rfl 28 #[.string ⟨#[]⟩, .int .i64 0, .int .i64 0, .int .i64 0, .int .i64 0, .slice none 0 0, .int .i64 0, .int .i64 0, .int .i64 0, .int .i64 0] HZ2.out ac_info rfl (by simp [Value.oneCell']) ?_)
  refine bodyPost_ret (v := .tuple #[.agg #[.string B.key, .int .i64 (B.lo), .int .i64 (B.hi), .int .i64 (B.base), .int .i64 (B.rd), (.slice a' n' c'), .int .i64 (B.lk.c), .int .i64 (B.lk.s), .int .i64 (B.lk.h), .int .i64 (B.lk.n)], .int .i64 E]) ?r ?d ?_
  case r => exact results_cell_tmp' rfl _ _ (w.heap.size + 2) 28 #[.string B.key, .int .i64 (B.lo), .int .i64 (B.hi), .int .i64 (B.base), .int .i64 (B.rd), (.slice a' n' c'), .int .i64 (B.lk.c), .int .i64 (B.lk.s), .int .i64 (B.lk.h), .int .i64 (B.lk.n)] (0, 0) _ (.int .i64 E) rfl rfl (setRow_heap _ _ _ _ _ _ HZ2.out) Try.underlying28 rfl ac_info
  case d => rfl
  exact ⟨a', n', c', rfl, H5.out, below_setRow HB2.out (by omega) _, HF.out, HC.out⟩
set_option maxRecDepth 100000 in
set_option maxHeartbeats 2000000 in
theorem awake_any (w : World) : Calls Try.prog 12 #[] w fun e w' => e = .returned (.bool true) ∧ Below w.heap.size w w' := by
  have NW := fun W => hide (new_any ⟨#[107]⟩ W)
  rw [show newA ⟨#[107]⟩ = ⟨⟨#[107]⟩, 0, 0, 0, 0, [], lk0⟩ from if_pos (by decide), show newE ⟨#[107]⟩ = 0 by decide] at NW
  have kw : AcW ⟨⟨#[107]⟩, 0, 0, 0, 0, [], lk0⟩ := ⟨by decide, acw0.lo, acw0.hi, acw0.base, acw0.rd, lkw0, fun h hh => by cases hh⟩
  have PN := fun W => hide (plain_a (w := W) (a := none) (n := 0) (c := 0) (A := ⟨⟨#[107]⟩, 0, 0, 0, 0, [], lk0⟩) (Rl.nil _) kw)
  rw [show plainB ⟨⟨#[107]⟩, 0, 0, 0, 0, [], lk0⟩ = true by decide] at PN
  have CZ := fun W => hide (check_any (w := W) (a := none) (n := 0) (c := 0) (A := ac0) (Rl.nil _) acw0)
  rw [show checkE ac0 = 21 by decide] at CZ
  unfold acval lk0 at NW PN
  unfold acval ac0 lk0 at CZ
  clear kw
  go_enter Try.func12, Try.ntmps12
  go_wp2_with fail
  refine (NW _).out.mono ?_
  rintro e w1 ⟨rfl, hb⟩
  have HB1 := hide hb
  clear hb
  go_wp2_with fail
  refine (PN _).out.mono ?_
  rintro e w2 ⟨rfl, hb⟩
  have HB2 : Hid (Below w.heap.size w w2) := (HB1.out.alloc HB1.out.size _).trans (hb.mono (HB1.out.alloc HB1.out.size _).size)
  clear hb
  go_wp2_with fail
  refine (CZ _).out.mono ?_
  rintro e w3 ⟨rfl, hb⟩
  have HB3 : Hid (Below w.heap.size w w3) := HB2.out.trans (hb.mono HB2.out.size)
  clear hb
  go_wp2_with fail
  go_returns
  exact ⟨rfl, HB3.out⟩
end Go.Proofs.Ytjcbhgkfbilifaa
