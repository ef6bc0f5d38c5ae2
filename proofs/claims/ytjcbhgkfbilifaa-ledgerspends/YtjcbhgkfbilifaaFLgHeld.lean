/- What of an account is lent to a node, and what it has spent of it: the landed held. Condition: the ledger and the account can be read. -/
import Derived.Test.YtjcbhgkfbilifaaFLgFind
import Derived.Test.YtjcbhgkfbilifaaFAcoX
import Derived.Test.YtjcbhgkfbilifaaJV
import Derived.Deep.Cut
namespace Go.Proofs.Ytjcbhgkfbilifaa
open Go.ChangeShapes Go.WideShapes Go.ChangeAt Go.RowKit Ao Lg
set_option linter.unusedVariables false

theorem results_c2t {P : Program} {fn : Func} {p q t : Tmp} {ty ty' : TypeId} (h : fn.results = #[.cell p ty, .cell q ty', .tmp t]) (tmps : Array Value) (w : World) (g g' : Nat) (u u' : TypeId) (cs cs' : Array Value) (fr fr' : Nat × Nat) (d d' : TypeDesc) (x : Value)
    (hp : tmps.getD p undef = .pointer (some ⟨g, 0, none⟩)) (hq : tmps.getD q undef = .pointer (some ⟨g', 0, none⟩)) (hx : tmps.getD t undef = x) (hg : w.heap[g]? = some (.cells cs u fr)) (hg' : w.heap[g']? = some (.cells cs' u' fr'))
    (hu : P.underlying ty = some d) (hd : (match d with | .struct _ | .array _ _ => true | _ => false) = true) (hi : (P.info? ty).map (·.size) = some cs.size)
    (hu' : P.underlying ty' = some d') (hd' : (match d' with | .struct _ | .array _ _ => true | _ => false) = true) (hi' : (P.info? ty').map (·.size) = some cs'.size) :
    (results fn tmps).run P w = .ok (.tuple #[.agg cs, .agg cs', x]) w := by
  have hp' : tmps[p]?.getD undef = .pointer (some ⟨g, 0, none⟩) := by simpa using hp
  have hq' : tmps[q]?.getD undef = .pointer (some ⟨g', 0, none⟩) := by simpa using hq
  have hx' : tmps[t]?.getD undef = x := by simpa using hx
  simp [results, h, hp', hq', hx', asAddr, run_loadVar_row w g u ty cs fr d hg hu hd hi, run_loadVar_row w g' u' ty' cs' fr' d' hg' hu' hd' hi']
set_option maxRecDepth 100000 in
theorem wrong_any {w : World} {a : Option Addr} {n c : Nat} {A : Ac} {b : Bool} (h : Hs w a n A.hs) (hw : AcW A) (eb : rightB A = b) : Calls Try.prog 79 #[.agg #[.string A.key, .int .i64 A.lo, .int .i64 A.hi, .int .i64 A.base, .int .i64 A.rd, .slice a n c, .int .i64 A.lk.c, .int .i64 A.lk.s, .int .i64 A.lk.h, .int .i64 A.lk.n]] w fun e w' => e = .returned (.bool (!b)) ∧ Below w.heap.size w w' := by
  have CK := fun W => hide (fun hW : Below w.heap.size w W => check_x (c := c) (h.below hW) hw rfl)
  unfold checkE at CK
  rw [eb] at CK
  obtain ⟨w1, ew⟩ : ∃ w1, w1 = w.alloc (.cells #[.string A.key, .int .i64 A.lo, .int .i64 A.hi, .int .i64 A.base, .int .i64 A.rd, .slice a n c, .int .i64 A.lk.c, .int .i64 A.lk.s, .int .i64 A.lk.h, .int .i64 A.lk.n] 28) := ⟨_, rfl⟩
  have HB1 : Hid (Below w.heap.size w w1) := by rw [ew]; exact Below.alloc (Below.refl _ _) (Nat.le_refl _) _
  clear h hw eb
  cases b
  all_goals
    simp only [if_true, Bool.false_eq_true, if_false] at CK
    go_enter Try.func79, Try.ntmps79
    go_wp2_with fail
    rw [← ew]
    clear ew
    refine ((CK _).out HB1.out).mono ?_
    rintro e w2 ⟨rfl, hb⟩
    have HB2 : Hid (Below w.heap.size w w2) := HB1.out.trans (hb.mono HB1.out.size)
    clear hb
    go_wp2_with fail
    go_returns
    exact ⟨rfl, HB2.out⟩
def spB (h : Hd) (net : Int) : Bool := decide (-h.dn ≤ net ∧ net ≤ h.up)
set_option maxRecDepth 100000 in
theorem spend_any (h : Hd) (net : Int) (w : World) (h1 : 0 ≤ h.dn) (h2 : h.dn ≤ 9223372036854775807) : Calls Try.prog 69 #[.agg #[.int .i64 h.nd, .int .i64 h.ls, .int .i64 h.up, .int .i64 h.dn], .int .i64 net] w fun e w' => e = .returned (.bool (spB h net)) ∧ Below w.heap.size w w' := by
  have C := fun W => hide (has_b (-h.dn) h.up net W)
  have e1 : IntKind.i64.wrap (-h.dn) = -h.dn := by rw [IntKind.wrap_i64]; omega
  have E : Hid (hasB (-h.dn) h.up net = spB h net) := rfl
  obtain ⟨w1, hw1, hb1, hk1⟩ := hk_new w h
  have HB1 := hide hb1
  generalize hasB (-h.dn) h.up net = z at C E
  clear h1 h2 hb1 hk1
  go_enter Try.func69, Try.ntmps69
  go_wp2_with fail
  rw [← hw1]
  refine (C _).out.mono ?_
  rintro e w2 ⟨rfl, hb⟩
  have HB2 : Hid (Below w.heap.size w w2) := HB1.out.trans (hb.mono HB1.out.size)
  clear hb
  go_wp2_with fail
  go_returns
  exact ⟨by rw [← E.out]; rfl, HB2.out⟩
def heldE (l : List Rt) (g : Int) (A : Ac) (node : Int) : Int := if ledB l = true ∧ rightB A = true then (if grpB g = true then (if (findH A.hs node).isSome then 0 else 151) else 1) else 21
def heldH (l : List Rt) (g : Int) (A : Ac) (node : Int) : Hd := if heldE l g A node = 0 then (findH A.hs node).getD hd0 else hd0
def heldR (l : List Rt) (g : Int) (A : Ac) (node : Int) : Rt := if heldE l g A node = 0 then ⟨g, A.key, (heldH l g A node).ls, netL l g A.key (heldH l g A node).ls⟩ else rt0
/-- an account, and the two results' blocks, still zero -/
structure Hz (w W : World) (A : Ac) (a : Option Addr) (n c : Nat) : Prop where
  bl : Below w.heap.size w W
  ab : Ab W w.heap.size A a n c
  rz : W.heap[w.heap.size + 1]? = some (.cells #[.int .i64 0, .string ⟨#[]⟩, .int .i64 0, .int .i64 0] 43 (0, 0))
  hz : W.heap[w.heap.size + 2]? = some (.cells #[.int .i64 0, .int .i64 0, .int .i64 0, .int .i64 0] 33 (0, 0))
theorem Hz.lt {w W : World} {A : Ac} {a : Option Addr} {n c : Nat} (h : Hz w W A a n c) : w.heap.size + 2 < W.heap.size := (Array.getElem?_eq_some_iff.1 h.hz).1
theorem Hz.below {w W W' : World} {A : Ac} {a : Option Addr} {n c : Nat} (h : Hz w W A a n c) (hb : Below W.heap.size W W') : Hz w W' A a n c :=
  ⟨h.bl.trans (hb.mono h.bl.size), h.ab.below hb, (hb.block _ (by have := h.lt; omega)).trans h.rz, (hb.block _ h.lt).trans h.hz⟩
theorem hz_three (w : World) (A : Ac) (a : Option Addr) (n c : Nat) : ∃ w1, w1 = ((w.alloc (.cells #[.string A.key, .int .i64 A.lo, .int .i64 A.hi, .int .i64 A.base, .int .i64 A.rd, .slice a n c, .int .i64 A.lk.c, .int .i64 A.lk.s, .int .i64 A.lk.h, .int .i64 A.lk.n] 28)).alloc (.cells #[.int .i64 0, .string ⟨#[]⟩, .int .i64 0, .int .i64 0] 43)).alloc (.cells #[.int .i64 0, .int .i64 0, .int .i64 0, .int .i64 0] 33) ∧ Hz w w1 A a n c := by
  refine ⟨_, rfl, ⟨((Below.alloc (Below.refl _ _) (Nat.le_refl _) _).alloc (by simp) _).alloc (by simp; omega) _, ?_, ?_, ?_⟩⟩
  · exact ((ab_new w A a n c).below (Below.alloc (Below.refl _ _) (Nat.le_refl _) _)).below (Below.alloc (Below.refl _ _) (Nat.le_refl _) _)
  · have h1 := heap_alloc_new (w.alloc (.cells #[.string A.key, .int .i64 A.lo, .int .i64 A.hi, .int .i64 A.base, .int .i64 A.rd, .slice a n c, .int .i64 A.lk.c, .int .i64 A.lk.s, .int .i64 A.lk.h, .int .i64 A.lk.n] 28)) (.cells #[.int .i64 0, .string ⟨#[]⟩, .int .i64 0, .int .i64 0] 43)
    rw [World.size_alloc] at h1
    exact (Below.heap_alloc _ _ _ (by simp)).trans h1
  · have h1 := heap_alloc_new ((w.alloc (.cells #[.string A.key, .int .i64 A.lo, .int .i64 A.hi, .int .i64 A.base, .int .i64 A.rd, .slice a n c, .int .i64 A.lk.c, .int .i64 A.lk.s, .int .i64 A.lk.h, .int .i64 A.lk.n] 28)).alloc (.cells #[.int .i64 0, .string ⟨#[]⟩, .int .i64 0, .int .i64 0] 43)) (.cells #[.int .i64 0, .int .i64 0, .int .i64 0, .int .i64 0] 33)
    rw [World.size_alloc, World.size_alloc] at h1
    exact h1
/-- the two results' rows, written -/
theorem hz_write {w W : World} {A : Ac} {a : Option Addr} {n c : Nat} (h : Hz w W A a n c) (cs cs' : Array Value) :
    ((W.setRow (w.heap.size + 1) cs).setRow (w.heap.size + 2) cs').heap[w.heap.size + 1]? = some (.cells cs 43 (0, 0)) ∧ ((W.setRow (w.heap.size + 1) cs).setRow (w.heap.size + 2) cs').heap[w.heap.size + 2]? = some (.cells cs' 33 (0, 0)) ∧ Below w.heap.size w ((W.setRow (w.heap.size + 1) cs).setRow (w.heap.size + 2) cs') := by
  refine ⟨(setRow_other _ _ _ _ (by omega)).trans (setRow_heap _ _ _ _ _ _ h.rz), setRow_heap _ _ _ _ _ _ ((setRow_other _ _ _ _ (by omega)).trans h.hz), below_setRow (below_setRow h.bl (by omega) _) (by omega) _⟩
set_option maxRecDepth 100000 in
set_option maxHeartbeats 4000000 in
theorem held_no {w : World} {b a : Option Addr} {m d n c : Nat} {l : List Rt} {g node : Int} {A : Ac} (hl : Rs w b m l) (h : Hs w a n A.hs) (hw : AcW A) (hE : ¬ heldE l g A node = 0) :
    Calls Try.prog 67 #[.slice b m d, .int .i64 g, .agg #[.string A.key, .int .i64 A.lo, .int .i64 A.hi, .int .i64 A.base, .int .i64 A.rd, .slice a n c, .int .i64 A.lk.c, .int .i64 A.lk.s, .int .i64 A.lk.h, .int .i64 A.lk.n], .int .i64 node] w fun e w' => e = .returned (.tuple #[.agg #[.int .i64 0, .string ⟨#[]⟩, .int .i64 0, .int .i64 0], .agg #[.int .i64 0, .int .i64 0, .int .i64 0, .int .i64 0], .int .i64 (heldE l g A node)]) ∧ Below w.heap.size w w' := by
  have CK := fun W => hide (fun hW : Below w.heap.size w W => lcheck_any (c := d) (hl.below hW))
  have WR := fun W => hide (fun hW : Below w.heap.size w W => wrong_any (c := c) (h.below hW) hw rfl)
  have GR := fun W => hide (group_any g W)
  have FI := fun W => hide (fun hW : Below w.heap.size w W => find_x (c := c) (node := node) (h.below hW) hw rfl rfl)
  unfold lcheckE at CK
  unfold heldE at hE ⊢
  unfold findF at FI
  by_cases e1 : ledB l = true
  · simp only [if_pos e1] at CK
    cases e2 : rightB A
    · rw [e2] at WR
      rw [if_neg (fun e => absurd e.2 (by simp))]
      clear hl h hw hE e1 e2 FI GR
      obtain ⟨w1, ew, HQ0⟩ := hz_three w A a n c
      have HQ1 := hide HQ0
      clear HQ0
      go_enter Try.func67, Try.ntmps67
      go_wp2_with fail
      rw [← ew]
      clear ew
      refine ((CK _).out HQ1.out.bl).mono ?_
      rintro e w2 ⟨rfl, hb⟩
      have HQ2 := hide (HQ1.out.below hb)
      clear hb
      obtain ⟨z0, z1, z2, z3, z4, z5, z6, z7, z8, z9⟩ := HQ2.out.ab.at_
      go_wp2_with fail
      clear z0 z1 z2 z3 z4 z5 z6 z7 z8 z9
      refine ((WR _).out HQ2.out.bl).mono ?_
      rintro e w3 ⟨rfl, hb⟩
      have HQ := hide (HQ2.out.below hb)
      clear hb
      obtain ⟨z0, z1, z2, z3, z4, z5, z6, z7, z8, z9⟩ := HQ.out.ab.at_
      go_wp2_with (first | (refine wpList_store_row rfl 43 (.tmp 8) (.tmp 21) rfl (w.heap.size + 1) #[.int .i64 0, .string ⟨#[]⟩, .int .i64 0, .int .i64 0] rfl rfl 43 #[.int .i64 0, .string ⟨#[]⟩, .int .i64 0, .int .i64 0] HQ.out.rz rt_info rfl (by simp [Value.oneCell']) ?_) | (refine wpList_store_row rfl 33 (.tmp 9) (.tmp 22) rfl (w.heap.size + 2) #[.int .i64 0, .int .i64 0, .int .i64 0, .int .i64 0] rfl rfl 33 #[.int .i64 0, .int .i64 0, .int .i64 0, .int .i64 0] ((setRow_other _ _ _ _ (by omega)).trans HQ.out.hz) hd_info rfl (by simp [Value.oneCell']) ?_))
      obtain ⟨q1, q2, q3⟩ := hz_write HQ.out #[.int .i64 0, .string ⟨#[]⟩, .int .i64 0, .int .i64 0] #[.int .i64 0, .int .i64 0, .int .i64 0, .int .i64 0]
      refine bodyPost_ret (v := .tuple #[.agg #[.int .i64 0, .string ⟨#[]⟩, .int .i64 0, .int .i64 0], .agg #[.int .i64 0, .int .i64 0, .int .i64 0, .int .i64 0], .int .i64 21]) ?r ?d ?_
      case r => exact results_c2t rfl _ _ (w.heap.size + 1) (w.heap.size + 2) 43 33 #[.int .i64 0, .string ⟨#[]⟩, .int .i64 0, .int .i64 0] #[.int .i64 0, .int .i64 0, .int .i64 0, .int .i64 0] (0, 0) (0, 0) _ _ (.int .i64 21) rfl rfl rfl q1 q2 Try.underlying43 rfl rt_info Try.underlying33 rfl hd_info
      case d => rfl
      exact ⟨rfl, q3⟩
    · rw [e2] at WR
      simp only [e2, if_true] at FI
      simp only [e1, e2, and_self, if_true] at hE ⊢
      cases e3 : grpB g
      · rw [e3] at GR
        simp only [Bool.false_eq_true, if_false]
        clear hl h hw hE e1 e2 e3 FI
        obtain ⟨w1, ew, HQ0⟩ := hz_three w A a n c
        have HQ1 := hide HQ0
        clear HQ0
        go_enter Try.func67, Try.ntmps67
        go_wp2_with fail
        rw [← ew]
        clear ew
        refine ((CK _).out HQ1.out.bl).mono ?_
        rintro e w2 ⟨rfl, hb⟩
        have HQ2 := hide (HQ1.out.below hb)
        clear hb
        obtain ⟨z0, z1, z2, z3, z4, z5, z6, z7, z8, z9⟩ := HQ2.out.ab.at_
        go_wp2_with fail
        clear z0 z1 z2 z3 z4 z5 z6 z7 z8 z9
        refine ((WR _).out HQ2.out.bl).mono ?_
        rintro e w3 ⟨rfl, hb⟩
        have HQ := hide (HQ2.out.below hb)
        clear hb
        obtain ⟨z0, z1, z2, z3, z4, z5, z6, z7, z8, z9⟩ := HQ.out.ab.at_
        go_wp2_with (first | (go_at_call 118; refine (GR _).out.mono ?_; rintro e w' ⟨rfl, hw⟩; rw [hw]; clear hw) | (refine wpList_store_row rfl 43 (.tmp 8) (.tmp 27) rfl (w.heap.size + 1) #[.int .i64 0, .string ⟨#[]⟩, .int .i64 0, .int .i64 0] rfl rfl 43 #[.int .i64 0, .string ⟨#[]⟩, .int .i64 0, .int .i64 0] HQ.out.rz rt_info rfl (by simp [Value.oneCell']) ?_) | (refine wpList_store_row rfl 33 (.tmp 9) (.tmp 28) rfl (w.heap.size + 2) #[.int .i64 0, .int .i64 0, .int .i64 0, .int .i64 0] rfl rfl 33 #[.int .i64 0, .int .i64 0, .int .i64 0, .int .i64 0] ((setRow_other _ _ _ _ (by omega)).trans HQ.out.hz) hd_info rfl (by simp [Value.oneCell']) ?_))
        obtain ⟨q1, q2, q3⟩ := hz_write HQ.out #[.int .i64 0, .string ⟨#[]⟩, .int .i64 0, .int .i64 0] #[.int .i64 0, .int .i64 0, .int .i64 0, .int .i64 0]
        refine bodyPost_ret (v := .tuple #[.agg #[.int .i64 0, .string ⟨#[]⟩, .int .i64 0, .int .i64 0], .agg #[.int .i64 0, .int .i64 0, .int .i64 0, .int .i64 0], .int .i64 1]) ?r ?d ?_
        case r => exact results_c2t rfl _ _ (w.heap.size + 1) (w.heap.size + 2) 43 33 #[.int .i64 0, .string ⟨#[]⟩, .int .i64 0, .int .i64 0] #[.int .i64 0, .int .i64 0, .int .i64 0, .int .i64 0] (0, 0) (0, 0) _ _ (.int .i64 1) rfl rfl rfl q1 q2 Try.underlying43 rfl rt_info Try.underlying33 rfl hd_info
        case d => rfl
        exact ⟨rfl, q3⟩
      · rw [e3] at GR
        simp only [if_true] at hE ⊢
        cases e4 : findH A.hs node with
        | some x => exact absurd (by rw [e3, e4]; rfl) hE
        | none =>
          rw [e4] at FI
          simp only [Option.isSome_none, Bool.false_eq_true, if_false, Option.getD_none] at FI ⊢
          clear hl h hw hE e1 e2 e3 e4
          obtain ⟨w1, ew, HQ0⟩ := hz_three w A a n c
          have HQ1 := hide HQ0
          clear HQ0
          go_enter Try.func67, Try.ntmps67
          go_wp2_with fail
          rw [← ew]
          clear ew
          refine ((CK _).out HQ1.out.bl).mono ?_
          rintro e w2 ⟨rfl, hb⟩
          have HQ2 := hide (HQ1.out.below hb)
          clear hb
          obtain ⟨z0, z1, z2, z3, z4, z5, z6, z7, z8, z9⟩ := HQ2.out.ab.at_
          go_wp2_with fail
          clear z0 z1 z2 z3 z4 z5 z6 z7 z8 z9
          refine ((WR _).out HQ2.out.bl).mono ?_
          rintro e w3 ⟨rfl, hb⟩
          have HQ3 := hide (HQ2.out.below hb)
          clear hb
          obtain ⟨z0, z1, z2, z3, z4, z5, z6, z7, z8, z9⟩ := HQ3.out.ab.at_
          go_wp2_with (go_at_call 118; refine (GR _).out.mono ?_; rintro e w' ⟨rfl, hw⟩; rw [hw]; clear hw)
          clear z0 z1 z2 z3 z4 z5 z6 z7 z8 z9
          refine ((FI _).out HQ3.out.bl).mono ?_
          rintro e w4 ⟨rfl, hb⟩
          have HQ4 := hide (HQ3.out.below hb)
          clear hb
          obtain ⟨z0, z1, z2, z3, z4, z5, z6, z7, z8, z9⟩ := HQ4.out.ab.at_
          have HQ := hide (HQ4.out.below (Below.alloc (Below.refl _ _) (Nat.le_refl _) (.cells #[.int .i64 0, .int .i64 0, .int .i64 0, .int .i64 0] 33)))
          simp only [hd0]
          go_wp2_with (first | (refine wpList_store_row rfl 43 (.tmp 8) (.tmp 37) rfl (w.heap.size + 1) #[.int .i64 0, .string ⟨#[]⟩, .int .i64 0, .int .i64 0] rfl rfl 43 #[.int .i64 0, .string ⟨#[]⟩, .int .i64 0, .int .i64 0] HQ.out.rz rt_info rfl (by simp [Value.oneCell']) ?_) | (refine wpList_store_row rfl 33 (.tmp 9) (.tmp 38) rfl (w.heap.size + 2) #[.int .i64 0, .int .i64 0, .int .i64 0, .int .i64 0] rfl rfl 33 #[.int .i64 0, .int .i64 0, .int .i64 0, .int .i64 0] ((setRow_other _ _ _ _ (by omega)).trans HQ.out.hz) hd_info rfl (by simp [Value.oneCell']) ?_))
          obtain ⟨q1, q2, q3⟩ := hz_write HQ.out #[.int .i64 0, .string ⟨#[]⟩, .int .i64 0, .int .i64 0] #[.int .i64 0, .int .i64 0, .int .i64 0, .int .i64 0]
          refine bodyPost_ret (v := .tuple #[.agg #[.int .i64 0, .string ⟨#[]⟩, .int .i64 0, .int .i64 0], .agg #[.int .i64 0, .int .i64 0, .int .i64 0, .int .i64 0], .int .i64 151]) ?r ?d ?_
          case r => exact results_c2t rfl _ _ (w.heap.size + 1) (w.heap.size + 2) 43 33 #[.int .i64 0, .string ⟨#[]⟩, .int .i64 0, .int .i64 0] #[.int .i64 0, .int .i64 0, .int .i64 0, .int .i64 0] (0, 0) (0, 0) _ _ (.int .i64 151) rfl rfl rfl q1 q2 Try.underlying43 rfl rt_info Try.underlying33 rfl hd_info
          case d => rfl
          exact ⟨rfl, q3⟩
  · simp only [if_neg e1] at CK
    rw [if_neg (fun e => e1 e.1)]
    clear hl h hw hE e1 FI GR WR
    obtain ⟨w1, ew, HQ0⟩ := hz_three w A a n c
    have HQ1 := hide HQ0
    clear HQ0
    go_enter Try.func67, Try.ntmps67
    go_wp2_with fail
    rw [← ew]
    clear ew
    refine ((CK _).out HQ1.out.bl).mono ?_
    rintro e w2 ⟨rfl, hb⟩
    have HQ := hide (HQ1.out.below hb)
    clear hb
    obtain ⟨z0, z1, z2, z3, z4, z5, z6, z7, z8, z9⟩ := HQ.out.ab.at_
    go_wp2_with (first | (refine wpList_store_row rfl 43 (.tmp 8) (.tmp 21) rfl (w.heap.size + 1) #[.int .i64 0, .string ⟨#[]⟩, .int .i64 0, .int .i64 0] rfl rfl 43 #[.int .i64 0, .string ⟨#[]⟩, .int .i64 0, .int .i64 0] HQ.out.rz rt_info rfl (by simp [Value.oneCell']) ?_) | (refine wpList_store_row rfl 33 (.tmp 9) (.tmp 22) rfl (w.heap.size + 2) #[.int .i64 0, .int .i64 0, .int .i64 0, .int .i64 0] rfl rfl 33 #[.int .i64 0, .int .i64 0, .int .i64 0, .int .i64 0] ((setRow_other _ _ _ _ (by omega)).trans HQ.out.hz) hd_info rfl (by simp [Value.oneCell']) ?_))
    obtain ⟨q1, q2, q3⟩ := hz_write HQ.out #[.int .i64 0, .string ⟨#[]⟩, .int .i64 0, .int .i64 0] #[.int .i64 0, .int .i64 0, .int .i64 0, .int .i64 0]
    refine bodyPost_ret (v := .tuple #[.agg #[.int .i64 0, .string ⟨#[]⟩, .int .i64 0, .int .i64 0], .agg #[.int .i64 0, .int .i64 0, .int .i64 0, .int .i64 0], .int .i64 21]) ?r ?d ?_
    case r => exact results_c2t rfl _ _ (w.heap.size + 1) (w.heap.size + 2) 43 33 #[.int .i64 0, .string ⟨#[]⟩, .int .i64 0, .int .i64 0] #[.int .i64 0, .int .i64 0, .int .i64 0, .int .i64 0] (0, 0) (0, 0) _ _ (.int .i64 21) rfl rfl rfl q1 q2 Try.underlying43 rfl rt_info Try.underlying33 rfl hd_info
    case d => rfl
    exact ⟨rfl, q3⟩
set_option maxRecDepth 100000 in
set_option maxHeartbeats 8000000 in
theorem held_yes {w : World} {b a : Option Addr} {m d n c : Nat} {l : List Rt} {g node : Int} {A : Ac} {x : Hd} (hl : Rs w b m l) (h : Hs w a n A.hs) (hw : AcW A) (e1 : ledB l = true) (e2 : rightB A = true) (e3 : grpB g = true) (e4 : findH A.hs node = some x) :
    Calls Try.prog 67 #[.slice b m d, .int .i64 g, .agg #[.string A.key, .int .i64 A.lo, .int .i64 A.hi, .int .i64 A.base, .int .i64 A.rd, .slice a n c, .int .i64 A.lk.c, .int .i64 A.lk.s, .int .i64 A.lk.h, .int .i64 A.lk.n], .int .i64 node] w fun e w' => e = .returned (.tuple #[.agg #[.int .i64 g, .string A.key, .int .i64 x.ls, .int .i64 (netL l g A.key x.ls)], .agg #[.int .i64 x.nd, .int .i64 x.ls, .int .i64 x.up, .int .i64 x.dn], .int .i64 0]) ∧ Below w.heap.size w w' := by
  have CK := fun W => hide (fun hW : Below w.heap.size w W => lcheck_any (c := d) (hl.below hW))
  have WR := fun W => hide (fun hW : Below w.heap.size w W => wrong_any (c := c) (h.below hW) hw e2)
  have GR := fun W => hide (group_any g W)
  have FI := fun W => hide (fun hW : Below w.heap.size w W => find_x (c := c) (node := node) (x := x) (b := true) (h.below hW) hw (by unfold findF; rw [if_pos e2, e4]; rfl) (by unfold findF; rw [if_pos e2, e4]; rfl))
  have FI2 := fun W => hide (fun hW : Below w.heap.size w W => lfind_any (c := d) (f := frR g A.key x.ls) (hl.below hW) (led_iff.1 e1))
  rw [find_frv (led_iff.1 e1)] at FI2
  unfold rval frR at FI2
  rw [e3] at GR
  unfold lcheckE at CK
  rw [if_pos e1] at CK
  generalize netL l g A.key x.ls = v at FI2 ⊢
  clear hl h hw e1 e2 e3 e4
  obtain ⟨w1, ew, HQ0⟩ := hz_three w A a n c
  have HQ1 := hide HQ0
  clear HQ0
  go_enter Try.func67, Try.ntmps67
  go_wp2_with fail
  rw [← ew]
  clear ew
  refine ((CK _).out HQ1.out.bl).mono ?_
  rintro e w2 ⟨rfl, hb⟩
  have HQ2 := hide (HQ1.out.below hb)
  clear hb
  obtain ⟨z0, z1, z2, z3, z4, z5, z6, z7, z8, z9⟩ := HQ2.out.ab.at_
  go_wp2_with fail
  clear z0 z1 z2 z3 z4 z5 z6 z7 z8 z9
  refine ((WR _).out HQ2.out.bl).mono ?_
  rintro e w3 ⟨rfl, hb⟩
  have HQ3 := hide (HQ2.out.below hb)
  clear hb
  obtain ⟨z0, z1, z2, z3, z4, z5, z6, z7, z8, z9⟩ := HQ3.out.ab.at_
  go_wp2_with (go_at_call 118; refine (GR _).out.mono ?_; rintro e w' ⟨rfl, hw⟩; rw [hw]; clear hw)
  clear z0 z1 z2 z3 z4 z5 z6 z7 z8 z9
  refine ((FI _).out HQ3.out.bl).mono ?_
  rintro e w4 ⟨rfl, hb⟩
  have HQ4 := hide (HQ3.out.below hb)
  clear hb
  obtain ⟨z0, z1, z2, z3, z4, z5, z6, z7, z8, z9⟩ := HQ4.out.ab.at_
  obtain ⟨w5, ew5, hb5, hk5⟩ := hk_new w4 x
  have HQ5 := hide (HQ4.out.below hb5)
  have HK5 := hide hk5
  have hq4 : w.heap.size + 2 < w4.heap.size := HQ4.out.lt
  clear hb5 hk5 CK WR GR FI z0 z1 z2 z3 z4 z5 z6 z7 z8 z9
  go_upto_region 8 with fail
  rw [← ew5]
  clear ew5 HQ1 HQ2 HQ3 HQ4
  obtain ⟨p, ep⟩ : ∃ p, p = w4.heap.size := ⟨_, rfl⟩
  rw [← ep] at HK5 hq4 ⊢
  clear ep
  refine region_tree (n := 12) (fun v => v.cell? ⟨w.heap.size, 0, none⟩ = some (.string A.key) ∧ v.cell? ⟨p, 0, none⟩ = some (.int .i64 x.nd) ∧ v.cell? ⟨p, 1, none⟩ = some (.int .i64 x.ls) ∧ v.cell? ⟨p, 2, none⟩ = some (.int .i64 x.up) ∧ v.cell? ⟨p, 3, none⟩ = some (.int .i64 x.dn)) (by kernel_rfl) (by kernel_rfl) ?_
  have HQ6 := hide (HQ5.out.below (below_drew1' _))
  have HK6 := hide (HK5.out.below (below_drew1' _))
  generalize w5.drew = u6 at HQ6 HK6 ⊢
  clear HQ5 HK5
  have ka6 := HQ6.out.ab.at_.c0
  obtain ⟨kb6, kc6, kd6, ke6⟩ := HK6.out.at_
  refine any_take 0 (v := ?_) (by kernel_rfl) (by kernel_rfl) (by kernel_rfl) rfl (fun _ _ _ h => h) (by rfl) (And.intro ka6 (And.intro kb6 (And.intro kc6 (And.intro kd6 ke6)))) ?_ ?_
  rotate_left
  · (intro y hy; simp only [List.getElem_toArray, List.getElem_cons_zero]; go_simp; try with_reducible rfl)
  simp only [List.getElem_toArray, List.getElem_cons_zero, Act.put, List.setIfInBounds_toArray, List.set_cons_zero, List.set_cons_succ]
  refine any_take 1 (v := ?_) (by kernel_rfl) (by kernel_rfl) (by kernel_rfl) rfl (fun _ _ _ h => h) (by rfl) (And.intro ka6 (And.intro kb6 (And.intro kc6 (And.intro kd6 ke6)))) ?_ ?_
  rotate_left
  · (intro y hy; simp only [List.getElem_toArray, List.getElem_cons_zero, List.getElem_cons_succ]; go_simp; try with_reducible rfl)
  simp only [List.getElem_toArray, List.getElem_cons_zero, List.getElem_cons_succ, Act.put, List.setIfInBounds_toArray, List.set_cons_zero, List.set_cons_succ]
  refine any_take 2 (v := ?_) (by kernel_rfl) (by kernel_rfl) (by kernel_rfl) rfl (fun _ _ _ h => h) (by rfl) (And.intro ka6 (And.intro kb6 (And.intro kc6 (And.intro kd6 ke6)))) ?_ ?_
  rotate_left
  · (intro y hy; simp only [List.getElem_toArray, List.getElem_cons_zero, List.getElem_cons_succ]; go_simp; try with_reducible rfl)
  simp only [List.getElem_toArray, List.getElem_cons_zero, List.getElem_cons_succ, Act.put, List.setIfInBounds_toArray, List.set_cons_zero, List.set_cons_succ]
  refine any_take 3 (v := ?_) (by kernel_rfl) (by kernel_rfl) (by kernel_rfl) rfl (fun _ _ _ h => h) (by rfl) (And.intro ka6 (And.intro kb6 (And.intro kc6 (And.intro kd6 ke6)))) ?_ ?_
  rotate_left
  · (intro y hy; obtain ⟨q0, q1, q2, q3, q4⟩ := hy; simp only [List.getElem_toArray, List.getElem_cons_zero, List.getElem_cons_succ]; go_simp; try with_reducible rfl)
  simp only [List.getElem_toArray, List.getElem_cons_zero, List.getElem_cons_succ, Act.put, List.setIfInBounds_toArray, List.set_cons_zero, List.set_cons_succ]
  refine any_take 4 (v := ?_) (by kernel_rfl) (by kernel_rfl) (by kernel_rfl) rfl (fun _ _ _ h => h) (by rfl) (And.intro ka6 (And.intro kb6 (And.intro kc6 (And.intro kd6 ke6)))) ?_ ?_
  rotate_left
  · (intro y hy; simp only [List.getElem_toArray, List.getElem_cons_zero, List.getElem_cons_succ]; go_simp; try with_reducible rfl)
  simp only [List.getElem_toArray, List.getElem_cons_zero, List.getElem_cons_succ, Act.put, List.setIfInBounds_toArray, List.set_cons_zero, List.set_cons_succ]
  refine any_take 5 (v := ?_) (by kernel_rfl) (by kernel_rfl) (by kernel_rfl) rfl (fun _ _ _ h => h) (by rfl) (And.intro ka6 (And.intro kb6 (And.intro kc6 (And.intro kd6 ke6)))) ?_ ?_
  rotate_left
  · (intro y hy; obtain ⟨q0, q1, q2, q3, q4⟩ := hy; simp only [List.getElem_toArray, List.getElem_cons_zero, List.getElem_cons_succ]; go_simp; try with_reducible rfl)
  simp only [List.getElem_toArray, List.getElem_cons_zero, List.getElem_cons_succ, Act.put, List.setIfInBounds_toArray, List.set_cons_zero, List.set_cons_succ]
  refine any_take 6 (v := ?_) (by kernel_rfl) (by kernel_rfl) (by kernel_rfl) rfl (fun _ _ _ h => h) (by rfl) (And.intro ka6 (And.intro kb6 (And.intro kc6 (And.intro kd6 ke6)))) ?_ ?_
  rotate_left
  · (intro y hy; simp only [List.getElem_toArray, List.getElem_cons_zero, List.getElem_cons_succ]; go_simp; try with_reducible rfl)
  simp only [List.getElem_toArray, List.getElem_cons_zero, List.getElem_cons_succ, Act.put, List.setIfInBounds_toArray, List.set_cons_zero, List.set_cons_succ]
  refine any_take 8 (v := ?_) (by kernel_rfl) (by kernel_rfl) (by kernel_rfl) rfl (fun _ _ _ h => h) (by rfl) (And.intro ka6 (And.intro kb6 (And.intro kc6 (And.intro kd6 ke6)))) ?_ ?_
  rotate_left
  · (intro y hy; obtain ⟨q0, q1, q2, q3, q4⟩ := hy; simp only [List.getElem_toArray, List.getElem_cons_zero, List.getElem_cons_succ]; go_simp; try with_reducible rfl)
  simp only [List.getElem_toArray, List.getElem_cons_zero, List.getElem_cons_succ, Act.put, List.setIfInBounds_toArray, List.set_cons_zero, List.set_cons_succ]
  refine any_fork [7] (by kernel_rfl) (by simp) ?_
  refine fork_one ?_
  refine any_op rfl (fun K' hK => ?_)
  simp only [List.getElem_toArray, List.getElem_cons_zero, List.getElem_cons_succ]
  go_simp
  refine ((FI2 _).out HQ6.out.bl).mono ?_; rintro e u7 ⟨rfl, hb⟩; have HQ7 := hide (HQ6.out.below hb); have HK7 := hide (HK6.out.below hb); have hlt7 := HQ7.out.lt; clear hb HQ6 HK6 ka6 kb6 kc6 kd6 ke6
  have ka7 := HQ7.out.ab.at_.c0
  obtain ⟨kb7, kc7, kd7, ke7⟩ := HK7.out.at_
  refine hK _ _ ⟨(And.intro ka7 (And.intro kb7 (And.intro kc7 (And.intro kd7 ke7)))), ?_⟩
  clear hK K'
  refine any_fork [9] (by kernel_rfl) (by simp) ?_
  refine fork_one ?_
  refine any_op rfl (fun K' hK => ?_)
  rw [if_pos (by rfl)]
  refine wp_store_row 43 (.tmp 8) (.tmp 46) rfl (w.heap.size + 1) #[.int .i64 g, .string A.key, .int .i64 x.ls, .int .i64 v] rfl rfl 43 #[.int .i64 0, .string ⟨#[]⟩, .int .i64 0, .int .i64 0] HQ7.out.rz rt_info rfl (by simp [Value.oneCell']) ?_
  refine hK _ _ ⟨⟨?_, ?_, ?_, ?_, ?_⟩, ?_⟩
  · exact (cell_setRow_other _ _ _ _ (by simp <;> omega)).trans ka7
  · exact (cell_setRow_other _ _ _ _ (by simp <;> omega)).trans kb7
  · exact (cell_setRow_other _ _ _ _ (by simp <;> omega)).trans kc7
  · exact (cell_setRow_other _ _ _ _ (by simp <;> omega)).trans kd7
  · exact (cell_setRow_other _ _ _ _ (by simp <;> omega)).trans ke7
  clear hK K'
  refine any_fork [10] (by kernel_rfl) (by simp) ?_
  refine fork_one ?_
  refine any_op rfl (fun K' hK => ?_)
  rw [if_pos (by rfl)]
  refine wp_store_row 33 (.tmp 9) (.tmp 47) rfl (w.heap.size + 2) #[.int .i64 x.nd, .int .i64 x.ls, .int .i64 x.up, .int .i64 x.dn] rfl rfl 33 #[.int .i64 0, .int .i64 0, .int .i64 0, .int .i64 0] ((setRow_other _ _ _ _ (by omega)).trans HQ7.out.hz) hd_info rfl (by simp [Value.oneCell']) ?_
  refine hK _ _ ⟨⟨?_, ?_, ?_, ?_, ?_⟩, ?_⟩
  · exact (cell_setRow_other _ _ _ _ (by simp <;> omega)).trans ((cell_setRow_other _ _ _ _ (by simp <;> omega)).trans ka7)
  · exact (cell_setRow_other _ _ _ _ (by simp <;> omega)).trans ((cell_setRow_other _ _ _ _ (by simp <;> omega)).trans kb7)
  · exact (cell_setRow_other _ _ _ _ (by simp <;> omega)).trans ((cell_setRow_other _ _ _ _ (by simp <;> omega)).trans kc7)
  · exact (cell_setRow_other _ _ _ _ (by simp <;> omega)).trans ((cell_setRow_other _ _ _ _ (by simp <;> omega)).trans kd7)
  · exact (cell_setRow_other _ _ _ _ (by simp <;> omega)).trans ((cell_setRow_other _ _ _ _ (by simp <;> omega)).trans ke7)
  clear hK K'
  refine any_fork [11] (by kernel_rfl) (by simp) ?_
  refine fork_one ?_
  refine any_op rfl (fun K' hK => ?_)
  simp only [List.getElem_toArray, List.getElem_cons_zero, List.getElem_cons_succ]
  go_simp
  refine hK _ _ ⟨⟨?_, ?_, ?_, ?_, ?_⟩, ?_⟩
  · exact (cell_setRow_other _ _ _ _ (by simp <;> omega)).trans ((cell_setRow_other _ _ _ _ (by simp <;> omega)).trans ka7)
  · exact (cell_setRow_other _ _ _ _ (by simp <;> omega)).trans ((cell_setRow_other _ _ _ _ (by simp <;> omega)).trans kb7)
  · exact (cell_setRow_other _ _ _ _ (by simp <;> omega)).trans ((cell_setRow_other _ _ _ _ (by simp <;> omega)).trans kc7)
  · exact (cell_setRow_other _ _ _ _ (by simp <;> omega)).trans ((cell_setRow_other _ _ _ _ (by simp <;> omega)).trans kd7)
  · exact (cell_setRow_other _ _ _ _ (by simp <;> omega)).trans ((cell_setRow_other _ _ _ _ (by simp <;> omega)).trans ke7)
  clear hK K'
  refine any_done (by kernel_rfl) ?_
  obtain ⟨q1, q2, q3⟩ := hz_write HQ7.out #[.int .i64 g, .string A.key, .int .i64 x.ls, .int .i64 v] #[.int .i64 x.nd, .int .i64 x.ls, .int .i64 x.up, .int .i64 x.dn]
  go_wp2_with fail
  refine bodyPost_ret (v := .tuple #[.agg #[.int .i64 g, .string A.key, .int .i64 x.ls, .int .i64 v], .agg #[.int .i64 x.nd, .int .i64 x.ls, .int .i64 x.up, .int .i64 x.dn], .int .i64 0]) ?r ?d ?_
  case r => exact results_c2t rfl _ _ (w.heap.size + 1) (w.heap.size + 2) 43 33 #[.int .i64 g, .string A.key, .int .i64 x.ls, .int .i64 v] #[.int .i64 x.nd, .int .i64 x.ls, .int .i64 x.up, .int .i64 x.dn] (0, 0) (0, 0) _ _ (.int .i64 0) rfl rfl rfl q1 q2 Try.underlying43 rfl rt_info Try.underlying33 rfl hd_info
  case d => rfl
  exact ⟨rfl, q3⟩

/-- held, whatever it is asked -/
theorem held_x {w : World} {b a : Option Addr} {m d n c : Nat} {l : List Rt} {g node E : Int} {A : Ac} {R : Rt} {X : Hd} (hl : Rs w b m l) (h : Hs w a n A.hs) (hw : AcW A) (eE : heldE l g A node = E) (eR : heldR l g A node = R) (eX : heldH l g A node = X) :
    Calls Try.prog 67 #[.slice b m d, .int .i64 g, .agg #[.string A.key, .int .i64 A.lo, .int .i64 A.hi, .int .i64 A.base, .int .i64 A.rd, .slice a n c, .int .i64 A.lk.c, .int .i64 A.lk.s, .int .i64 A.lk.h, .int .i64 A.lk.n], .int .i64 node] w fun e w' => e = .returned (.tuple #[.agg #[.int .i64 R.g, .string R.k, .int .i64 R.ls, .int .i64 R.nt], .agg #[.int .i64 X.nd, .int .i64 X.ls, .int .i64 X.up, .int .i64 X.dn], .int .i64 E]) ∧ Below w.heap.size w w' := by
  by_cases h0 : heldE l g A node = 0
  · obtain ⟨x, g1, g2, g3, g4⟩ : ∃ x, ledB l = true ∧ rightB A = true ∧ grpB g = true ∧ findH A.hs node = some x := by
      unfold heldE at h0
      by_cases a1 : ledB l = true ∧ rightB A = true
      · rw [if_pos a1] at h0
        by_cases a2 : grpB g = true
        · rw [if_pos a2] at h0
          cases a3 : findH A.hs node with
          | none => rw [a3] at h0; simp at h0
          | some x => exact ⟨x, a1.1, a1.2, a2, rfl⟩
        · rw [if_neg a2] at h0; omega
      · rw [if_neg a1] at h0; omega
    have hX : X = x := by rw [← eX]; unfold heldH; rw [if_pos h0, g4]; rfl
    have hR : R = ⟨g, A.key, x.ls, netL l g A.key x.ls⟩ := by rw [← eR]; unfold heldR; rw [if_pos h0, eX, hX]
    subst hX
    subst hR
    rw [← eE, h0]
    exact held_yes hl h hw g1 g2 g3 g4
  · have hX : X = hd0 := by rw [← eX]; unfold heldH; rw [if_neg h0]
    have hR : R = rt0 := by rw [← eR]; unfold heldR; rw [if_neg h0]
    subst hX
    subst hR
    subst eE
    exact held_no hl h hw h0
end Go.Proofs.Ytjcbhgkfbilifaa
