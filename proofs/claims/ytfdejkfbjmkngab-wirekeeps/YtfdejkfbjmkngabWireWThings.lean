/- What the landed writer makes of the things whose fields are plain. No condition but the size. -/
import Derived.Test.YtfdejkfbjmkngabWireGoOp
import Derived.Test.YtfdejkfbjmkngabWireGoPlan
import Derived.Test.YtfdejkfbjmkngabWireGoBallot
import Derived.Test.YtfdejkfbjmkngabWireGoVote
import Derived.Test.YtfdejkfbjmkngabWireGoEntry
import Derived.Test.YtfdejkfbjmkngabWireGoRight
import Derived.Test.YtfdejkfbjmkngabWireGoMark
import Derived.Test.YtfdejkfbjmkngabWireGoWait
import Derived.Test.YtfdejkfbjmkngabWireGoDeal
import Derived.Test.YtfdejkfbjmkngabWireGoPlace
import Derived.Test.YtfdejkfbjmkngabWireGoCommand
import Derived.Test.YtfdejkfbjmkngabWireGoNote
import Derived.Test.YtfdejkfbjmkngabWireWx
namespace Go.Proofs.Ytfdejkfbjmkngab
open Go.ChangeShapes Go.WideShapes Go.ChangeAt Go.RowKit B8 Cm Wm
set_option linter.unusedVariables false

theorem nilw_ints (a : Addr) (w : World) : (nilAhead 321 104 (.pointer (some a)) "purse/wire.ints").run Try.prog w = .ok (some false) w := by kernel_rfl
theorem methw_ints (a : Addr) (w : World) : (method 321 104 (.pointer (some a)) "purse/wire.ints").run Try.prog w = .ok (105, .pointer (some a)) w := by kernel_rfl
theorem callw_ints (args : Array Value) (w : World) : (callFunc 105 args).run Try.prog w = .ok (.enter 105 args) w := by kernel_rfl
theorem nilw_texts (a : Addr) (w : World) : (nilAhead 321 104 (.pointer (some a)) "purse/wire.texts").run Try.prog w = .ok (some false) w := by kernel_rfl
theorem methw_texts (a : Addr) (w : World) : (method 321 104 (.pointer (some a)) "purse/wire.texts").run Try.prog w = .ok (107, .pointer (some a)) w := by kernel_rfl
theorem callw_texts (args : Array Value) (w : World) : (callFunc 107 args).run Try.prog w = .ok (.enter 107 args) w := by kernel_rfl
theorem nilw_bytes (a : Addr) (w : World) : (nilAhead 321 104 (.pointer (some a)) "purse/wire.bytes").run Try.prog w = .ok (some false) w := by kernel_rfl
theorem methw_bytes (a : Addr) (w : World) : (method 321 104 (.pointer (some a)) "purse/wire.bytes").run Try.prog w = .ok (101, .pointer (some a)) w := by kernel_rfl
theorem callw_bytes (args : Array Value) (w : World) : (callFunc 101 args).run Try.prog w = .ok (.enter 101 args) w := by kernel_rfl
theorem nilw_flag (a : Addr) (w : World) : (nilAhead 321 104 (.pointer (some a)) "purse/wire.flag").run Try.prog w = .ok (some false) w := by kernel_rfl
theorem methw_flag (a : Addr) (w : World) : (method 321 104 (.pointer (some a)) "purse/wire.flag").run Try.prog w = .ok (104, .pointer (some a)) w := by kernel_rfl
theorem callw_flag (args : Array Value) (w : World) : (callFunc 104 args).run Try.prog w = .ok (.enter 104 args) w := by kernel_rfl
theorem nilw_errno (a : Addr) (w : World) : (nilAhead 321 104 (.pointer (some a)) "purse/wire.errno").run Try.prog w = .ok (some false) w := by kernel_rfl
theorem methw_errno (a : Addr) (w : World) : (method 321 104 (.pointer (some a)) "purse/wire.errno").run Try.prog w = .ok (103, .pointer (some a)) w := by kernel_rfl
theorem callw_errno (args : Array Value) (w : World) : (callFunc 103 args).run Try.prog w = .ok (.enter 103 args) w := by kernel_rfl
theorem nilw_count (a : Addr) (w : World) : (nilAhead 321 104 (.pointer (some a)) "purse/wire.count").run Try.prog w = .ok (some false) w := by kernel_rfl
theorem methw_count (a : Addr) (w : World) : (method 321 104 (.pointer (some a)) "purse/wire.count").run Try.prog w = .ok (102, .pointer (some a)) w := by kernel_rfl
theorem callw_count (args : Array Value) (w : World) : (callFunc 102 args).run Try.prog w = .ok (.enter 102 args) w := by kernel_rfl
theorem FlatAt.stq {S : World → Nat → Prop} {w w1 : World} {M o : Nat} {xs : List Atom} (h : FlatAt w (Out S M w) M o xs) (g : Stq S w w1) (hM : M < w.heap.size) (hS : ¬ S w M) : FlatAt w1 (Out S M w1) M o xs :=
  h.same (fun j hj => World.cell?_of_block (w := w) (g.block M hM hS)) (fun b hb => ⟨⟨Nat.lt_of_lt_of_le hb.1 g.size, g.keep hb.1 hb.2.1, hb.2.2⟩, g.block b hb.1 hb.2.1⟩)
theorem kinds_all {xs : List Atom} {ks : List Nat} {k : Nat} (h : xs.map Atom.k = ks) (hk : ∀ j ∈ ks, j = k) : ∀ x ∈ xs, x.k = k := fun x hx => hk _ (by rw [← h]; exact List.mem_map_of_mem hx)
theorem ptr_cells (w : World) (cs : Array Value) (T : TypeId) (M o n : Nat) (hc : ∀ j, j < n → cs[j]? = some (.pointer (some ⟨M, o + j, none⟩))) : ∀ j, j < n → (w.alloc (.cells cs T)).drew.cell? ⟨w.heap.size, j, none⟩ = some (.pointer (some ⟨M, o + j, none⟩)) := by
  intro j hj
  have : (w.alloc (.cells cs T)).drew.heap[w.heap.size]? = some (.cells cs T) := heap_alloc_new w _
  unfold World.cell?
  rw [this]
  exact hc j hj
theorem below_ptrs (w : World) (o : Obj) : Below w.heap.size w (w.alloc o).drew := (below_alloc1 w o).drew

section
variable {w : World} {B W : Nat} {fs : List Fld} {M o n : Nat} {xs : List Atom}
theorem wown_new (h : WS w B W fs) (ob : Obj) : ¬ Wown W (w.alloc ob).drew w.heap.size := fun hk => by
  have := ((h.below (below_ptrs w ob)).base) _ hk
  rcases hk with hk | ⟨v, h1, h2⟩
  · have := h.lt; omega
  · rw [(below_ptrs w ob).cell (p := ⟨W, 0, none⟩) h.lt] at h1
    have := h.base _ (.inr ⟨v, h1, h2⟩)
    omega
theorem wints_call (h : WS w B W fs) (hB : B ≤ w.heap.size) (hf : FlatAt w (Out (Wown W) M w) M o xs) (hk : ∀ x ∈ xs, x.k = 0) (hn : xs.length = n) (hM : M < w.heap.size) (hS : ¬ Wown W w M) (cs : Array Value) (T : TypeId)
    (hc : ∀ j, j < n → cs[j]? = some (.pointer (some ⟨M, o + j, none⟩))) (hm : n ≤ 1000000 := by omega) :
    Calls Try.prog 105 #[.pointer (some ⟨W, 0, none⟩), .slice (some ⟨w.heap.size, 0, none⟩) n n] (w.alloc (.cells cs T)).drew fun e w' => e = .returned (.tuple #[]) ∧ WS w' B W (fs ++ flds xs) ∧ Stq (Wown W) w w' := by
  have hb := below_ptrs w (.cells cs T)
  have hq := stq_below hb h.lt
  exact (wints_any (cp := n) (h.below hb) (Nat.le_trans hB hb.size) (hf.stq hq hM hS) hk hn hm (hq.keep hM hS) (wown_new h _) (ptr_cells w cs T M o n hc)).mono fun e w' ⟨h1, h2, h3⟩ => ⟨h1, h2, hq.trans h3⟩
theorem wtexts_call (h : WS w B W fs) (hB : B ≤ w.heap.size) (hf : FlatAt w (Out (Wown W) M w) M o xs) (hk : ∀ x ∈ xs, x.k = 3) (hn : xs.length = n) (hM : M < w.heap.size) (hS : ¬ Wown W w M) (cs : Array Value) (T : TypeId)
    (hc : ∀ j, j < n → cs[j]? = some (.pointer (some ⟨M, o + j, none⟩))) (hm : n ≤ 1000000 := by omega) :
    Calls Try.prog 107 #[.pointer (some ⟨W, 0, none⟩), .slice (some ⟨w.heap.size, 0, none⟩) n n] (w.alloc (.cells cs T)).drew fun e w' => e = .returned (.tuple #[]) ∧ WS w' B W (fs ++ flds xs) ∧ Stq (Wown W) w w' := by
  have hb := below_ptrs w (.cells cs T)
  have hq := stq_below hb h.lt
  exact (wtexts_any (cp := n) (h.below hb) (Nat.le_trans hB hb.size) (hf.stq hq hM hS) hk hn hm (hq.keep hM hS) (wown_new h _) (ptr_cells w cs T M o n hc)).mono fun e w' ⟨h1, h2, h3⟩ => ⟨h1, h2, hq.trans h3⟩
theorem one_atom {k : Nat} (h : xs.map Atom.k = [k]) : ∃ x, xs = [x] ∧ x.k = k := by
  match xs, h with
  | [x], h => exact ⟨x, rfl, by simpa using h⟩
theorem flat_one {P : Nat → Prop} {x : Atom} (h : FlatAt w P M o [x]) : ∃ v, w.cell? ⟨M, o, none⟩ = some v ∧ AtomV w P v x := h 0 x rfl
theorem drew_cell (w : World) (a : Addr) : w.drew.cell? a = w.cell? a := rfl
theorem werrno_call (h : WS w B W fs) (hB : B ≤ w.heap.size) (hf : FlatAt w (Out (Wown W) M w) M o xs) (hk : xs.map Atom.k = [0]) (hM : M < w.heap.size) (hS : ¬ Wown W w M) :
    Calls Try.prog 103 #[.pointer (some ⟨W, 0, none⟩), .pointer (some ⟨M, o, none⟩)] w.drew fun e w' => e = .returned (.tuple #[]) ∧ WS w' B W (fs ++ flds xs) ∧ Stq (Wown W) w w' := by
  obtain ⟨x, rfl, hx⟩ := one_atom hk
  obtain ⟨v, hc, hv⟩ := flat_one hf
  obtain ⟨rfl, z0, z1⟩ := atom_int hv hx
  have hb := below_drew1 w
  refine (werrno_any x.z z0 z1 (h.below hb) (Nat.le_trans hB hb.size) hc).mono fun e w' ⟨h1, h2, h3⟩ => ⟨h1, ?_, (stq_below hb h.lt).trans h3⟩
  rw [← fldA_int hx] at h2
  exact h2
theorem wflag_call (h : WS w B W fs) (hB : B ≤ w.heap.size) (hf : FlatAt w (Out (Wown W) M w) M o xs) (hk : xs.map Atom.k = [2]) (hM : M < w.heap.size) (hS : ¬ Wown W w M) :
    Calls Try.prog 104 #[.pointer (some ⟨W, 0, none⟩), .pointer (some ⟨M, o, none⟩)] w.drew fun e w' => e = .returned (.tuple #[]) ∧ WS w' B W (fs ++ flds xs) ∧ Stq (Wown W) w w' := by
  obtain ⟨x, rfl, hx⟩ := one_atom hk
  obtain ⟨v, hc, hv⟩ := flat_one hf
  obtain ⟨b, rfl, ez⟩ : ∃ b : Bool, v = .bool b ∧ x.z = if b then 1 else 0 := by
    rcases hv with hv | hv | hv | hv | hv
    · exact absurd hx (by have := hv.1; omega)
    · exact absurd hx (by have := hv.1; omega)
    · rcases hv.2 with ⟨h1, h2⟩ | ⟨h1, h2⟩
      · exact ⟨true, h1, h2⟩
      · exact ⟨false, h1, h2⟩
    · exact absurd hx (by have := hv.1; omega)
    · exact absurd hx (by have := hv.1; omega)
  have hb := below_drew1 w
  refine (wflag_any b (h.below hb) (Nat.le_trans hB hb.size) hc).mono fun e w' ⟨h1, h2, h3⟩ => ⟨h1, ?_, (stq_below hb h.lt).trans h3⟩
  rw [← ez, ← fldA_flag hx] at h2
  exact h2
theorem wbytes_call (h : WS w B W fs) (hB : B ≤ w.heap.size) (hf : FlatAt w (Out (Wown W) M w) M o xs) (hk : xs.map Atom.k = [4]) (hM : M < w.heap.size) (hS : ¬ Wown W w M) :
    Calls Try.prog 101 #[.pointer (some ⟨W, 0, none⟩), .pointer (some ⟨M, o, none⟩)] w.drew fun e w' => e = .returned (.tuple #[]) ∧ WS w' B W (fs ++ flds xs) ∧ Stq (Wown W) w w' := by
  have hb := below_drew1 w
  have hq := stq_below hb h.lt
  have hf := hf.stq hq hM hS
  obtain ⟨x, rfl, hx⟩ := one_atom hk
  obtain ⟨v, hc, hv⟩ := flat_one hf
  obtain ⟨a, k, cp, rfl, q, hn, hP⟩ : ∃ a k cp, v = .slice a k cp ∧ Sq w.drew a k cp x.bs ∧ k ≤ 140737488351232 ∧ ∀ b off, a = some ⟨b, off, none⟩ → 0 < k → Out (Wown W) M w.drew b := by
    rcases hv with hv | hv | hv | hv | hv
    · exact absurd hx (by have := hv.1; omega)
    · exact absurd hx (by have := hv.1; omega)
    · exact absurd hx (by have := hv.1; omega)
    · exact absurd hx (by have := hv.1; omega)
    · exact hv.2
  refine (wbytes_any (h.below hb) (Nat.le_trans hB hb.size) (hq.keep hM hS) hc q hn (fun b off e h0 => ⟨(hP b off e h0).2.1, (hP b off e h0).1⟩)).mono fun e w' ⟨h1, h2, h3⟩ => ⟨h1, ?_, hq.trans h3⟩
  rw [← fldA_text (.inr hx)] at h2
  exact h2
end

theorem wop_any {w : World} {B W : Nat} {fs : List Fld} {M o : Nat} {xs : List Atom} (h : WS w B W fs) (hB : B ≤ w.heap.size) (hf : FlatAt w (Out (Wown W) M w) M o xs) (hk : xs.map Atom.k = [0, 3, 3, 0, 0, 0]) (hM : M < w.heap.size) (hS : ¬ Wown W w M) :
    Calls Try.prog 34 #[.iface 104 (.pointer (some ⟨W, 0, none⟩)), .pointer (some ⟨M, o, none⟩)] w fun e w' => e = .returned (.tuple #[]) ∧ WS w' B W (fs ++ flds xs) ∧ Stq (Wown W) w w' := by
  obtain ⟨s0, r0, rfl, k0, hk⟩ := List.map_eq_append_iff.1 (show _ = [0] ++ [3, 3, 0, 0, 0] from hk)
  have l0 : s0.length = 1 := by have := congrArg List.length k0; simpa using this
  obtain ⟨s1, r1, rfl, k1, hk⟩ := List.map_eq_append_iff.1 (show _ = [3, 3] ++ [0, 0, 0] from hk)
  have l1 : s1.length = 2 := by have := congrArg List.length k1; simpa using this
  obtain ⟨s2, rfl⟩ : ∃ s, s = r1 := ⟨_, rfl⟩
  have k2 := hk
  have l2 : s2.length = 3 := by have := congrArg List.length k2; simpa using this
  have f0 := hf.left
  have g0 := hf.right
  rw [l0] at g0
  have f1 := g0.left
  have g1 := g0.right
  rw [l1, Nat.add_assoc] at g1
  simp only [Nat.reduceAdd] at g1
  have f2 := g1
  refine (go_op (M := M) (o := o) nilw_ints methw_ints callw_ints nilw_texts methw_texts callw_texts
    (R0 := fun u => WS u B W (fs) ∧ Stq (Wown W) w u)
    (R1 := fun u => WS u B W (fs ++ flds s0) ∧ Stq (Wown W) w u)
    (R2 := fun u => WS u B W (fs ++ flds s0 ++ flds s1) ∧ Stq (Wown W) w u)
    (R3 := fun u => WS u B W (fs ++ flds s0 ++ flds s1 ++ flds s2) ∧ Stq (Wown W) w u)
    (fun u hu => (wints_call hu.1 (Nat.le_trans hB hu.2.size) (f0.stq hu.2 hM hS) (kinds_all k0 (by simp)) l0 (Nat.lt_of_lt_of_le hM hu.2.size) (hu.2.keep hM hS) #[.pointer (some ⟨M, o, none⟩)] 93 (fun j hj => match j, hj with | 0, _ => rfl)).mono fun e w' ⟨h1, h2, h3⟩ => ⟨h1, h2, hu.2.trans h3⟩)
    (fun u hu => (wtexts_call hu.1 (Nat.le_trans hB hu.2.size) (f1.stq hu.2 hM hS) (kinds_all k1 (by simp)) l1 (Nat.lt_of_lt_of_le hM hu.2.size) (hu.2.keep hM hS) #[.pointer (some ⟨M, o + 1, none⟩), .pointer (some ⟨M, o + 2, none⟩)] 95 (fun j hj => match j, hj with | 0, _ => rfl | 1, _ => rfl)).mono fun e w' ⟨h1, h2, h3⟩ => ⟨h1, h2, hu.2.trans h3⟩)
    (fun u hu => (wints_call hu.1 (Nat.le_trans hB hu.2.size) (f2.stq hu.2 hM hS) (kinds_all k2 (by simp)) l2 (Nat.lt_of_lt_of_le hM hu.2.size) (hu.2.keep hM hS) #[.pointer (some ⟨M, o + 3, none⟩), .pointer (some ⟨M, o + 4, none⟩), .pointer (some ⟨M, o + 5, none⟩)] 93 (fun j hj => match j, hj with | 0, _ => rfl | 1, _ => rfl | 2, _ => rfl)).mono fun e w' ⟨h1, h2, h3⟩ => ⟨h1, h2, hu.2.trans h3⟩)
    w ⟨h, Stq.refl _ _⟩).mono fun e w' ⟨h1, h2, h3⟩ => ⟨h1, ?_, h3⟩
  simpa only [flds_append, List.append_assoc] using h2

theorem wplan_any {w : World} {B W : Nat} {fs : List Fld} {M o : Nat} {xs : List Atom} (h : WS w B W fs) (hB : B ≤ w.heap.size) (hf : FlatAt w (Out (Wown W) M w) M o xs) (hk : xs.map Atom.k = [0, 0, 0, 3, 3, 0, 0]) (hM : M < w.heap.size) (hS : ¬ Wown W w M) :
    Calls Try.prog 35 #[.iface 104 (.pointer (some ⟨W, 0, none⟩)), .pointer (some ⟨M, o, none⟩)] w fun e w' => e = .returned (.tuple #[]) ∧ WS w' B W (fs ++ flds xs) ∧ Stq (Wown W) w w' := by
  obtain ⟨s0, r0, rfl, k0, hk⟩ := List.map_eq_append_iff.1 (show _ = [0, 0, 0] ++ [3, 3, 0, 0] from hk)
  have l0 : s0.length = 3 := by have := congrArg List.length k0; simpa using this
  obtain ⟨s1, r1, rfl, k1, hk⟩ := List.map_eq_append_iff.1 (show _ = [3, 3] ++ [0, 0] from hk)
  have l1 : s1.length = 2 := by have := congrArg List.length k1; simpa using this
  obtain ⟨s2, rfl⟩ : ∃ s, s = r1 := ⟨_, rfl⟩
  have k2 := hk
  have l2 : s2.length = 2 := by have := congrArg List.length k2; simpa using this
  have f0 := hf.left
  have g0 := hf.right
  rw [l0] at g0
  have f1 := g0.left
  have g1 := g0.right
  rw [l1, Nat.add_assoc] at g1
  simp only [Nat.reduceAdd] at g1
  have f2 := g1
  refine (go_plan (M := M) (o := o) nilw_ints methw_ints callw_ints nilw_texts methw_texts callw_texts
    (R0 := fun u => WS u B W (fs) ∧ Stq (Wown W) w u)
    (R1 := fun u => WS u B W (fs ++ flds s0) ∧ Stq (Wown W) w u)
    (R2 := fun u => WS u B W (fs ++ flds s0 ++ flds s1) ∧ Stq (Wown W) w u)
    (R3 := fun u => WS u B W (fs ++ flds s0 ++ flds s1 ++ flds s2) ∧ Stq (Wown W) w u)
    (fun u hu => (wints_call hu.1 (Nat.le_trans hB hu.2.size) (f0.stq hu.2 hM hS) (kinds_all k0 (by simp)) l0 (Nat.lt_of_lt_of_le hM hu.2.size) (hu.2.keep hM hS) #[.pointer (some ⟨M, o, none⟩), .pointer (some ⟨M, o + 1, none⟩), .pointer (some ⟨M, o + 2, none⟩)] 93 (fun j hj => match j, hj with | 0, _ => rfl | 1, _ => rfl | 2, _ => rfl)).mono fun e w' ⟨h1, h2, h3⟩ => ⟨h1, h2, hu.2.trans h3⟩)
    (fun u hu => (wtexts_call hu.1 (Nat.le_trans hB hu.2.size) (f1.stq hu.2 hM hS) (kinds_all k1 (by simp)) l1 (Nat.lt_of_lt_of_le hM hu.2.size) (hu.2.keep hM hS) #[.pointer (some ⟨M, o + 3, none⟩), .pointer (some ⟨M, o + 4, none⟩)] 95 (fun j hj => match j, hj with | 0, _ => rfl | 1, _ => rfl)).mono fun e w' ⟨h1, h2, h3⟩ => ⟨h1, h2, hu.2.trans h3⟩)
    (fun u hu => (wints_call hu.1 (Nat.le_trans hB hu.2.size) (f2.stq hu.2 hM hS) (kinds_all k2 (by simp)) l2 (Nat.lt_of_lt_of_le hM hu.2.size) (hu.2.keep hM hS) #[.pointer (some ⟨M, o + 5, none⟩), .pointer (some ⟨M, o + 6, none⟩)] 93 (fun j hj => match j, hj with | 0, _ => rfl | 1, _ => rfl)).mono fun e w' ⟨h1, h2, h3⟩ => ⟨h1, h2, hu.2.trans h3⟩)
    w ⟨h, Stq.refl _ _⟩).mono fun e w' ⟨h1, h2, h3⟩ => ⟨h1, ?_, h3⟩
  simpa only [flds_append, List.append_assoc] using h2

theorem wballot_any {w : World} {B W : Nat} {fs : List Fld} {M o : Nat} {xs : List Atom} (h : WS w B W fs) (hB : B ≤ w.heap.size) (hf : FlatAt w (Out (Wown W) M w) M o xs) (hk : xs.map Atom.k = [0, 0]) (hM : M < w.heap.size) (hS : ¬ Wown W w M) :
    Calls Try.prog 51 #[.iface 104 (.pointer (some ⟨W, 0, none⟩)), .pointer (some ⟨M, o, none⟩)] w fun e w' => e = .returned (.tuple #[]) ∧ WS w' B W (fs ++ flds xs) ∧ Stq (Wown W) w w' := by
  obtain ⟨s0, rfl⟩ : ∃ s, s = xs := ⟨_, rfl⟩
  have k0 := hk
  have l0 : s0.length = 2 := by have := congrArg List.length k0; simpa using this
  have f0 := hf
  refine (go_ballot (M := M) (o := o) nilw_ints methw_ints callw_ints
    (R0 := fun u => WS u B W (fs) ∧ Stq (Wown W) w u)
    (R1 := fun u => WS u B W (fs ++ flds s0) ∧ Stq (Wown W) w u)
    (fun u hu => (wints_call hu.1 (Nat.le_trans hB hu.2.size) (f0.stq hu.2 hM hS) (kinds_all k0 (by simp)) l0 (Nat.lt_of_lt_of_le hM hu.2.size) (hu.2.keep hM hS) #[.pointer (some ⟨M, o, none⟩), .pointer (some ⟨M, o + 1, none⟩)] 93 (fun j hj => match j, hj with | 0, _ => rfl | 1, _ => rfl)).mono fun e w' ⟨h1, h2, h3⟩ => ⟨h1, h2, hu.2.trans h3⟩)
    w ⟨h, Stq.refl _ _⟩).mono fun e w' ⟨h1, h2, h3⟩ => ⟨h1, ?_, h3⟩
  simpa only [flds_append, List.append_assoc] using h2

theorem wvote_any {w : World} {B W : Nat} {fs : List Fld} {M o : Nat} {xs : List Atom} (h : WS w B W fs) (hB : B ≤ w.heap.size) (hf : FlatAt w (Out (Wown W) M w) M o xs) (hk : xs.map Atom.k = [0, 0, 0, 4]) (hM : M < w.heap.size) (hS : ¬ Wown W w M) :
    Calls Try.prog 52 #[.iface 104 (.pointer (some ⟨W, 0, none⟩)), .pointer (some ⟨M, o, none⟩)] w fun e w' => e = .returned (.tuple #[]) ∧ WS w' B W (fs ++ flds xs) ∧ Stq (Wown W) w w' := by
  obtain ⟨s0, r0, rfl, k0, hk⟩ := List.map_eq_append_iff.1 (show _ = [0] ++ [0, 0, 4] from hk)
  have l0 : s0.length = 1 := by have := congrArg List.length k0; simpa using this
  obtain ⟨s1, r1, rfl, k1, hk⟩ := List.map_eq_append_iff.1 (show _ = [0, 0] ++ [4] from hk)
  have l1 : s1.length = 2 := by have := congrArg List.length k1; simpa using this
  obtain ⟨s2, rfl⟩ : ∃ s, s = r1 := ⟨_, rfl⟩
  have k2 := hk
  have l2 : s2.length = 1 := by have := congrArg List.length k2; simpa using this
  have f0 := hf.left
  have g0 := hf.right
  rw [l0] at g0
  have f1 := g0.left
  have g1 := g0.right
  rw [l1, Nat.add_assoc] at g1
  simp only [Nat.reduceAdd] at g1
  have f2 := g1
  refine (go_vote (M := M) (o := o) nilw_ints methw_ints callw_ints nilw_bytes methw_bytes callw_bytes
    (R0 := fun u => WS u B W (fs) ∧ Stq (Wown W) w u)
    (R1 := fun u => WS u B W (fs ++ flds s0) ∧ Stq (Wown W) w u)
    (R2 := fun u => WS u B W (fs ++ flds s0 ++ flds s1) ∧ Stq (Wown W) w u)
    (R3 := fun u => WS u B W (fs ++ flds s0 ++ flds s1 ++ flds s2) ∧ Stq (Wown W) w u)
    (fun u hu => (wints_call hu.1 (Nat.le_trans hB hu.2.size) (f0.stq hu.2 hM hS) (kinds_all k0 (by simp)) l0 (Nat.lt_of_lt_of_le hM hu.2.size) (hu.2.keep hM hS) #[.pointer (some ⟨M, o, none⟩)] 93 (fun j hj => match j, hj with | 0, _ => rfl)).mono fun e w' ⟨h1, h2, h3⟩ => ⟨h1, h2, hu.2.trans h3⟩)
    (fun u hu => (wballot_any hu.1 (Nat.le_trans hB hu.2.size) (f1.stq hu.2 hM hS) k1 (Nat.lt_of_lt_of_le hM hu.2.size) (hu.2.keep hM hS)).mono fun e w' ⟨h1, h2, h3⟩ => ⟨h1, h2, hu.2.trans h3⟩)
    (fun u hu => (wbytes_call hu.1 (Nat.le_trans hB hu.2.size) (f2.stq hu.2 hM hS) k2 (Nat.lt_of_lt_of_le hM hu.2.size) (hu.2.keep hM hS)).mono fun e w' ⟨h1, h2, h3⟩ => ⟨h1, h2, hu.2.trans h3⟩)
    w ⟨h, Stq.refl _ _⟩).mono fun e w' ⟨h1, h2, h3⟩ => ⟨h1, ?_, h3⟩
  simpa only [flds_append, List.append_assoc] using h2

theorem wentry_any {w : World} {B W : Nat} {fs : List Fld} {M o : Nat} {xs : List Atom} (h : WS w B W fs) (hB : B ≤ w.heap.size) (hf : FlatAt w (Out (Wown W) M w) M o xs) (hk : xs.map Atom.k = [0, 4]) (hM : M < w.heap.size) (hS : ¬ Wown W w M) :
    Calls Try.prog 53 #[.iface 104 (.pointer (some ⟨W, 0, none⟩)), .pointer (some ⟨M, o, none⟩)] w fun e w' => e = .returned (.tuple #[]) ∧ WS w' B W (fs ++ flds xs) ∧ Stq (Wown W) w w' := by
  obtain ⟨s0, r0, rfl, k0, hk⟩ := List.map_eq_append_iff.1 (show _ = [0] ++ [4] from hk)
  have l0 : s0.length = 1 := by have := congrArg List.length k0; simpa using this
  obtain ⟨s1, rfl⟩ : ∃ s, s = r0 := ⟨_, rfl⟩
  have k1 := hk
  have l1 : s1.length = 1 := by have := congrArg List.length k1; simpa using this
  have f0 := hf.left
  have g0 := hf.right
  rw [l0] at g0
  have f1 := g0
  refine (go_entry (M := M) (o := o) nilw_ints methw_ints callw_ints nilw_bytes methw_bytes callw_bytes
    (R0 := fun u => WS u B W (fs) ∧ Stq (Wown W) w u)
    (R1 := fun u => WS u B W (fs ++ flds s0) ∧ Stq (Wown W) w u)
    (R2 := fun u => WS u B W (fs ++ flds s0 ++ flds s1) ∧ Stq (Wown W) w u)
    (fun u hu => (wints_call hu.1 (Nat.le_trans hB hu.2.size) (f0.stq hu.2 hM hS) (kinds_all k0 (by simp)) l0 (Nat.lt_of_lt_of_le hM hu.2.size) (hu.2.keep hM hS) #[.pointer (some ⟨M, o, none⟩)] 93 (fun j hj => match j, hj with | 0, _ => rfl)).mono fun e w' ⟨h1, h2, h3⟩ => ⟨h1, h2, hu.2.trans h3⟩)
    (fun u hu => (wbytes_call hu.1 (Nat.le_trans hB hu.2.size) (f1.stq hu.2 hM hS) k1 (Nat.lt_of_lt_of_le hM hu.2.size) (hu.2.keep hM hS)).mono fun e w' ⟨h1, h2, h3⟩ => ⟨h1, h2, hu.2.trans h3⟩)
    w ⟨h, Stq.refl _ _⟩).mono fun e w' ⟨h1, h2, h3⟩ => ⟨h1, ?_, h3⟩
  simpa only [flds_append, List.append_assoc] using h2

theorem wright_any {w : World} {B W : Nat} {fs : List Fld} {M o : Nat} {xs : List Atom} (h : WS w B W fs) (hB : B ≤ w.heap.size) (hf : FlatAt w (Out (Wown W) M w) M o xs) (hk : xs.map Atom.k = [0, 3, 0, 0]) (hM : M < w.heap.size) (hS : ¬ Wown W w M) :
    Calls Try.prog 54 #[.iface 104 (.pointer (some ⟨W, 0, none⟩)), .pointer (some ⟨M, o, none⟩)] w fun e w' => e = .returned (.tuple #[]) ∧ WS w' B W (fs ++ flds xs) ∧ Stq (Wown W) w w' := by
  obtain ⟨s0, r0, rfl, k0, hk⟩ := List.map_eq_append_iff.1 (show _ = [0] ++ [3, 0, 0] from hk)
  have l0 : s0.length = 1 := by have := congrArg List.length k0; simpa using this
  obtain ⟨s1, r1, rfl, k1, hk⟩ := List.map_eq_append_iff.1 (show _ = [3] ++ [0, 0] from hk)
  have l1 : s1.length = 1 := by have := congrArg List.length k1; simpa using this
  obtain ⟨s2, rfl⟩ : ∃ s, s = r1 := ⟨_, rfl⟩
  have k2 := hk
  have l2 : s2.length = 2 := by have := congrArg List.length k2; simpa using this
  have f0 := hf.left
  have g0 := hf.right
  rw [l0] at g0
  have f1 := g0.left
  have g1 := g0.right
  rw [l1, Nat.add_assoc] at g1
  simp only [Nat.reduceAdd] at g1
  have f2 := g1
  refine (go_right (M := M) (o := o) nilw_ints methw_ints callw_ints nilw_texts methw_texts callw_texts
    (R0 := fun u => WS u B W (fs) ∧ Stq (Wown W) w u)
    (R1 := fun u => WS u B W (fs ++ flds s0) ∧ Stq (Wown W) w u)
    (R2 := fun u => WS u B W (fs ++ flds s0 ++ flds s1) ∧ Stq (Wown W) w u)
    (R3 := fun u => WS u B W (fs ++ flds s0 ++ flds s1 ++ flds s2) ∧ Stq (Wown W) w u)
    (fun u hu => (wints_call hu.1 (Nat.le_trans hB hu.2.size) (f0.stq hu.2 hM hS) (kinds_all k0 (by simp)) l0 (Nat.lt_of_lt_of_le hM hu.2.size) (hu.2.keep hM hS) #[.pointer (some ⟨M, o, none⟩)] 93 (fun j hj => match j, hj with | 0, _ => rfl)).mono fun e w' ⟨h1, h2, h3⟩ => ⟨h1, h2, hu.2.trans h3⟩)
    (fun u hu => (wtexts_call hu.1 (Nat.le_trans hB hu.2.size) (f1.stq hu.2 hM hS) (kinds_all k1 (by simp)) l1 (Nat.lt_of_lt_of_le hM hu.2.size) (hu.2.keep hM hS) #[.pointer (some ⟨M, o + 1, none⟩)] 95 (fun j hj => match j, hj with | 0, _ => rfl)).mono fun e w' ⟨h1, h2, h3⟩ => ⟨h1, h2, hu.2.trans h3⟩)
    (fun u hu => (wints_call hu.1 (Nat.le_trans hB hu.2.size) (f2.stq hu.2 hM hS) (kinds_all k2 (by simp)) l2 (Nat.lt_of_lt_of_le hM hu.2.size) (hu.2.keep hM hS) #[.pointer (some ⟨M, o + 2, none⟩), .pointer (some ⟨M, o + 3, none⟩)] 93 (fun j hj => match j, hj with | 0, _ => rfl | 1, _ => rfl)).mono fun e w' ⟨h1, h2, h3⟩ => ⟨h1, h2, hu.2.trans h3⟩)
    w ⟨h, Stq.refl _ _⟩).mono fun e w' ⟨h1, h2, h3⟩ => ⟨h1, ?_, h3⟩
  simpa only [flds_append, List.append_assoc] using h2


theorem wmark_any {w : World} {B W : Nat} {fs : List Fld} {M o : Nat} {xs : List Atom} (h : WS w B W fs) (hB : B ≤ w.heap.size) (hf : FlatAt w (Out (Wown W) M w) M o xs) (hk : xs.map Atom.k = [0, 0, 2, 0, 0, 0, 0]) (hM : M < w.heap.size) (hS : ¬ Wown W w M) :
    Calls Try.prog 42 #[.iface 104 (.pointer (some ⟨W, 0, none⟩)), .pointer (some ⟨M, o, none⟩)] w fun e w' => e = .returned (.tuple #[]) ∧ WS w' B W (fs ++ flds xs) ∧ Stq (Wown W) w w' := by
  obtain ⟨s0, r0, rfl, k0, hk⟩ := List.map_eq_append_iff.1 (show _ = [0, 0] ++ [2, 0, 0, 0, 0] from hk)
  have l0 : s0.length = 2 := by have := congrArg List.length k0; simpa using this
  obtain ⟨s1, r1, rfl, k1, hk⟩ := List.map_eq_append_iff.1 (show _ = [2] ++ [0, 0, 0, 0] from hk)
  have l1 : s1.length = 1 := by have := congrArg List.length k1; simpa using this
  obtain ⟨s2, r2, rfl, k2, hk⟩ := List.map_eq_append_iff.1 (show _ = [0] ++ [0, 0, 0] from hk)
  have l2 : s2.length = 1 := by have := congrArg List.length k2; simpa using this
  obtain ⟨s3, rfl⟩ : ∃ s, s = r2 := ⟨_, rfl⟩
  have k3 := hk
  have l3 : s3.length = 3 := by have := congrArg List.length k3; simpa using this
  have f0 := hf.left
  have g0 := hf.right
  rw [l0] at g0
  have f1 := g0.left
  have g1 := g0.right
  rw [l1, Nat.add_assoc] at g1
  simp only [Nat.reduceAdd] at g1
  have f2 := g1.left
  have g2 := g1.right
  rw [l2, Nat.add_assoc] at g2
  simp only [Nat.reduceAdd] at g2
  have f3 := g2
  refine (go_mark (M := M) (o := o) nilw_ints methw_ints callw_ints nilw_flag methw_flag callw_flag nilw_errno methw_errno callw_errno
    (R0 := fun u => WS u B W (fs) ∧ Stq (Wown W) w u)
    (R1 := fun u => WS u B W (fs ++ flds s0) ∧ Stq (Wown W) w u)
    (R2 := fun u => WS u B W (fs ++ flds s0 ++ flds s1) ∧ Stq (Wown W) w u)
    (R3 := fun u => WS u B W (fs ++ flds s0 ++ flds s1 ++ flds s2) ∧ Stq (Wown W) w u)
    (R4 := fun u => WS u B W (fs ++ flds s0 ++ flds s1 ++ flds s2 ++ flds s3) ∧ Stq (Wown W) w u)
    (fun u hu => (wints_call hu.1 (Nat.le_trans hB hu.2.size) (f0.stq hu.2 hM hS) (kinds_all k0 (by simp)) l0 (Nat.lt_of_lt_of_le hM hu.2.size) (hu.2.keep hM hS) #[.pointer (some ⟨M, o, none⟩), .pointer (some ⟨M, o + 1, none⟩)] 93 (fun j hj => match j, hj with | 0, _ => rfl | 1, _ => rfl)).mono fun e w' ⟨h1, h2, h3⟩ => ⟨h1, h2, hu.2.trans h3⟩)
    (fun u hu => (wflag_call hu.1 (Nat.le_trans hB hu.2.size) (f1.stq hu.2 hM hS) k1 (Nat.lt_of_lt_of_le hM hu.2.size) (hu.2.keep hM hS)).mono fun e w' ⟨h1, h2, h3⟩ => ⟨h1, h2, hu.2.trans h3⟩)
    (fun u hu => (werrno_call hu.1 (Nat.le_trans hB hu.2.size) (f2.stq hu.2 hM hS) k2 (Nat.lt_of_lt_of_le hM hu.2.size) (hu.2.keep hM hS)).mono fun e w' ⟨h1, h2, h3⟩ => ⟨h1, h2, hu.2.trans h3⟩)
    (fun u hu => (wints_call hu.1 (Nat.le_trans hB hu.2.size) (f3.stq hu.2 hM hS) (kinds_all k3 (by simp)) l3 (Nat.lt_of_lt_of_le hM hu.2.size) (hu.2.keep hM hS) #[.pointer (some ⟨M, o + 4, none⟩), .pointer (some ⟨M, o + 5, none⟩), .pointer (some ⟨M, o + 6, none⟩)] 93 (fun j hj => match j, hj with | 0, _ => rfl | 1, _ => rfl | 2, _ => rfl)).mono fun e w' ⟨h1, h2, h3⟩ => ⟨h1, h2, hu.2.trans h3⟩)
    w ⟨h, Stq.refl _ _⟩).mono fun e w' ⟨h1, h2, h3⟩ => ⟨h1, ?_, h3⟩
  simpa only [flds_append, List.append_assoc] using h2

theorem wwait_any {w : World} {B W : Nat} {fs : List Fld} {M o : Nat} {xs : List Atom} (h : WS w B W fs) (hB : B ≤ w.heap.size) (hf : FlatAt w (Out (Wown W) M w) M o xs) (hk : xs.map Atom.k = [0, 0, 0, 0, 0, 0, 3, 3, 0, 0, 0]) (hM : M < w.heap.size) (hS : ¬ Wown W w M) :
    Calls Try.prog 45 #[.iface 104 (.pointer (some ⟨W, 0, none⟩)), .pointer (some ⟨M, o, none⟩)] w fun e w' => e = .returned (.tuple #[]) ∧ WS w' B W (fs ++ flds xs) ∧ Stq (Wown W) w w' := by
  obtain ⟨s0, r0, rfl, k0, hk⟩ := List.map_eq_append_iff.1 (show _ = [0, 0, 0, 0, 0] ++ [0, 3, 3, 0, 0, 0] from hk)
  have l0 : s0.length = 5 := by have := congrArg List.length k0; simpa using this
  obtain ⟨s1, rfl⟩ : ∃ s, s = r0 := ⟨_, rfl⟩
  have k1 := hk
  have l1 : s1.length = 6 := by have := congrArg List.length k1; simpa using this
  have f0 := hf.left
  have g0 := hf.right
  rw [l0] at g0
  have f1 := g0
  refine (go_wait (M := M) (o := o) nilw_ints methw_ints callw_ints
    (R0 := fun u => WS u B W (fs) ∧ Stq (Wown W) w u)
    (R1 := fun u => WS u B W (fs ++ flds s0) ∧ Stq (Wown W) w u)
    (R2 := fun u => WS u B W (fs ++ flds s0 ++ flds s1) ∧ Stq (Wown W) w u)
    (fun u hu => (wints_call hu.1 (Nat.le_trans hB hu.2.size) (f0.stq hu.2 hM hS) (kinds_all k0 (by simp)) l0 (Nat.lt_of_lt_of_le hM hu.2.size) (hu.2.keep hM hS) #[.pointer (some ⟨M, o, none⟩), .pointer (some ⟨M, o + 1, none⟩), .pointer (some ⟨M, o + 2, none⟩), .pointer (some ⟨M, o + 3, none⟩), .pointer (some ⟨M, o + 4, none⟩)] 93 (fun j hj => match j, hj with | 0, _ => rfl | 1, _ => rfl | 2, _ => rfl | 3, _ => rfl | 4, _ => rfl)).mono fun e w' ⟨h1, h2, h3⟩ => ⟨h1, h2, hu.2.trans h3⟩)
    (fun u hu => (wop_any hu.1 (Nat.le_trans hB hu.2.size) (f1.stq hu.2 hM hS) k1 (Nat.lt_of_lt_of_le hM hu.2.size) (hu.2.keep hM hS)).mono fun e w' ⟨h1, h2, h3⟩ => ⟨h1, h2, hu.2.trans h3⟩)
    w ⟨h, Stq.refl _ _⟩).mono fun e w' ⟨h1, h2, h3⟩ => ⟨h1, ?_, h3⟩
  simpa only [flds_append, List.append_assoc] using h2

theorem wdeal_any {w : World} {B W : Nat} {fs : List Fld} {M o : Nat} {xs : List Atom} (h : WS w B W fs) (hB : B ≤ w.heap.size) (hf : FlatAt w (Out (Wown W) M w) M o xs) (hk : xs.map Atom.k = [0, 0, 3, 3, 0, 0, 0, 0]) (hM : M < w.heap.size) (hS : ¬ Wown W w M) :
    Calls Try.prog 48 #[.iface 104 (.pointer (some ⟨W, 0, none⟩)), .pointer (some ⟨M, o, none⟩)] w fun e w' => e = .returned (.tuple #[]) ∧ WS w' B W (fs ++ flds xs) ∧ Stq (Wown W) w w' := by
  obtain ⟨s0, r0, rfl, k0, hk⟩ := List.map_eq_append_iff.1 (show _ = [0, 0] ++ [3, 3, 0, 0, 0, 0] from hk)
  have l0 : s0.length = 2 := by have := congrArg List.length k0; simpa using this
  obtain ⟨s1, r1, rfl, k1, hk⟩ := List.map_eq_append_iff.1 (show _ = [3, 3] ++ [0, 0, 0, 0] from hk)
  have l1 : s1.length = 2 := by have := congrArg List.length k1; simpa using this
  obtain ⟨s2, rfl⟩ : ∃ s, s = r1 := ⟨_, rfl⟩
  have k2 := hk
  have l2 : s2.length = 4 := by have := congrArg List.length k2; simpa using this
  have f0 := hf.left
  have g0 := hf.right
  rw [l0] at g0
  have f1 := g0.left
  have g1 := g0.right
  rw [l1, Nat.add_assoc] at g1
  simp only [Nat.reduceAdd] at g1
  have f2 := g1
  refine (go_deal (M := M) (o := o) nilw_ints methw_ints callw_ints nilw_texts methw_texts callw_texts
    (R0 := fun u => WS u B W (fs) ∧ Stq (Wown W) w u)
    (R1 := fun u => WS u B W (fs ++ flds s0) ∧ Stq (Wown W) w u)
    (R2 := fun u => WS u B W (fs ++ flds s0 ++ flds s1) ∧ Stq (Wown W) w u)
    (R3 := fun u => WS u B W (fs ++ flds s0 ++ flds s1 ++ flds s2) ∧ Stq (Wown W) w u)
    (fun u hu => (wints_call hu.1 (Nat.le_trans hB hu.2.size) (f0.stq hu.2 hM hS) (kinds_all k0 (by simp)) l0 (Nat.lt_of_lt_of_le hM hu.2.size) (hu.2.keep hM hS) #[.pointer (some ⟨M, o, none⟩), .pointer (some ⟨M, o + 1, none⟩)] 93 (fun j hj => match j, hj with | 0, _ => rfl | 1, _ => rfl)).mono fun e w' ⟨h1, h2, h3⟩ => ⟨h1, h2, hu.2.trans h3⟩)
    (fun u hu => (wtexts_call hu.1 (Nat.le_trans hB hu.2.size) (f1.stq hu.2 hM hS) (kinds_all k1 (by simp)) l1 (Nat.lt_of_lt_of_le hM hu.2.size) (hu.2.keep hM hS) #[.pointer (some ⟨M, o + 2, none⟩), .pointer (some ⟨M, o + 3, none⟩)] 95 (fun j hj => match j, hj with | 0, _ => rfl | 1, _ => rfl)).mono fun e w' ⟨h1, h2, h3⟩ => ⟨h1, h2, hu.2.trans h3⟩)
    (fun u hu => (wints_call hu.1 (Nat.le_trans hB hu.2.size) (f2.stq hu.2 hM hS) (kinds_all k2 (by simp)) l2 (Nat.lt_of_lt_of_le hM hu.2.size) (hu.2.keep hM hS) #[.pointer (some ⟨M, o + 4, none⟩), .pointer (some ⟨M, o + 5, none⟩), .pointer (some ⟨M, o + 6, none⟩), .pointer (some ⟨M, o + 7, none⟩)] 93 (fun j hj => match j, hj with | 0, _ => rfl | 1, _ => rfl | 2, _ => rfl | 3, _ => rfl)).mono fun e w' ⟨h1, h2, h3⟩ => ⟨h1, h2, hu.2.trans h3⟩)
    w ⟨h, Stq.refl _ _⟩).mono fun e w' ⟨h1, h2, h3⟩ => ⟨h1, ?_, h3⟩
  simpa only [flds_append, List.append_assoc] using h2

theorem wplace_any {w : World} {B W : Nat} {fs : List Fld} {M o : Nat} {xs : List Atom} (h : WS w B W fs) (hB : B ≤ w.heap.size) (hf : FlatAt w (Out (Wown W) M w) M o xs) (hk : xs.map Atom.k = [0, 3, 0]) (hM : M < w.heap.size) (hS : ¬ Wown W w M) :
    Calls Try.prog 57 #[.iface 104 (.pointer (some ⟨W, 0, none⟩)), .pointer (some ⟨M, o, none⟩)] w fun e w' => e = .returned (.tuple #[]) ∧ WS w' B W (fs ++ flds xs) ∧ Stq (Wown W) w w' := by
  obtain ⟨s0, r0, rfl, k0, hk⟩ := List.map_eq_append_iff.1 (show _ = [0] ++ [3, 0] from hk)
  have l0 : s0.length = 1 := by have := congrArg List.length k0; simpa using this
  obtain ⟨s1, r1, rfl, k1, hk⟩ := List.map_eq_append_iff.1 (show _ = [3] ++ [0] from hk)
  have l1 : s1.length = 1 := by have := congrArg List.length k1; simpa using this
  obtain ⟨s2, rfl⟩ : ∃ s, s = r1 := ⟨_, rfl⟩
  have k2 := hk
  have l2 : s2.length = 1 := by have := congrArg List.length k2; simpa using this
  have f0 := hf.left
  have g0 := hf.right
  rw [l0] at g0
  have f1 := g0.left
  have g1 := g0.right
  rw [l1, Nat.add_assoc] at g1
  simp only [Nat.reduceAdd] at g1
  have f2 := g1
  refine (go_place (M := M) (o := o) nilw_ints methw_ints callw_ints nilw_texts methw_texts callw_texts
    (R0 := fun u => WS u B W (fs) ∧ Stq (Wown W) w u)
    (R1 := fun u => WS u B W (fs ++ flds s0) ∧ Stq (Wown W) w u)
    (R2 := fun u => WS u B W (fs ++ flds s0 ++ flds s1) ∧ Stq (Wown W) w u)
    (R3 := fun u => WS u B W (fs ++ flds s0 ++ flds s1 ++ flds s2) ∧ Stq (Wown W) w u)
    (fun u hu => (wints_call hu.1 (Nat.le_trans hB hu.2.size) (f0.stq hu.2 hM hS) (kinds_all k0 (by simp)) l0 (Nat.lt_of_lt_of_le hM hu.2.size) (hu.2.keep hM hS) #[.pointer (some ⟨M, o, none⟩)] 93 (fun j hj => match j, hj with | 0, _ => rfl)).mono fun e w' ⟨h1, h2, h3⟩ => ⟨h1, h2, hu.2.trans h3⟩)
    (fun u hu => (wtexts_call hu.1 (Nat.le_trans hB hu.2.size) (f1.stq hu.2 hM hS) (kinds_all k1 (by simp)) l1 (Nat.lt_of_lt_of_le hM hu.2.size) (hu.2.keep hM hS) #[.pointer (some ⟨M, o + 1, none⟩)] 95 (fun j hj => match j, hj with | 0, _ => rfl)).mono fun e w' ⟨h1, h2, h3⟩ => ⟨h1, h2, hu.2.trans h3⟩)
    (fun u hu => (wints_call hu.1 (Nat.le_trans hB hu.2.size) (f2.stq hu.2 hM hS) (kinds_all k2 (by simp)) l2 (Nat.lt_of_lt_of_le hM hu.2.size) (hu.2.keep hM hS) #[.pointer (some ⟨M, o + 2, none⟩)] 93 (fun j hj => match j, hj with | 0, _ => rfl)).mono fun e w' ⟨h1, h2, h3⟩ => ⟨h1, h2, hu.2.trans h3⟩)
    w ⟨h, Stq.refl _ _⟩).mono fun e w' ⟨h1, h2, h3⟩ => ⟨h1, ?_, h3⟩
  simpa only [flds_append, List.append_assoc] using h2

theorem wcommand_any {w : World} {B W : Nat} {fs : List Fld} {M o : Nat} {xs : List Atom} (h : WS w B W fs) (hB : B ≤ w.heap.size) (hf : FlatAt w (Out (Wown W) M w) M o xs) (hk : xs.map Atom.k = [0, 0, 0, 0, 0, 0, 3, 0, 0, 0, 2, 0, 3, 3, 0, 0, 0, 0, 0, 0, 3, 3, 0, 0, 4]) (hM : M < w.heap.size) (hS : ¬ Wown W w M) :
    Calls Try.prog 20 #[.iface 104 (.pointer (some ⟨W, 0, none⟩)), .pointer (some ⟨M, o, none⟩)] w fun e w' => e = .returned (.tuple #[]) ∧ WS w' B W (fs ++ flds xs) ∧ Stq (Wown W) w w' := by
  obtain ⟨s0, r0, rfl, k0, hk⟩ := List.map_eq_append_iff.1 (show _ = [0, 0, 0, 0, 0, 0] ++ [3, 0, 0, 0, 2, 0, 3, 3, 0, 0, 0, 0, 0, 0, 3, 3, 0, 0, 4] from hk)
  have l0 : s0.length = 6 := by have := congrArg List.length k0; simpa using this
  obtain ⟨s1, r1, rfl, k1, hk⟩ := List.map_eq_append_iff.1 (show _ = [3] ++ [0, 0, 0, 2, 0, 3, 3, 0, 0, 0, 0, 0, 0, 3, 3, 0, 0, 4] from hk)
  have l1 : s1.length = 1 := by have := congrArg List.length k1; simpa using this
  obtain ⟨s2, r2, rfl, k2, hk⟩ := List.map_eq_append_iff.1 (show _ = [0, 0, 0] ++ [2, 0, 3, 3, 0, 0, 0, 0, 0, 0, 3, 3, 0, 0, 4] from hk)
  have l2 : s2.length = 3 := by have := congrArg List.length k2; simpa using this
  obtain ⟨s3, r3, rfl, k3, hk⟩ := List.map_eq_append_iff.1 (show _ = [2] ++ [0, 3, 3, 0, 0, 0, 0, 0, 0, 3, 3, 0, 0, 4] from hk)
  have l3 : s3.length = 1 := by have := congrArg List.length k3; simpa using this
  obtain ⟨s4, r4, rfl, k4, hk⟩ := List.map_eq_append_iff.1 (show _ = [0, 3, 3, 0, 0, 0] ++ [0, 0, 0, 3, 3, 0, 0, 4] from hk)
  have l4 : s4.length = 6 := by have := congrArg List.length k4; simpa using this
  obtain ⟨s5, r5, rfl, k5, hk⟩ := List.map_eq_append_iff.1 (show _ = [0, 0, 0, 3, 3, 0, 0] ++ [4] from hk)
  have l5 : s5.length = 7 := by have := congrArg List.length k5; simpa using this
  obtain ⟨s6, rfl⟩ : ∃ s, s = r5 := ⟨_, rfl⟩
  have k6 := hk
  have l6 : s6.length = 1 := by have := congrArg List.length k6; simpa using this
  have f0 := hf.left
  have g0 := hf.right
  rw [l0] at g0
  have f1 := g0.left
  have g1 := g0.right
  rw [l1, Nat.add_assoc] at g1
  simp only [Nat.reduceAdd] at g1
  have f2 := g1.left
  have g2 := g1.right
  rw [l2, Nat.add_assoc] at g2
  simp only [Nat.reduceAdd] at g2
  have f3 := g2.left
  have g3 := g2.right
  rw [l3, Nat.add_assoc] at g3
  simp only [Nat.reduceAdd] at g3
  have f4 := g3.left
  have g4 := g3.right
  rw [l4, Nat.add_assoc] at g4
  simp only [Nat.reduceAdd] at g4
  have f5 := g4.left
  have g5 := g4.right
  rw [l5, Nat.add_assoc] at g5
  simp only [Nat.reduceAdd] at g5
  have f6 := g5
  refine (go_command (M := M) (o := o) nilw_ints methw_ints callw_ints nilw_texts methw_texts callw_texts nilw_flag methw_flag callw_flag nilw_bytes methw_bytes callw_bytes
    (R0 := fun u => WS u B W (fs) ∧ Stq (Wown W) w u)
    (R1 := fun u => WS u B W (fs ++ flds s0) ∧ Stq (Wown W) w u)
    (R2 := fun u => WS u B W (fs ++ flds s0 ++ flds s1) ∧ Stq (Wown W) w u)
    (R3 := fun u => WS u B W (fs ++ flds s0 ++ flds s1 ++ flds s2) ∧ Stq (Wown W) w u)
    (R4 := fun u => WS u B W (fs ++ flds s0 ++ flds s1 ++ flds s2 ++ flds s3) ∧ Stq (Wown W) w u)
    (R5 := fun u => WS u B W (fs ++ flds s0 ++ flds s1 ++ flds s2 ++ flds s3 ++ flds s4) ∧ Stq (Wown W) w u)
    (R6 := fun u => WS u B W (fs ++ flds s0 ++ flds s1 ++ flds s2 ++ flds s3 ++ flds s4 ++ flds s5) ∧ Stq (Wown W) w u)
    (R7 := fun u => WS u B W (fs ++ flds s0 ++ flds s1 ++ flds s2 ++ flds s3 ++ flds s4 ++ flds s5 ++ flds s6) ∧ Stq (Wown W) w u)
    (fun u hu => (wints_call hu.1 (Nat.le_trans hB hu.2.size) (f0.stq hu.2 hM hS) (kinds_all k0 (by simp)) l0 (Nat.lt_of_lt_of_le hM hu.2.size) (hu.2.keep hM hS) #[.pointer (some ⟨M, o, none⟩), .pointer (some ⟨M, o + 1, none⟩), .pointer (some ⟨M, o + 2, none⟩), .pointer (some ⟨M, o + 3, none⟩), .pointer (some ⟨M, o + 4, none⟩), .pointer (some ⟨M, o + 5, none⟩)] 93 (fun j hj => match j, hj with | 0, _ => rfl | 1, _ => rfl | 2, _ => rfl | 3, _ => rfl | 4, _ => rfl | 5, _ => rfl)).mono fun e w' ⟨h1, h2, h3⟩ => ⟨h1, h2, hu.2.trans h3⟩)
    (fun u hu => (wtexts_call hu.1 (Nat.le_trans hB hu.2.size) (f1.stq hu.2 hM hS) (kinds_all k1 (by simp)) l1 (Nat.lt_of_lt_of_le hM hu.2.size) (hu.2.keep hM hS) #[.pointer (some ⟨M, o + 6, none⟩)] 95 (fun j hj => match j, hj with | 0, _ => rfl)).mono fun e w' ⟨h1, h2, h3⟩ => ⟨h1, h2, hu.2.trans h3⟩)
    (fun u hu => (wints_call hu.1 (Nat.le_trans hB hu.2.size) (f2.stq hu.2 hM hS) (kinds_all k2 (by simp)) l2 (Nat.lt_of_lt_of_le hM hu.2.size) (hu.2.keep hM hS) #[.pointer (some ⟨M, o + 7, none⟩), .pointer (some ⟨M, o + 8, none⟩), .pointer (some ⟨M, o + 9, none⟩)] 93 (fun j hj => match j, hj with | 0, _ => rfl | 1, _ => rfl | 2, _ => rfl)).mono fun e w' ⟨h1, h2, h3⟩ => ⟨h1, h2, hu.2.trans h3⟩)
    (fun u hu => (wflag_call hu.1 (Nat.le_trans hB hu.2.size) (f3.stq hu.2 hM hS) k3 (Nat.lt_of_lt_of_le hM hu.2.size) (hu.2.keep hM hS)).mono fun e w' ⟨h1, h2, h3⟩ => ⟨h1, h2, hu.2.trans h3⟩)
    (fun u hu => (wop_any hu.1 (Nat.le_trans hB hu.2.size) (f4.stq hu.2 hM hS) k4 (Nat.lt_of_lt_of_le hM hu.2.size) (hu.2.keep hM hS)).mono fun e w' ⟨h1, h2, h3⟩ => ⟨h1, h2, hu.2.trans h3⟩)
    (fun u hu => (wplan_any hu.1 (Nat.le_trans hB hu.2.size) (f5.stq hu.2 hM hS) k5 (Nat.lt_of_lt_of_le hM hu.2.size) (hu.2.keep hM hS)).mono fun e w' ⟨h1, h2, h3⟩ => ⟨h1, h2, hu.2.trans h3⟩)
    (fun u hu => (wbytes_call hu.1 (Nat.le_trans hB hu.2.size) (f6.stq hu.2 hM hS) k6 (Nat.lt_of_lt_of_le hM hu.2.size) (hu.2.keep hM hS)).mono fun e w' ⟨h1, h2, h3⟩ => ⟨h1, h2, hu.2.trans h3⟩)
    w ⟨h, Stq.refl _ _⟩).mono fun e w' ⟨h1, h2, h3⟩ => ⟨h1, ?_, h3⟩
  simpa only [flds_append, List.append_assoc] using h2

theorem wnote_any {w : World} {B W : Nat} {fs : List Fld} {M o : Nat} {xs : List Atom} (h : WS w B W fs) (hB : B ≤ w.heap.size) (hf : FlatAt w (Out (Wown W) M w) M o xs) (hk : xs.map Atom.k = [0, 0, 0, 0, 0, 0, 0, 4, 0, 4, 0, 3, 0, 0, 0, 0]) (hM : M < w.heap.size) (hS : ¬ Wown W w M) :
    Calls Try.prog 27 #[.iface 104 (.pointer (some ⟨W, 0, none⟩)), .pointer (some ⟨M, o, none⟩)] w fun e w' => e = .returned (.tuple #[]) ∧ WS w' B W (fs ++ flds xs) ∧ Stq (Wown W) w w' := by
  obtain ⟨s0, r0, rfl, k0, hk⟩ := List.map_eq_append_iff.1 (show _ = [0, 0] ++ [0, 0, 0, 0, 0, 4, 0, 4, 0, 3, 0, 0, 0, 0] from hk)
  have l0 : s0.length = 2 := by have := congrArg List.length k0; simpa using this
  obtain ⟨s1, r1, rfl, k1, hk⟩ := List.map_eq_append_iff.1 (show _ = [0, 0] ++ [0, 0, 0, 4, 0, 4, 0, 3, 0, 0, 0, 0] from hk)
  have l1 : s1.length = 2 := by have := congrArg List.length k1; simpa using this
  obtain ⟨s2, r2, rfl, k2, hk⟩ := List.map_eq_append_iff.1 (show _ = [0, 0, 0, 4] ++ [0, 4, 0, 3, 0, 0, 0, 0] from hk)
  have l2 : s2.length = 4 := by have := congrArg List.length k2; simpa using this
  obtain ⟨s3, r3, rfl, k3, hk⟩ := List.map_eq_append_iff.1 (show _ = [0, 4] ++ [0, 3, 0, 0, 0, 0] from hk)
  have l3 : s3.length = 2 := by have := congrArg List.length k3; simpa using this
  obtain ⟨s4, r4, rfl, k4, hk⟩ := List.map_eq_append_iff.1 (show _ = [0, 3, 0, 0] ++ [0, 0] from hk)
  have l4 : s4.length = 4 := by have := congrArg List.length k4; simpa using this
  obtain ⟨s5, rfl⟩ : ∃ s, s = r4 := ⟨_, rfl⟩
  have k5 := hk
  have l5 : s5.length = 2 := by have := congrArg List.length k5; simpa using this
  have f0 := hf.left
  have g0 := hf.right
  rw [l0] at g0
  have f1 := g0.left
  have g1 := g0.right
  rw [l1, Nat.add_assoc] at g1
  simp only [Nat.reduceAdd] at g1
  have f2 := g1.left
  have g2 := g1.right
  rw [l2, Nat.add_assoc] at g2
  simp only [Nat.reduceAdd] at g2
  have f3 := g2.left
  have g3 := g2.right
  rw [l3, Nat.add_assoc] at g3
  simp only [Nat.reduceAdd] at g3
  have f4 := g3.left
  have g4 := g3.right
  rw [l4, Nat.add_assoc] at g4
  simp only [Nat.reduceAdd] at g4
  have f5 := g4
  refine (go_note (M := M) (o := o) nilw_ints methw_ints callw_ints
    (R0 := fun u => WS u B W (fs) ∧ Stq (Wown W) w u)
    (R1 := fun u => WS u B W (fs ++ flds s0) ∧ Stq (Wown W) w u)
    (R2 := fun u => WS u B W (fs ++ flds s0 ++ flds s1) ∧ Stq (Wown W) w u)
    (R3 := fun u => WS u B W (fs ++ flds s0 ++ flds s1 ++ flds s2) ∧ Stq (Wown W) w u)
    (R4 := fun u => WS u B W (fs ++ flds s0 ++ flds s1 ++ flds s2 ++ flds s3) ∧ Stq (Wown W) w u)
    (R5 := fun u => WS u B W (fs ++ flds s0 ++ flds s1 ++ flds s2 ++ flds s3 ++ flds s4) ∧ Stq (Wown W) w u)
    (R6 := fun u => WS u B W (fs ++ flds s0 ++ flds s1 ++ flds s2 ++ flds s3 ++ flds s4 ++ flds s5) ∧ Stq (Wown W) w u)
    (fun u hu => (wints_call hu.1 (Nat.le_trans hB hu.2.size) (f0.stq hu.2 hM hS) (kinds_all k0 (by simp)) l0 (Nat.lt_of_lt_of_le hM hu.2.size) (hu.2.keep hM hS) #[.pointer (some ⟨M, o, none⟩), .pointer (some ⟨M, o + 1, none⟩)] 93 (fun j hj => match j, hj with | 0, _ => rfl | 1, _ => rfl)).mono fun e w' ⟨h1, h2, h3⟩ => ⟨h1, h2, hu.2.trans h3⟩)
    (fun u hu => (wballot_any hu.1 (Nat.le_trans hB hu.2.size) (f1.stq hu.2 hM hS) k1 (Nat.lt_of_lt_of_le hM hu.2.size) (hu.2.keep hM hS)).mono fun e w' ⟨h1, h2, h3⟩ => ⟨h1, h2, hu.2.trans h3⟩)
    (fun u hu => (wvote_any hu.1 (Nat.le_trans hB hu.2.size) (f2.stq hu.2 hM hS) k2 (Nat.lt_of_lt_of_le hM hu.2.size) (hu.2.keep hM hS)).mono fun e w' ⟨h1, h2, h3⟩ => ⟨h1, h2, hu.2.trans h3⟩)
    (fun u hu => (wentry_any hu.1 (Nat.le_trans hB hu.2.size) (f3.stq hu.2 hM hS) k3 (Nat.lt_of_lt_of_le hM hu.2.size) (hu.2.keep hM hS)).mono fun e w' ⟨h1, h2, h3⟩ => ⟨h1, h2, hu.2.trans h3⟩)
    (fun u hu => (wright_any hu.1 (Nat.le_trans hB hu.2.size) (f4.stq hu.2 hM hS) k4 (Nat.lt_of_lt_of_le hM hu.2.size) (hu.2.keep hM hS)).mono fun e w' ⟨h1, h2, h3⟩ => ⟨h1, h2, hu.2.trans h3⟩)
    (fun u hu => (wints_call hu.1 (Nat.le_trans hB hu.2.size) (f5.stq hu.2 hM hS) (kinds_all k5 (by simp)) l5 (Nat.lt_of_lt_of_le hM hu.2.size) (hu.2.keep hM hS) #[.pointer (some ⟨M, o + 14, none⟩), .pointer (some ⟨M, o + 15, none⟩)] 93 (fun j hj => match j, hj with | 0, _ => rfl | 1, _ => rfl)).mono fun e w' ⟨h1, h2, h3⟩ => ⟨h1, h2, hu.2.trans h3⟩)
    w ⟨h, Stq.refl _ _⟩).mono fun e w' ⟨h1, h2, h3⟩ => ⟨h1, ?_, h3⟩
  simpa only [flds_append, List.append_assoc] using h2

end Go.Proofs.Ytfdejkfbjmkngab
