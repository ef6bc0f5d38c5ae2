/- What the landed reader makes of the things whose fields are plain. No condition but the size. -/
import Derived.Test.YtfdejkfbjmkngabWireGoOp
import Derived.Test.YtfdejkfbjmkngabWireGoPlan
import Derived.Test.YtfdejkfbjmkngabWireGoBallot
import Derived.Test.YtfdejkfbjmkngabWireGoVote
import Derived.Test.YtfdejkfbjmkngabWireGoEntry
import Derived.Test.YtfdejkfbjmkngabWireGoRight
import Derived.Test.YtfdejkfbjmkngabWireGoMark
import Derived.Test.YtfdejkfbjmkngabWireGoWait
import Derived.Test.YtfdejkfbjmkngabWireGoDeal
import Derived.Test.YtfdejkfbjmkngabWireGoPlace
import Derived.Test.YtfdejkfbjmkngabWireGoCommand
import Derived.Test.YtfdejkfbjmkngabWireGoNote
import Derived.Test.YtfdejkfbjmkngabWireR
namespace Go.Proofs.Ytfdejkfbjmkngab
open Go.ChangeShapes Go.WideShapes Go.ChangeAt Go.RowKit B8 Cm Wm
set_option linter.unusedVariables false

theorem nilr_ints (a : Addr) (w : World) : (nilAhead 321 83 (.pointer (some a)) "purse/wire.ints").run Try.prog w = .ok (some false) w := by kernel_rfl
theorem methr_ints (a : Addr) (w : World) : (method 321 83 (.pointer (some a)) "purse/wire.ints").run Try.prog w = .ok (84, .pointer (some a)) w := by kernel_rfl
theorem callr_ints (args : Array Value) (w : World) : (callFunc 84 args).run Try.prog w = .ok (.enter 84 args) w := by kernel_rfl
theorem nilr_texts (a : Addr) (w : World) : (nilAhead 321 83 (.pointer (some a)) "purse/wire.texts").run Try.prog w = .ok (some false) w := by kernel_rfl
theorem methr_texts (a : Addr) (w : World) : (method 321 83 (.pointer (some a)) "purse/wire.texts").run Try.prog w = .ok (85, .pointer (some a)) w := by kernel_rfl
theorem callr_texts (args : Array Value) (w : World) : (callFunc 85 args).run Try.prog w = .ok (.enter 85 args) w := by kernel_rfl
theorem nilr_bytes (a : Addr) (w : World) : (nilAhead 321 83 (.pointer (some a)) "purse/wire.bytes").run Try.prog w = .ok (some false) w := by kernel_rfl
theorem methr_bytes (a : Addr) (w : World) : (method 321 83 (.pointer (some a)) "purse/wire.bytes").run Try.prog w = .ok (80, .pointer (some a)) w := by kernel_rfl
theorem callr_bytes (args : Array Value) (w : World) : (callFunc 80 args).run Try.prog w = .ok (.enter 80 args) w := by kernel_rfl
theorem nilr_flag (a : Addr) (w : World) : (nilAhead 321 83 (.pointer (some a)) "purse/wire.flag").run Try.prog w = .ok (some false) w := by kernel_rfl
theorem methr_flag (a : Addr) (w : World) : (method 321 83 (.pointer (some a)) "purse/wire.flag").run Try.prog w = .ok (83, .pointer (some a)) w := by kernel_rfl
theorem callr_flag (args : Array Value) (w : World) : (callFunc 83 args).run Try.prog w = .ok (.enter 83 args) w := by kernel_rfl
theorem nilr_errno (a : Addr) (w : World) : (nilAhead 321 83 (.pointer (some a)) "purse/wire.errno").run Try.prog w = .ok (some false) w := by kernel_rfl
theorem methr_errno (a : Addr) (w : World) : (method 321 83 (.pointer (some a)) "purse/wire.errno").run Try.prog w = .ok (82, .pointer (some a)) w := by kernel_rfl
theorem callr_errno (args : Array Value) (w : World) : (callFunc 82 args).run Try.prog w = .ok (.enter 82 args) w := by kernel_rfl
theorem nilr_count (a : Addr) (w : World) : (nilAhead 321 83 (.pointer (some a)) "purse/wire.count").run Try.prog w = .ok (some false) w := by kernel_rfl
theorem methr_count (a : Addr) (w : World) : (method 321 83 (.pointer (some a)) "purse/wire.count").run Try.prog w = .ok (81, .pointer (some a)) w := by kernel_rfl
theorem callr_count (args : Array Value) (w : World) : (callFunc 81 args).run Try.prog w = .ok (.enter 81 args) w := by kernel_rfl
/-- a walk that reads a thing at M, from o on: it stands behind the fields of these kinds -/
def RI (B RR R : Nat) (a : Option Addr) (n cp : Nat) (bs : List Int) (s : St) (M o : Nat) (w : World) (pre : List Nat) (u : World) : Prop :=
  RS u B RR R a n cp bs (flatA bs pre s).s ∧ ((flatA bs pre s).s.err = 0 → FlatAt u (OutF B (Rown RR R) M u) M o (flatA bs pre s).v) ∧ Stp (Rown RR R) M o (o + pre.length) w u
/-- what reading fields of these kinds from p on brings about -/
def RP (B RR R : Nat) (a : Option Addr) (n cp : Nat) (bs : List Int) (s : St) (M p : Nat) (w : World) (ks : List Nat) (e : Ending) (u : World) : Prop :=
  e = .returned (.tuple #[]) ∧ RI B RR R a n cp bs s M p w ks u
section
variable {B RR R : Nat} {a : Option Addr} {n cp : Nat} {bs : List Int} {s : St} {M o : Nat} {w u u' : World} {pre ks : List Nat}
theorem RI.start (h : RS w B RR R a n cp bs s) : RI B RR R a n cp bs s M o w [] w := ⟨h, fun _ => FlatAt.nil, Stp.refl _ _ _ _ _⟩
theorem RI.more (h : RI B RR R a n cp bs s M o w pre u) (g : RI B RR R a n cp bs (flatA bs pre s).s M (o + pre.length) u ks u') : RI B RR R a n cp bs s M o w (pre ++ ks) u' := by
  have hp : (flatA bs pre s).v.length = pre.length := flatA_length bs pre s
  refine ⟨?_, fun he => ?_, ?_⟩
  · rw [flatA_append]; exact g.1
  · rw [flatA_append] at he ⊢
    have e0 := err_back (fun s => flatA bs ks s) (fun s hs => flatA_stuck bs ks s hs) _ he
    refine ((h.2.1 e0).stepF g.2.2 (.inr (by rw [hp]; omega))).append ?_
    rw [hp]
    exact g.2.1 he
  · rw [List.length_append]
    exact (h.2.2.wider (Nat.le_refl _) (by omega)).trans (g.2.2.wider (by omega) (by omega))
theorem RI.room {N k : Nat} (h : RI B RR R a n cp bs s M o w pre u) (hr : Room w M o N) (hk : pre.length + k ≤ N) : Room u M (o + pre.length) k := (hr.part hk).step h.2.2 (.inl (Nat.le_refl _))
theorem RI.lt (h : RI B RR R a n cp bs s M o w pre u) (hM : M < w.heap.size) : M < u.heap.size := Nat.lt_of_lt_of_le hM h.2.2.size
end
theorem ptr_cells' (w : World) (cs : Array Value) (T : TypeId) (M o n : Nat) (hc : ∀ j, j < n → cs[j]? = some (.pointer (some ⟨M, o + j, none⟩))) : ∀ j, j < n → (w.alloc (.cells cs T)).drew.cell? ⟨w.heap.size, j, none⟩ = some (.pointer (some ⟨M, o + j, none⟩)) := by
  intro j hj
  have : (w.alloc (.cells cs T)).drew.heap[w.heap.size]? = some (.cells cs T) := heap_alloc_new w _
  unfold World.cell?
  rw [this]
  exact hc j hj
theorem room_stq {S : World → Nat → Prop} {w w1 : World} {M o n : Nat} (h : Room w M o n) (g : Stq S w w1) (hM : M < w.heap.size) (hS : ¬ S w M) : Room w1 M o n := h.step (g.to hM hS 0 0) (.inl (Nat.zero_le _))
theorem ri_stq {B RR R : Nat} {a : Option Addr} {n cp : Nat} {bs : List Int} {s : St} {M p : Nat} {w w1 u : World} {ks : List Nat} (g : Stq (Rown RR R) w w1) (hM : M < w.heap.size) (hF : Far RR R a M) (h : RI B RR R a n cp bs s M p w1 ks u) : RI B RR R a n cp bs s M p w ks u :=
  ⟨h.1, h.2.1, (g.to hM (far_own hF w) p (p + ks.length)).trans h.2.2⟩
section
variable {B RR R : Nat} {a : Option Addr} {n cp : Nat} {bs : List Int} {s : St} {M p k : Nat} {w : World}
theorem below_ptrs' (w : World) (o : Obj) : Below w.heap.size w (w.alloc o).drew := (Below.alloc (Below.refl _ _) (Nat.le_refl _) o).drew
theorem rints_call (h : RS w B RR R a n cp bs s) (hF : Far RR R a M) (hM : M < w.heap.size) (hr : Room w M p k) (cs : Array Value) (T : TypeId) (hc : ∀ j, j < k → cs[j]? = some (.pointer (some ⟨M, p + j, none⟩))) (hm : k ≤ 1000000 := by omega) :
    Calls Try.prog 84 #[.pointer (some ⟨RR, 0, none⟩), .slice (some ⟨w.heap.size, 0, none⟩) k k] (w.alloc (.cells cs T)).drew (RP B RR R a n cp bs s M p w (List.replicate k 0)) := by
  have hb := below_ptrs' w (.cells cs T)
  have hq := rq_below RR R hb
  have hl := h.lt
  refine (rints_any (c := k) (h.below hb) hF (Nat.lt_of_lt_of_le hM hb.size) (room_stq hr hq hM (far_own hF w)) hm ⟨by simp, by omega, by omega, by omega⟩ (ptr_cells' w cs T M p k hc)).mono fun e w' ⟨h1, h2, h3, h4⟩ => ⟨h1, ri_stq hq hM hF ⟨h2, h3, ?_⟩⟩
  rw [List.length_replicate]
  exact h4
theorem rtexts_call (h : RS w B RR R a n cp bs s) (hF : Far RR R a M) (hM : M < w.heap.size) (hr : Room w M p k) (cs : Array Value) (T : TypeId) (hc : ∀ j, j < k → cs[j]? = some (.pointer (some ⟨M, p + j, none⟩))) (hm : k ≤ 1000000 := by omega) :
    Calls Try.prog 85 #[.pointer (some ⟨RR, 0, none⟩), .slice (some ⟨w.heap.size, 0, none⟩) k k] (w.alloc (.cells cs T)).drew (RP B RR R a n cp bs s M p w (List.replicate k 3)) := by
  have hb := below_ptrs' w (.cells cs T)
  have hq := rq_below RR R hb
  have hl := h.lt
  refine (rtexts_any (c := k) (h.below hb) hF (Nat.lt_of_lt_of_le hM hb.size) (room_stq hr hq hM (far_own hF w)) hm ⟨by simp, by omega, by omega, by omega⟩ (ptr_cells' w cs T M p k hc)).mono fun e w' ⟨h1, h2, h3, h4⟩ => ⟨h1, ri_stq hq hM hF ⟨h2, h3, ?_⟩⟩
  rw [List.length_replicate]
  exact h4
theorem below_drew' (w : World) : Below w.heap.size w w.drew := (Below.refl _ _).drew
theorem rflag_call (h : RS w B RR R a n cp bs s) (hF : Far RR R a M) (hM : M < w.heap.size) (hr : Room w M p 1) :
    Calls Try.prog 83 #[.pointer (some ⟨RR, 0, none⟩), .pointer (some ⟨M, p, none⟩)] w.drew (RP B RR R a n cp bs s M p w [2]) :=
  (rflag_any (h.below (below_drew' w)) hF hM hr).mono fun e w' ⟨h1, h2, h3, h4⟩ => ⟨h1, ri_stq (rq_below RR R (below_drew' w)) hM hF ⟨h2, h3, h4⟩⟩
theorem rerrno_call (h : RS w B RR R a n cp bs s) (hF : Far RR R a M) (hM : M < w.heap.size) (hr : Room w M p 1) :
    Calls Try.prog 82 #[.pointer (some ⟨RR, 0, none⟩), .pointer (some ⟨M, p, none⟩)] w.drew (RP B RR R a n cp bs s M p w [0]) :=
  (rerrno_any (h.below (below_drew' w)) hF hM hr).mono fun e w' ⟨h1, h2, h3, h4⟩ => ⟨h1, ri_stq (rq_below RR R (below_drew' w)) hM hF ⟨h2, h3, h4⟩⟩
theorem rbytes_call (h : RS w B RR R a n cp bs s) (hF : Far RR R a M) (hM : M < w.heap.size) (hr : Room w M p 1) :
    Calls Try.prog 80 #[.pointer (some ⟨RR, 0, none⟩), .pointer (some ⟨M, p, none⟩)] w.drew (RP B RR R a n cp bs s M p w [4]) :=
  (rbytes_any (h.below (below_drew' w)) hF hM hr).mono fun e w' ⟨h1, h2, h3, h4⟩ => ⟨h1, ri_stq (rq_below RR R (below_drew' w)) hM hF ⟨h2, h3, h4⟩⟩
end

theorem rop_any {B RR R : Nat} {a : Option Addr} {n cp : Nat} {bs : List Int} {s : St} {M o : Nat} {w : World} (h : RS w B RR R a n cp bs s) (hF : Far RR R a M) (hM : M < w.heap.size) (hr : Room w M o 6) :
    Calls Try.prog 34 #[.iface 83 (.pointer (some ⟨RR, 0, none⟩)), .pointer (some ⟨M, o, none⟩)] w (RP B RR R a n cp bs s M o w [0, 3, 3, 0, 0, 0]) := by
  exact go_op (M := M) (o := o) nilr_ints methr_ints callr_ints nilr_texts methr_texts callr_texts
    (R0 := RI B RR R a n cp bs s M o w [])
    (R1 := RI B RR R a n cp bs s M o w [0])
    (R2 := RI B RR R a n cp bs s M o w [0, 3, 3])
    (R3 := RI B RR R a n cp bs s M o w [0, 3, 3, 0, 0, 0])
    (fun u hu => (rints_call hu.1 hF (hu.lt hM) (hu.room hr (show 0 + 1 ≤ 6 by omega)) #[.pointer (some ⟨M, o, none⟩)] 93 (fun j hj => match j, hj with | 0, _ => rfl)).mono fun e w' ⟨h1, h2⟩ => ⟨h1, hu.more h2⟩)
    (fun u hu => (rtexts_call hu.1 hF (hu.lt hM) (hu.room hr (show 1 + 2 ≤ 6 by omega)) #[.pointer (some ⟨M, o + 1, none⟩), .pointer (some ⟨M, o + 2, none⟩)] 95 (fun j hj => match j, hj with | 0, _ => rfl | 1, _ => rfl)).mono fun e w' ⟨h1, h2⟩ => ⟨h1, hu.more h2⟩)
    (fun u hu => (rints_call hu.1 hF (hu.lt hM) (hu.room hr (show 3 + 3 ≤ 6 by omega)) #[.pointer (some ⟨M, o + 3, none⟩), .pointer (some ⟨M, o + 4, none⟩), .pointer (some ⟨M, o + 5, none⟩)] 93 (fun j hj => match j, hj with | 0, _ => rfl | 1, _ => rfl | 2, _ => rfl)).mono fun e w' ⟨h1, h2⟩ => ⟨h1, hu.more h2⟩)
    w (RI.start h)

theorem rplan_any {B RR R : Nat} {a : Option Addr} {n cp : Nat} {bs : List Int} {s : St} {M o : Nat} {w : World} (h : RS w B RR R a n cp bs s) (hF : Far RR R a M) (hM : M < w.heap.size) (hr : Room w M o 7) :
    Calls Try.prog 35 #[.iface 83 (.pointer (some ⟨RR, 0, none⟩)), .pointer (some ⟨M, o, none⟩)] w (RP B RR R a n cp bs s M o w [0, 0, 0, 3, 3, 0, 0]) := by
  exact go_plan (M := M) (o := o) nilr_ints methr_ints callr_ints nilr_texts methr_texts callr_texts
    (R0 := RI B RR R a n cp bs s M o w [])
    (R1 := RI B RR R a n cp bs s M o w [0, 0, 0])
    (R2 := RI B RR R a n cp bs s M o w [0, 0, 0, 3, 3])
    (R3 := RI B RR R a n cp bs s M o w [0, 0, 0, 3, 3, 0, 0])
    (fun u hu => (rints_call hu.1 hF (hu.lt hM) (hu.room hr (show 0 + 3 ≤ 7 by omega)) #[.pointer (some ⟨M, o, none⟩), .pointer (some ⟨M, o + 1, none⟩), .pointer (some ⟨M, o + 2, none⟩)] 93 (fun j hj => match j, hj with | 0, _ => rfl | 1, _ => rfl | 2, _ => rfl)).mono fun e w' ⟨h1, h2⟩ => ⟨h1, hu.more h2⟩)
    (fun u hu => (rtexts_call hu.1 hF (hu.lt hM) (hu.room hr (show 3 + 2 ≤ 7 by omega)) #[.pointer (some ⟨M, o + 3, none⟩), .pointer (some ⟨M, o + 4, none⟩)] 95 (fun j hj => match j, hj with | 0, _ => rfl | 1, _ => rfl)).mono fun e w' ⟨h1, h2⟩ => ⟨h1, hu.more h2⟩)
    (fun u hu => (rints_call hu.1 hF (hu.lt hM) (hu.room hr (show 5 + 2 ≤ 7 by omega)) #[.pointer (some ⟨M, o + 5, none⟩), .pointer (some ⟨M, o + 6, none⟩)] 93 (fun j hj => match j, hj with | 0, _ => rfl | 1, _ => rfl)).mono fun e w' ⟨h1, h2⟩ => ⟨h1, hu.more h2⟩)
    w (RI.start h)

theorem rballot_any {B RR R : Nat} {a : Option Addr} {n cp : Nat} {bs : List Int} {s : St} {M o : Nat} {w : World} (h : RS w B RR R a n cp bs s) (hF : Far RR R a M) (hM : M < w.heap.size) (hr : Room w M o 2) :
    Calls Try.prog 51 #[.iface 83 (.pointer (some ⟨RR, 0, none⟩)), .pointer (some ⟨M, o, none⟩)] w (RP B RR R a n cp bs s M o w [0, 0]) := by
  exact go_ballot (M := M) (o := o) nilr_ints methr_ints callr_ints
    (R0 := RI B RR R a n cp bs s M o w [])
    (R1 := RI B RR R a n cp bs s M o w [0, 0])
    (fun u hu => (rints_call hu.1 hF (hu.lt hM) (hu.room hr (show 0 + 2 ≤ 2 by omega)) #[.pointer (some ⟨M, o, none⟩), .pointer (some ⟨M, o + 1, none⟩)] 93 (fun j hj => match j, hj with | 0, _ => rfl | 1, _ => rfl)).mono fun e w' ⟨h1, h2⟩ => ⟨h1, hu.more h2⟩)
    w (RI.start h)

theorem rvote_any {B RR R : Nat} {a : Option Addr} {n cp : Nat} {bs : List Int} {s : St} {M o : Nat} {w : World} (h : RS w B RR R a n cp bs s) (hF : Far RR R a M) (hM : M < w.heap.size) (hr : Room w M o 4) :
    Calls Try.prog 52 #[.iface 83 (.pointer (some ⟨RR, 0, none⟩)), .pointer (some ⟨M, o, none⟩)] w (RP B RR R a n cp bs s M o w [0, 0, 0, 4]) := by
  exact go_vote (M := M) (o := o) nilr_ints methr_ints callr_ints nilr_bytes methr_bytes callr_bytes
    (R0 := RI B RR R a n cp bs s M o w [])
    (R1 := RI B RR R a n cp bs s M o w [0])
    (R2 := RI B RR R a n cp bs s M o w [0, 0, 0])
    (R3 := RI B RR R a n cp bs s M o w [0, 0, 0, 4])
    (fun u hu => (rints_call hu.1 hF (hu.lt hM) (hu.room hr (show 0 + 1 ≤ 4 by omega)) #[.pointer (some ⟨M, o, none⟩)] 93 (fun j hj => match j, hj with | 0, _ => rfl)).mono fun e w' ⟨h1, h2⟩ => ⟨h1, hu.more h2⟩)
    (fun u hu => (rballot_any hu.1 hF (hu.lt hM) (hu.room hr (show 1 + 2 ≤ 4 by omega))).mono fun e w' ⟨h1, h2⟩ => ⟨h1, hu.more h2⟩)
    (fun u hu => (rbytes_call hu.1 hF (hu.lt hM) (hu.room hr (show 3 + 1 ≤ 4 by omega))).mono fun e w' ⟨h1, h2⟩ => ⟨h1, hu.more h2⟩)
    w (RI.start h)

theorem rentry_any {B RR R : Nat} {a : Option Addr} {n cp : Nat} {bs : List Int} {s : St} {M o : Nat} {w : World} (h : RS w B RR R a n cp bs s) (hF : Far RR R a M) (hM : M < w.heap.size) (hr : Room w M o 2) :
    Calls Try.prog 53 #[.iface 83 (.pointer (some ⟨RR, 0, none⟩)), .pointer (some ⟨M, o, none⟩)] w (RP B RR R a n cp bs s M o w [0, 4]) := by
  exact go_entry (M := M) (o := o) nilr_ints methr_ints callr_ints nilr_bytes methr_bytes callr_bytes
    (R0 := RI B RR R a n cp bs s M o w [])
    (R1 := RI B RR R a n cp bs s M o w [0])
    (R2 := RI B RR R a n cp bs s M o w [0, 4])
    (fun u hu => (rints_call hu.1 hF (hu.lt hM) (hu.room hr (show 0 + 1 ≤ 2 by omega)) #[.pointer (some ⟨M, o, none⟩)] 93 (fun j hj => match j, hj with | 0, _ => rfl)).mono fun e w' ⟨h1, h2⟩ => ⟨h1, hu.more h2⟩)
    (fun u hu => (rbytes_call hu.1 hF (hu.lt hM) (hu.room hr (show 1 + 1 ≤ 2 by omega))).mono fun e w' ⟨h1, h2⟩ => ⟨h1, hu.more h2⟩)
    w (RI.start h)

theorem rright_any {B RR R : Nat} {a : Option Addr} {n cp : Nat} {bs : List Int} {s : St} {M o : Nat} {w : World} (h : RS w B RR R a n cp bs s) (hF : Far RR R a M) (hM : M < w.heap.size) (hr : Room w M o 4) :
    Calls Try.prog 54 #[.iface 83 (.pointer (some ⟨RR, 0, none⟩)), .pointer (some ⟨M, o, none⟩)] w (RP B RR R a n cp bs s M o w [0, 3, 0, 0]) := by
  exact go_right (M := M) (o := o) nilr_ints methr_ints callr_ints nilr_texts methr_texts callr_texts
    (R0 := RI B RR R a n cp bs s M o w [])
    (R1 := RI B RR R a n cp bs s M o w [0])
    (R2 := RI B RR R a n cp bs s M o w [0, 3])
    (R3 := RI B RR R a n cp bs s M o w [0, 3, 0, 0])
    (fun u hu => (rints_call hu.1 hF (hu.lt hM) (hu.room hr (show 0 + 1 ≤ 4 by omega)) #[.pointer (some ⟨M, o, none⟩)] 93 (fun j hj => match j, hj with | 0, _ => rfl)).mono fun e w' ⟨h1, h2⟩ => ⟨h1, hu.more h2⟩)
    (fun u hu => (rtexts_call hu.1 hF (hu.lt hM) (hu.room hr (show 1 + 1 ≤ 4 by omega)) #[.pointer (some ⟨M, o + 1, none⟩)] 95 (fun j hj => match j, hj with | 0, _ => rfl)).mono fun e w' ⟨h1, h2⟩ => ⟨h1, hu.more h2⟩)
    (fun u hu => (rints_call hu.1 hF (hu.lt hM) (hu.room hr (show 2 + 2 ≤ 4 by omega)) #[.pointer (some ⟨M, o + 2, none⟩), .pointer (some ⟨M, o + 3, none⟩)] 93 (fun j hj => match j, hj with | 0, _ => rfl | 1, _ => rfl)).mono fun e w' ⟨h1, h2⟩ => ⟨h1, hu.more h2⟩)
    w (RI.start h)


theorem rmark_any {B RR R : Nat} {a : Option Addr} {n cp : Nat} {bs : List Int} {s : St} {M o : Nat} {w : World} (h : RS w B RR R a n cp bs s) (hF : Far RR R a M) (hM : M < w.heap.size) (hr : Room w M o 7) :
    Calls Try.prog 42 #[.iface 83 (.pointer (some ⟨RR, 0, none⟩)), .pointer (some ⟨M, o, none⟩)] w (RP B RR R a n cp bs s M o w [0, 0, 2, 0, 0, 0, 0]) := by
  exact go_mark (M := M) (o := o) nilr_ints methr_ints callr_ints nilr_flag methr_flag callr_flag nilr_errno methr_errno callr_errno
    (R0 := RI B RR R a n cp bs s M o w [])
    (R1 := RI B RR R a n cp bs s M o w [0, 0])
    (R2 := RI B RR R a n cp bs s M o w [0, 0, 2])
    (R3 := RI B RR R a n cp bs s M o w [0, 0, 2, 0])
    (R4 := RI B RR R a n cp bs s M o w [0, 0, 2, 0, 0, 0, 0])
    (fun u hu => (rints_call hu.1 hF (hu.lt hM) (hu.room hr (show 0 + 2 ≤ 7 by omega)) #[.pointer (some ⟨M, o, none⟩), .pointer (some ⟨M, o + 1, none⟩)] 93 (fun j hj => match j, hj with | 0, _ => rfl | 1, _ => rfl)).mono fun e w' ⟨h1, h2⟩ => ⟨h1, hu.more h2⟩)
    (fun u hu => (rflag_call hu.1 hF (hu.lt hM) (hu.room hr (show 2 + 1 ≤ 7 by omega))).mono fun e w' ⟨h1, h2⟩ => ⟨h1, hu.more h2⟩)
    (fun u hu => (rerrno_call hu.1 hF (hu.lt hM) (hu.room hr (show 3 + 1 ≤ 7 by omega))).mono fun e w' ⟨h1, h2⟩ => ⟨h1, hu.more h2⟩)
    (fun u hu => (rints_call hu.1 hF (hu.lt hM) (hu.room hr (show 4 + 3 ≤ 7 by omega)) #[.pointer (some ⟨M, o + 4, none⟩), .pointer (some ⟨M, o + 5, none⟩), .pointer (some ⟨M, o + 6, none⟩)] 93 (fun j hj => match j, hj with | 0, _ => rfl | 1, _ => rfl | 2, _ => rfl)).mono fun e w' ⟨h1, h2⟩ => ⟨h1, hu.more h2⟩)
    w (RI.start h)

theorem rwait_any {B RR R : Nat} {a : Option Addr} {n cp : Nat} {bs : List Int} {s : St} {M o : Nat} {w : World} (h : RS w B RR R a n cp bs s) (hF : Far RR R a M) (hM : M < w.heap.size) (hr : Room w M o 11) :
    Calls Try.prog 45 #[.iface 83 (.pointer (some ⟨RR, 0, none⟩)), .pointer (some ⟨M, o, none⟩)] w (RP B RR R a n cp bs s M o w [0, 0, 0, 0, 0, 0, 3, 3, 0, 0, 0]) := by
  exact go_wait (M := M) (o := o) nilr_ints methr_ints callr_ints
    (R0 := RI B RR R a n cp bs s M o w [])
    (R1 := RI B RR R a n cp bs s M o w [0, 0, 0, 0, 0])
    (R2 := RI B RR R a n cp bs s M o w [0, 0, 0, 0, 0, 0, 3, 3, 0, 0, 0])
    (fun u hu => (rints_call hu.1 hF (hu.lt hM) (hu.room hr (show 0 + 5 ≤ 11 by omega)) #[.pointer (some ⟨M, o, none⟩), .pointer (some ⟨M, o + 1, none⟩), .pointer (some ⟨M, o + 2, none⟩), .pointer (some ⟨M, o + 3, none⟩), .pointer (some ⟨M, o + 4, none⟩)] 93 (fun j hj => match j, hj with | 0, _ => rfl | 1, _ => rfl | 2, _ => rfl | 3, _ => rfl | 4, _ => rfl)).mono fun e w' ⟨h1, h2⟩ => ⟨h1, hu.more h2⟩)
    (fun u hu => (rop_any hu.1 hF (hu.lt hM) (hu.room hr (show 5 + 6 ≤ 11 by omega))).mono fun e w' ⟨h1, h2⟩ => ⟨h1, hu.more h2⟩)
    w (RI.start h)

theorem rdeal_any {B RR R : Nat} {a : Option Addr} {n cp : Nat} {bs : List Int} {s : St} {M o : Nat} {w : World} (h : RS w B RR R a n cp bs s) (hF : Far RR R a M) (hM : M < w.heap.size) (hr : Room w M o 8) :
    Calls Try.prog 48 #[.iface 83 (.pointer (some ⟨RR, 0, none⟩)), .pointer (some ⟨M, o, none⟩)] w (RP B RR R a n cp bs s M o w [0, 0, 3, 3, 0, 0, 0, 0]) := by
  exact go_deal (M := M) (o := o) nilr_ints methr_ints callr_ints nilr_texts methr_texts callr_texts
    (R0 := RI B RR R a n cp bs s M o w [])
    (R1 := RI B RR R a n cp bs s M o w [0, 0])
    (R2 := RI B RR R a n cp bs s M o w [0, 0, 3, 3])
    (R3 := RI B RR R a n cp bs s M o w [0, 0, 3, 3, 0, 0, 0, 0])
    (fun u hu => (rints_call hu.1 hF (hu.lt hM) (hu.room hr (show 0 + 2 ≤ 8 by omega)) #[.pointer (some ⟨M, o, none⟩), .pointer (some ⟨M, o + 1, none⟩)] 93 (fun j hj => match j, hj with | 0, _ => rfl | 1, _ => rfl)).mono fun e w' ⟨h1, h2⟩ => ⟨h1, hu.more h2⟩)
    (fun u hu => (rtexts_call hu.1 hF (hu.lt hM) (hu.room hr (show 2 + 2 ≤ 8 by omega)) #[.pointer (some ⟨M, o + 2, none⟩), .pointer (some ⟨M, o + 3, none⟩)] 95 (fun j hj => match j, hj with | 0, _ => rfl | 1, _ => rfl)).mono fun e w' ⟨h1, h2⟩ => ⟨h1, hu.more h2⟩)
    (fun u hu => (rints_call hu.1 hF (hu.lt hM) (hu.room hr (show 4 + 4 ≤ 8 by omega)) #[.pointer (some ⟨M, o + 4, none⟩), .pointer (some ⟨M, o + 5, none⟩), .pointer (some ⟨M, o + 6, none⟩), .pointer (some ⟨M, o + 7, none⟩)] 93 (fun j hj => match j, hj with | 0, _ => rfl | 1, _ => rfl | 2, _ => rfl | 3, _ => rfl)).mono fun e w' ⟨h1, h2⟩ => ⟨h1, hu.more h2⟩)
    w (RI.start h)

theorem rplace_any {B RR R : Nat} {a : Option Addr} {n cp : Nat} {bs : List Int} {s : St} {M o : Nat} {w : World} (h : RS w B RR R a n cp bs s) (hF : Far RR R a M) (hM : M < w.heap.size) (hr : Room w M o 3) :
    Calls Try.prog 57 #[.iface 83 (.pointer (some ⟨RR, 0, none⟩)), .pointer (some ⟨M, o, none⟩)] w (RP B RR R a n cp bs s M o w [0, 3, 0]) := by
  exact go_place (M := M) (o := o) nilr_ints methr_ints callr_ints nilr_texts methr_texts callr_texts
    (R0 := RI B RR R a n cp bs s M o w [])
    (R1 := RI B RR R a n cp bs s M o w [0])
    (R2 := RI B RR R a n cp bs s M o w [0, 3])
    (R3 := RI B RR R a n cp bs s M o w [0, 3, 0])
    (fun u hu => (rints_call hu.1 hF (hu.lt hM) (hu.room hr (show 0 + 1 ≤ 3 by omega)) #[.pointer (some ⟨M, o, none⟩)] 93 (fun j hj => match j, hj with | 0, _ => rfl)).mono fun e w' ⟨h1, h2⟩ => ⟨h1, hu.more h2⟩)
    (fun u hu => (rtexts_call hu.1 hF (hu.lt hM) (hu.room hr (show 1 + 1 ≤ 3 by omega)) #[.pointer (some ⟨M, o + 1, none⟩)] 95 (fun j hj => match j, hj with | 0, _ => rfl)).mono fun e w' ⟨h1, h2⟩ => ⟨h1, hu.more h2⟩)
    (fun u hu => (rints_call hu.1 hF (hu.lt hM) (hu.room hr (show 2 + 1 ≤ 3 by omega)) #[.pointer (some ⟨M, o + 2, none⟩)] 93 (fun j hj => match j, hj with | 0, _ => rfl)).mono fun e w' ⟨h1, h2⟩ => ⟨h1, hu.more h2⟩)
    w (RI.start h)

theorem rcommand_any {B RR R : Nat} {a : Option Addr} {n cp : Nat} {bs : List Int} {s : St} {M o : Nat} {w : World} (h : RS w B RR R a n cp bs s) (hF : Far RR R a M) (hM : M < w.heap.size) (hr : Room w M o 25) :
    Calls Try.prog 20 #[.iface 83 (.pointer (some ⟨RR, 0, none⟩)), .pointer (some ⟨M, o, none⟩)] w (RP B RR R a n cp bs s M o w [0, 0, 0, 0, 0, 0, 3, 0, 0, 0, 2, 0, 3, 3, 0, 0, 0, 0, 0, 0, 3, 3, 0, 0, 4]) := by
  exact go_command (M := M) (o := o) nilr_ints methr_ints callr_ints nilr_texts methr_texts callr_texts nilr_flag methr_flag callr_flag nilr_bytes methr_bytes callr_bytes
    (R0 := RI B RR R a n cp bs s M o w [])
    (R1 := RI B RR R a n cp bs s M o w [0, 0, 0, 0, 0, 0])
    (R2 := RI B RR R a n cp bs s M o w [0, 0, 0, 0, 0, 0, 3])
    (R3 := RI B RR R a n cp bs s M o w [0, 0, 0, 0, 0, 0, 3, 0, 0, 0])
    (R4 := RI B RR R a n cp bs s M o w [0, 0, 0, 0, 0, 0, 3, 0, 0, 0, 2])
    (R5 := RI B RR R a n cp bs s M o w [0, 0, 0, 0, 0, 0, 3, 0, 0, 0, 2, 0, 3, 3, 0, 0, 0])
    (R6 := RI B RR R a n cp bs s M o w [0, 0, 0, 0, 0, 0, 3, 0, 0, 0, 2, 0, 3, 3, 0, 0, 0, 0, 0, 0, 3, 3, 0, 0])
    (R7 := RI B RR R a n cp bs s M o w [0, 0, 0, 0, 0, 0, 3, 0, 0, 0, 2, 0, 3, 3, 0, 0, 0, 0, 0, 0, 3, 3, 0, 0, 4])
    (fun u hu => (rints_call hu.1 hF (hu.lt hM) (hu.room hr (show 0 + 6 ≤ 25 by omega)) #[.pointer (some ⟨M, o, none⟩), .pointer (some ⟨M, o + 1, none⟩), .pointer (some ⟨M, o + 2, none⟩), .pointer (some ⟨M, o + 3, none⟩), .pointer (some ⟨M, o + 4, none⟩), .pointer (some ⟨M, o + 5, none⟩)] 93 (fun j hj => match j, hj with | 0, _ => rfl | 1, _ => rfl | 2, _ => rfl | 3, _ => rfl | 4, _ => rfl | 5, _ => rfl)).mono fun e w' ⟨h1, h2⟩ => ⟨h1, hu.more h2⟩)
    (fun u hu => (rtexts_call hu.1 hF (hu.lt hM) (hu.room hr (show 6 + 1 ≤ 25 by omega)) #[.pointer (some ⟨M, o + 6, none⟩)] 95 (fun j hj => match j, hj with | 0, _ => rfl)).mono fun e w' ⟨h1, h2⟩ => ⟨h1, hu.more h2⟩)
    (fun u hu => (rints_call hu.1 hF (hu.lt hM) (hu.room hr (show 7 + 3 ≤ 25 by omega)) #[.pointer (some ⟨M, o + 7, none⟩), .pointer (some ⟨M, o + 8, none⟩), .pointer (some ⟨M, o + 9, none⟩)] 93 (fun j hj => match j, hj with | 0, _ => rfl | 1, _ => rfl | 2, _ => rfl)).mono fun e w' ⟨h1, h2⟩ => ⟨h1, hu.more h2⟩)
    (fun u hu => (rflag_call hu.1 hF (hu.lt hM) (hu.room hr (show 10 + 1 ≤ 25 by omega))).mono fun e w' ⟨h1, h2⟩ => ⟨h1, hu.more h2⟩)
    (fun u hu => (rop_any hu.1 hF (hu.lt hM) (hu.room hr (show 11 + 6 ≤ 25 by omega))).mono fun e w' ⟨h1, h2⟩ => ⟨h1, hu.more h2⟩)
    (fun u hu => (rplan_any hu.1 hF (hu.lt hM) (hu.room hr (show 17 + 7 ≤ 25 by omega))).mono fun e w' ⟨h1, h2⟩ => ⟨h1, hu.more h2⟩)
    (fun u hu => (rbytes_call hu.1 hF (hu.lt hM) (hu.room hr (show 24 + 1 ≤ 25 by omega))).mono fun e w' ⟨h1, h2⟩ => ⟨h1, hu.more h2⟩)
    w (RI.start h)

theorem rnote_any {B RR R : Nat} {a : Option Addr} {n cp : Nat} {bs : List Int} {s : St} {M o : Nat} {w : World} (h : RS w B RR R a n cp bs s) (hF : Far RR R a M) (hM : M < w.heap.size) (hr : Room w M o 16) :
    Calls Try.prog 27 #[.iface 83 (.pointer (some ⟨RR, 0, none⟩)), .pointer (some ⟨M, o, none⟩)] w (RP B RR R a n cp bs s M o w [0, 0, 0, 0, 0, 0, 0, 4, 0, 4, 0, 3, 0, 0, 0, 0]) := by
  exact go_note (M := M) (o := o) nilr_ints methr_ints callr_ints
    (R0 := RI B RR R a n cp bs s M o w [])
    (R1 := RI B RR R a n cp bs s M o w [0, 0])
    (R2 := RI B RR R a n cp bs s M o w [0, 0, 0, 0])
    (R3 := RI B RR R a n cp bs s M o w [0, 0, 0, 0, 0, 0, 0, 4])
    (R4 := RI B RR R a n cp bs s M o w [0, 0, 0, 0, 0, 0, 0, 4, 0, 4])
    (R5 := RI B RR R a n cp bs s M o w [0, 0, 0, 0, 0, 0, 0, 4, 0, 4, 0, 3, 0, 0])
    (R6 := RI B RR R a n cp bs s M o w [0, 0, 0, 0, 0, 0, 0, 4, 0, 4, 0, 3, 0, 0, 0, 0])
    (fun u hu => (rints_call hu.1 hF (hu.lt hM) (hu.room hr (show 0 + 2 ≤ 16 by omega)) #[.pointer (some ⟨M, o, none⟩), .pointer (some ⟨M, o + 1, none⟩)] 93 (fun j hj => match j, hj with | 0, _ => rfl | 1, _ => rfl)).mono fun e w' ⟨h1, h2⟩ => ⟨h1, hu.more h2⟩)
    (fun u hu => (rballot_any hu.1 hF (hu.lt hM) (hu.room hr (show 2 + 2 ≤ 16 by omega))).mono fun e w' ⟨h1, h2⟩ => ⟨h1, hu.more h2⟩)
    (fun u hu => (rvote_any hu.1 hF (hu.lt hM) (hu.room hr (show 4 + 4 ≤ 16 by omega))).mono fun e w' ⟨h1, h2⟩ => ⟨h1, hu.more h2⟩)
    (fun u hu => (rentry_any hu.1 hF (hu.lt hM) (hu.room hr (show 8 + 2 ≤ 16 by omega))).mono fun e w' ⟨h1, h2⟩ => ⟨h1, hu.more h2⟩)
    (fun u hu => (rright_any hu.1 hF (hu.lt hM) (hu.room hr (show 10 + 4 ≤ 16 by omega))).mono fun e w' ⟨h1, h2⟩ => ⟨h1, hu.more h2⟩)
    (fun u hu => (rints_call hu.1 hF (hu.lt hM) (hu.room hr (show 14 + 2 ≤ 16 by omega)) #[.pointer (some ⟨M, o + 14, none⟩), .pointer (some ⟨M, o + 15, none⟩)] 93 (fun j hj => match j, hj with | 0, _ => rfl | 1, _ => rfl)).mono fun e w' ⟨h1, h2⟩ => ⟨h1, hu.more h2⟩)
    w (RI.start h)

end Go.Proofs.Ytfdejkfbjmkngab
