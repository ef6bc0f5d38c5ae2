/- The law folder's helpers Vote and Votes, of votes that are alike. No condition but a size. -/
import Derived.Test.YtdnniokpkamjjabAccOps
import Derived.Test.YtdnniokpkamjjabAccCalls
import Derived.Test.YtdnniokpkamjjabPl8
import Derived.BigQuiet
import Derived.Shelf.Abstract
namespace Go.Proofs.Ytdnniokpkamjjab
open Go.ChangeShapes Go.WideShapes Go.ChangeAt Go.RowKit Go.Shelf B8 Am
set_option linter.unusedVariables false

theorem bytes_same {w : World} {a a' : Option Addr} {n cp cp' : Nat} {zs : List Int} (q : Sq w a n cp zs) (q' : Sq w a' n cp' zs) (hm : n ≤ 140737488355328) :
    Calls Try.prog 19 #[.slice a n cp, .slice a' n cp'] w fun e w' => e = .returned (.bool true) ∧ ∃ n, w' = w.drewN n := by
  have C := hide (plain_sq q q' hm)
  clear q q'
  go_enter Try.func19, Try.ntmps19
  go_wp2_with fail
  refine C.out.mono ?_
  rintro e w1 ⟨rfl, n1, rfl⟩
  go_wp2_with fail
  go_ret
  exact ⟨rfl, n1, rfl⟩
set_option maxRecDepth 100000 in
theorem vote_like {w : World} {s r n : Int} {a a' : Option Addr} {m cp cp' : Nat} {b : List Int} (hp : Sq w a m cp b) (hq : Sq w a' m cp' b) (hm : m ≤ 140737488355328) :
    Calls Try.prog 11 #[.agg #[.int .i64 s, .int .i64 r, .int .i64 n, .slice a m cp], .agg #[.int .i64 s, .int .i64 r, .int .i64 n, .slice a' m cp']] w fun e w' => e = .returned (.bool true) ∧ Below w.heap.size w w' := by
  obtain ⟨u, eu⟩ : ∃ u, u = (w.alloc (.cells #[.int .i64 s, .int .i64 r, .int .i64 n, .slice a m cp] 38)).alloc (.cells #[.int .i64 s, .int .i64 r, .int .i64 n, .slice a' m cp'] 38) := ⟨_, rfl⟩
  have BU : Hid (Below w.heap.size w u) := by rw [eu]; exact below_alloc (below_alloc (Below.refl _ _) _) _
  have C := hide (bytes_same (hp.below BU.out) (hq.below BU.out) hm)
  rw [eu] at C BU
  clear hp hq eu
  go_enter Try.func11, Try.ntmps11
  go_wp2_with fail
  refine C.out.mono ?_
  rintro e w1 ⟨rfl, n1, rfl⟩
  go_wp2_with fail
  go_ret
  exact ⟨rfl, below_drewN BU.out n1⟩
theorem vote_same {w : World} {p q : Vv} (hp : Sq w p.a p.m p.cp p.b) (hq : Sq w q.a q.m q.cp q.b) (hm : p.m ≤ 140737488355328) (e : p.vt = q.vt) :
    Calls Try.prog 11 #[.agg #[.int .i64 p.s, .int .i64 p.r, .int .i64 p.n, .slice p.a p.m p.cp], .agg #[.int .i64 q.s, .int .i64 q.r, .int .i64 q.n, .slice q.a q.m q.cp]] w fun e w' => e = .returned (.bool true) ∧ Below w.heap.size w w' := by
  obtain ⟨e1, e2, e3, e4⟩ : p.s = q.s ∧ p.r = q.r ∧ p.n = q.n ∧ p.b = q.b := by simpa [Vv.vt] using e
  have e5 : p.m = q.m := by rw [← hp.length, ← hq.length, e4]
  rw [← e1, ← e2, ← e3, ← e5]
  rw [← e5, ← e4] at hq
  exact vote_like hp hq hm
/-- votes that lie behind one another -/
structure Lst (w : World) (a : Option Addr) (m : Nat) (vs : Nat → Vv) : Prop where
  cells : 0 < m → ∃ b off, a = some ⟨b, off, none⟩ ∧ b < w.heap.size ∧ ∀ j, j < m → w.rangeAt b (off + j * 4) (vs j).cells
  each : ∀ j, j < m → Sq w (vs j).a (vs j).m (vs j).cp (vs j).b
theorem Lst.below {w w' : World} {a : Option Addr} {m : Nat} {vs : Nat → Vv} (h : Lst w a m vs) (hb : Below w.heap.size w w') : Lst w' a m vs :=
  ⟨fun h0 => by
    obtain ⟨b, off, e, hl, hc⟩ := h.cells h0
    exact ⟨b, off, e, Nat.lt_of_lt_of_le hl hb.size, fun j hj => rangeAt_same (hc j hj) (hb.block b hl)⟩, fun j hj => (h.each j hj).below hb⟩
theorem Vts.lst {w : World} {a : Option Addr} {m : Nat} {vs : Nat → Vv} (h : Vts w a m vs) : Lst w a m vs := ⟨h.cells, fun j hj => (h.each j hj).q⟩
def dv : Vv := ⟨0, 0, 0, none, 0, 0, []⟩
theorem Vl.lst {w : World} {B : Nat} {P : Nat → Prop} {a : Option Addr} {m c : Nat} {l : List Vv} (h : Vl w B P a m c l) : Lst w a m (fun j => l.getD j dv) := by
  have hlen := h.len
  have key : ∀ j, j < m → l[j]? = some (l.getD j dv) := fun j hj => by simp [List.getD, show j < l.length by omega]
  refine ⟨fun h0 => ?_, fun j hj => (h.ins _ (List.mem_of_getElem? (key j hj))).1⟩
  obtain ⟨b, e, _, hb, _⟩ := h.at (key 0 h0)
  refine ⟨b, 0, e, hb, fun j hj o v hv => ?_⟩
  obtain ⟨b', e', _, _, c0, c1, c2, c3⟩ := h.at (key j hj)
  rw [e] at e'
  obtain rfl : b = b' := by simpa using e'
  rw [Nat.zero_add]
  match o, hv with
  | 0, hv => rw [← hv]; exact c0
  | 1, hv => rw [← hv]; exact c1
  | 2, hv => rw [← hv]; exact c2
  | 3, hv => rw [← hv]; exact c3
theorem call_Vote : ∀ (args : Array Value) (w : World), (callFunc 11 args).run Try.prog w = .ok (.enter 11 args) w := enters_of Try.func11 (by kernel_rfl) rfl
end Go.Proofs.Ytdnniokpkamjjab
