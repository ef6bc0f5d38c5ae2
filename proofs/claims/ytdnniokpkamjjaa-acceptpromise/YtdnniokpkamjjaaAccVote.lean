/- The law folder's helpers Vote and Votes, of votes that are alike. No condition but a size. -/
import Derived.Test.YtdnniokpkamjjaaAccOps
import Derived.Test.YtdnniokpkamjjaaAccCalls
import Derived.Test.YtdnniokpkamjjaaPl8
import Derived.BigQuiet
import Derived.Shelf.Abstract
namespace Go.Proofs.Ytdnniokpkamjjaa
open Go.ChangeShapes Go.WideShapes Go.ChangeAt Go.RowKit Go.Shelf B8 Am
set_option linter.unusedVariables false

theorem bytes_same {w : World} {a a' : Option Addr} {n cp cp' : Nat} {zs : List Int} (q : Sq w a n cp zs) (q' : Sq w a' n cp' zs) (hm : n ≤ 140737488355328) :
    Calls Try.prog 42 #[.slice a n cp, .slice a' n cp'] w fun e w' => e = .returned (.bool true) ∧ ∃ n, w' = w.drewN n := by
  have C := hide (plain_sq q q' hm)
  clear q q'
  go_enter Try.func42, Try.ntmps42
  go_wp2_with fail
  refine C.out.mono ?_
  rintro e w1 ⟨rfl, n1, rfl⟩
  go_wp2_with fail
  go_ret
  exact ⟨rfl, n1, rfl⟩
set_option maxRecDepth 100000 in
theorem vote_like {w : World} {s r n : Int} {a a' : Option Addr} {m cp cp' : Nat} {b : List Int} (hp : Sq w a m cp b) (hq : Sq w a' m cp' b) (hm : m ≤ 140737488355328) :
    Calls Try.prog 26 #[.agg #[.int .i64 s, .int .i64 r, .int .i64 n, .slice a m cp], .agg #[.int .i64 s, .int .i64 r, .int .i64 n, .slice a' m cp']] w fun e w' => e = .returned (.bool true) ∧ Below w.heap.size w w' := by
  obtain ⟨u, eu⟩ : ∃ u, u = (w.alloc (.cells #[.int .i64 s, .int .i64 r, .int .i64 n, .slice a m cp] 48)).alloc (.cells #[.int .i64 s, .int .i64 r, .int .i64 n, .slice a' m cp'] 48) := ⟨_, rfl⟩
  have BU : Hid (Below w.heap.size w u) := by rw [eu]; exact below_alloc (below_alloc (Below.refl _ _) _) _
  have C := hide (bytes_same (hp.below BU.out) (hq.below BU.out) hm)
  rw [eu] at C BU
  clear hp hq eu
  go_enter Try.func26, Try.ntmps26
  go_wp2_with fail
  refine C.out.mono ?_
  rintro e w1 ⟨rfl, n1, rfl⟩
  go_wp2_with fail
  go_ret
  exact ⟨rfl, below_drewN BU.out n1⟩
theorem vote_same {w : World} {p q : Vv} (hp : Sq w p.a p.m p.cp p.b) (hq : Sq w q.a q.m q.cp q.b) (hm : p.m ≤ 140737488355328) (e : p.vt = q.vt) :
    Calls Try.prog 26 #[.agg #[.int .i64 p.s, .int .i64 p.r, .int .i64 p.n, .slice p.a p.m p.cp], .agg #[.int .i64 q.s, .int .i64 q.r, .int .i64 q.n, .slice q.a q.m q.cp]] w fun e w' => e = .returned (.bool true) ∧ Below w.heap.size w w' := by
  obtain ⟨e1, e2, e3, e4⟩ : p.s = q.s ∧ p.r = q.r ∧ p.n = q.n ∧ p.b = q.b := by simpa [Vv.vt] using e
  have e5 : p.m = q.m := by rw [← hp.length, ← hq.length, e4]
  rw [← e1, ← e2, ← e3, ← e5]
  rw [← e5, ← e4] at hq
  exact vote_like hp hq hm
/-- votes that lie behind one another -/
structure Lst (w : World) (a : Option Addr) (m : Nat) (vs : Nat → Vv) : Prop where
  cells : 0 < m → ∃ b off, a = some ⟨b, off, none⟩ ∧ b < w.heap.size ∧ ∀ j, j < m → w.rangeAt b (off + j * 4) (vs j).cells
  each : ∀ j, j < m → Sq w (vs j).a (vs j).m (vs j).cp (vs j).b
theorem Lst.below {w w' : World} {a : Option Addr} {m : Nat} {vs : Nat → Vv} (h : Lst w a m vs) (hb : Below w.heap.size w w') : Lst w' a m vs :=
  ⟨fun h0 => by
    obtain ⟨b, off, e, hl, hc⟩ := h.cells h0
    exact ⟨b, off, e, Nat.lt_of_lt_of_le hl hb.size, fun j hj => rangeAt_same (hc j hj) (hb.block b hl)⟩, fun j hj => (h.each j hj).below hb⟩
theorem Vts.lst {w : World} {a : Option Addr} {m : Nat} {vs : Nat → Vv} (h : Vts w a m vs) : Lst w a m vs := ⟨h.cells, fun j hj => (h.each j hj).q⟩
def dv : Vv := ⟨0, 0, 0, none, 0, 0, []⟩
theorem Vl.lst {w : World} {B : Nat} {P : Nat → Prop} {a : Option Addr} {m c : Nat} {l : List Vv} (h : Vl w B P a m c l) : Lst w a m (fun j => l.getD j dv) := by
  have hlen := h.len
  have key : ∀ j, j < m → l[j]? = some (l.getD j dv) := fun j hj => by simp [List.getD, show j < l.length by omega]
  refine ⟨fun h0 => ?_, fun j hj => (h.ins _ (List.mem_of_getElem? (key j hj))).1⟩
  obtain ⟨b, e, _, hb, _⟩ := h.at (key 0 h0)
  refine ⟨b, 0, e, hb, fun j hj o v hv => ?_⟩
  obtain ⟨b', e', _, _, c0, c1, c2, c3⟩ := h.at (key j hj)
  rw [e] at e'
  obtain rfl : b = b' := by simpa using e'
  rw [Nat.zero_add]
  match o, hv with
  | 0, hv => rw [← hv]; exact c0
  | 1, hv => rw [← hv]; exact c1
  | 2, hv => rw [← hv]; exact c2
  | 3, hv => rw [← hv]; exact c3
theorem call_Vote : ∀ (args : Array Value) (w : World), (callFunc 26 args).run Try.prog w = .ok (.enter 26 args) w := enters_of Try.func26 (by kernel_rfl) rfl
set_option maxRecDepth 100000 in
set_option maxHeartbeats 1000000 in
theorem same_v {w : World} {a a' : Option Addr} {m cp cp' : Nat} {vs vs' : Nat → Vv} (h : Lst w a m vs) (h' : Lst w a' m vs') (hm : m ≤ 9000000000000) (hk : ∀ j, j < m → (vs j).m ≤ 140737488355328) (he : ∀ j, j < m → (vs j).vt = (vs' j).vt) :
    Calls Try.prog 33 #[.slice a m cp, .slice a' m cp', .func (.func 26) #[] #[]] w fun e w' => e = .returned (.bool true) ∧ Below w.heap.size w w' := by
  have H := hide h
  have H' := hide h'
  have HE := hide he
  have HK := hide hk
  have cc := call_Vote
  clear h h' he hk
  go_enter Try.func33, Try.ntmps33
  go_wp2_with fail
  go_loopw [7] (fun i wr => ∃ k : Nat, k ≤ m ∧ i = .int .i64 k ∧ Hid (Below w.heap.size w wr)) (fun i _ => m - (intOf i).toNat)
  case atStart => exact ⟨0, Nat.zero_le _, rfl, Below.refl _ _⟩
  case round =>
    obtain ⟨k, hk, rfl, HW⟩ := hrel
    by_cases hlt : k < m
    · have i1 : (k : Int) < (m : Int) := by omega
      have i2 : (0 : Int) ≤ (k : Int) := by omega
      obtain ⟨g, o, rfl, hg, hc⟩ := H.out.cells (by omega)
      obtain ⟨g', o', rfl, hg', hc'⟩ := H'.out.cells (by omega)
      have R := rangeAt_same (hc k hlt) (HW.out.block g hg)
      have R' := rangeAt_same (hc' k hlt) (HW.out.block g' hg')
      have S0 : Hid (∀ y : World, Below w.heap.size w y → Calls Try.prog 26 #[.agg #[.int .i64 (vs k).s, .int .i64 (vs k).r, .int .i64 (vs k).n, .slice (vs k).a (vs k).m (vs k).cp], .agg #[.int .i64 (vs' k).s, .int .i64 (vs' k).r, .int .i64 (vs' k).n, .slice (vs' k).a (vs' k).m (vs' k).cp]] y fun e w' => e = .returned (.bool true) ∧ Below y.heap.size y w') := fun y hy => vote_same ((H.out.each k hlt).below hy) ((H'.out.each k hlt).below hy) (HK.out k hlt) (HE.out k hlt)
      generalize vs k = p at *
      generalize vs' k = q at *
      have c0 := R 0 _ rfl
      have c1 := R 1 _ rfl
      have c2 := R 2 _ rfl
      have c3 := R 3 _ rfl
      have d0 := R' 0 _ rfl
      have d1 := R' 1 _ rfl
      have d2 := R' 2 _ rfl
      have d3 := R' 3 _ rfl
      simp only [Nat.add_zero] at c0 d0
      clear R R' hc hc'
      go_wp2_with fail
      refine wp_region_cells w [(⟨g, o + k * 4, none⟩, .int .i64 p.s), (⟨g, o + k * 4 + 1, none⟩, .int .i64 p.r), (⟨g, o + k * 4 + 2, none⟩, .int .i64 p.n), (⟨g, o + k * 4 + 3, none⟩, .slice p.a p.m p.cp), (⟨g', o' + k * 4, none⟩, .int .i64 q.s), (⟨g', o' + k * 4 + 1, none⟩, .int .i64 q.r), (⟨g', o' + k * 4 + 2, none⟩, .int .i64 q.n), (⟨g', o' + k * 4 + 3, none⟩, .slice q.a q.m q.cp)] (by kernel_rfl) (by kernel_rfl) HW.out (by simp [AllCells, c0, c1, c2, c3, d0, d1, d2, d3]) ?_
      intro hne qq
      simp only [AllCells, and_true] at qq
      clear c0 c1 c2 c3 d0 d1 d2 d3
      repeat (go_big_quiet_step (first | (go_at_call 26; exact Held.call _ (S0.out _ (Held.below _)))))
      refine wpQuiet_nil ?_
      rintro _ ⟨y, rfl⟩
      have BQ : Hid (Below w.heap.size w y.x) := y.below
      clear qq hne S0
      go_wp2_with fail
      go_roundw
      case rel => exact ⟨k + 1, by omega, by go_num, BQ⟩
      case measure => simp [intOf]; omega
    · go_wp2_with fail
      go_ret
      exact ⟨rfl, HW.out⟩
theorem votes_same {w : World} {a a' : Option Addr} {m cp cp' : Nat} {vs vs' : Nat → Vv} (h : Lst w a m vs) (h' : Lst w a' m vs') (hm : m ≤ 9000000000000) (hk : ∀ j, j < m → (vs j).m ≤ 140737488355328) (he : ∀ j, j < m → (vs j).vt = (vs' j).vt) :
    Calls Try.prog 15 #[.slice a m cp, .slice a' m cp'] w fun e w' => e = .returned (.bool true) ∧ Below w.heap.size w w' := by
  have C := hide (same_v (cp := cp) (cp' := cp') h h' hm hk he)
  clear h h' he hk
  go_enter Try.func15, Try.ntmps15
  go_wp2_with fail
  refine C.out.mono ?_
  rintro e w1 ⟨rfl, hb⟩
  go_wp2_with fail
  go_ret
  exact ⟨rfl, hb⟩
/-- two lists of votes that are alike -/
theorem votes_vl {w : World} {B B' : Nat} {P P' : Nat → Prop} {a a' : Option Addr} {m m' c c' : Nat} {l l' : List Vv} (h : Vl w B P a m c l) (h' : Vl w B' P' a' m' c' l') (he : l.map Vv.vt = l'.map Vv.vt) (hm : m ≤ 9000000000000) (hk : ∀ p ∈ l, p.m ≤ 140737488355328) :
    Calls Try.prog 15 #[.slice a m c, .slice a' m' c'] w fun e w' => e = .returned (.bool true) ∧ Below w.heap.size w w' := by
  have h1 := h.len
  have h2 := h'.len
  have h3 : l.length = l'.length := by have := congrArg List.length he; simpa using this
  obtain rfl : m = m' := by omega
  refine votes_same h.lst h'.lst hm (fun j hj => hk _ (List.mem_of_getElem? (i := j) (by simp [List.getD, show j < l.length by omega]))) (fun j hj => ?_)
  have h4 : (l.map Vv.vt)[j]? = (l'.map Vv.vt)[j]? := by rw [he]
  simpa [List.getD, List.getElem?_map, show j < l.length by omega, show j < l'.length by omega] using h4
end Go.Proofs.Ytdnniokpkamjjaa
