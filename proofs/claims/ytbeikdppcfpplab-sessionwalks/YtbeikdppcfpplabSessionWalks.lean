/- SessionWalks: whatever is done for a client, in whatever order, its mark is what was done for it; no condition. -/
import Derived.Test.YtbeikdppcfpplabSesCallsF
import Derived.Test.YtbeikdppcfpplabSesLawMath
import Derived.Deep.RegionWith
namespace Go.Proofs.Ytbeikdppcfpplab
namespace SessionWalks
open Go.ChangeShapes Go.WideShapes Go.ChangeAt Go.RowKit Sn
set_option linter.unusedVariables false

structure Gq where
  k : Int
  s : Int
  a : An
def genc (g : Gq) : List Value := [.int .i64 g.k, .int .i64 g.s, .int .i64 g.a.e, .int .i64 g.a.v, .int .i64 g.a.lo, .int .i64 g.a.hi]
theorem gflat : Flat genc 6 := ⟨fun _ => rfl, fun x v hv => by simp [genc] at hv; rcases hv with rfl | rfl | rfl | rfl | rfl | rfl <;> rfl, by omega⟩
structure GAt (w : World) (b o : Nat) (g : Gq) : Prop where
  c0 : w.cell? ⟨b, o, none⟩ = some (.int .i64 g.k)
  c1 : w.cell? ⟨b, o + 1, none⟩ = some (.int .i64 g.s)
  c2 : w.cell? ⟨b, o + 2, none⟩ = some (.int .i64 g.a.e)
  c3 : w.cell? ⟨b, o + 3, none⟩ = some (.int .i64 g.a.v)
  c4 : w.cell? ⟨b, o + 4, none⟩ = some (.int .i64 g.a.lo)
  c5 : w.cell? ⟨b, o + 5, none⟩ = some (.int .i64 g.a.hi)
theorem g_at {w : World} {b o : Nat} {g : Gq} (h : w.rangeAt b o (genc g)) : GAt w b o g := ⟨h 0 _ rfl, h 1 _ rfl, h 2 _ rfl, h 3 _ rfl, h 4 _ rfl, h 5 _ rfl⟩
section
variable {H : Type} {enc : TypeId × Value → H} {W : World} {b0 : Nat} {held : Bool} {m : Nat} {cs : List Value} {y : DataW H × List MemPlace}
theorem go_fields : ∃ f0 f1 f2 : Field, Try.prog.underlying 34 = some (.struct #[f0, f1, f2]) ∧ (f0.offset = 0 ∧ f0.type = 3) ∧ (f1.offset = 1 ∧ f1.type = 3) ∧ (f2.offset = 2 ∧ f2.type = 28) :=
  ⟨_, _, _, Try.underlying34, ⟨rfl, rfl⟩, ⟨rfl, rfl⟩, ⟨rfl, rfl⟩⟩
theorem s_go : Try.prog.cellsOf 34 = 6 := by kernel_rfl
theorem rd_go (h : DataW.trod enc Try.prog W b0 (fun _ => true) held m 34 cs = some y) (hl : Lite 34 y.1) : ∃ x : Gq, cs = genc x ∧ True := by
  obtain ⟨f0, f1, f2, hu, ⟨o0, t0⟩, ⟨o1, t1⟩, ⟨o2, t2⟩⟩ := go_fields
  obtain ⟨k, hc, hf⟩ := rd_fields hu h hl
  rw [s_go] at hc
  match cs, hc with
  | [v0, v1, v2, v3, v4, v5], _ =>
    obtain ⟨z0, g0, _⟩ := hf 0 f0 rfl
    obtain ⟨z1, g1, _⟩ := hf 1 f1 rfl
    obtain ⟨z2, g2, l2⟩ := hf 2 f2 rfl
    rw [t2] at l2
    simp [o0, o1, o2, t0, t1, t2, s_int, s_ans] at g0 g1 g2
    obtain ⟨n0, e0, _⟩ := fd_int Try.underlying3 g0
    obtain ⟨n1, e1, _⟩ := fd_int Try.underlying3 g1
    obtain ⟨a, e2⟩ := rd_ans g2 l2
    simp [aenc] at e0 e1 e2
    exact ⟨⟨n0, n1, a⟩, by rw [e0, e1, e2.1, e2.2.1, e2.2.2.1, e2.2.2.2]; rfl, trivial⟩
end
instance : Inhabited Gq := ⟨⟨0, 0, an0⟩⟩
set_option maxRecDepth 100000 in
theorem open_gos_held {H : Type} {enc : TypeId × Value → H} {W : World} {r : Reach} {base b0 : Nat} {held : Bool} {v : Value} {d : DataW H} {p : List MemPlace}
    (hv : Value.okWide Try.prog W r base 23 v) (h : DataW.Trod enc Try.prog W b0 (fun _ => true) held 23 v d p)
    (hw : ∀ n ∈ d.weights Try.prog 23, n ≤ reachBytes) :
    ∃ (a : Option Addr) (len cap : Nat) (l : List Gq), v = .slice a len cap ∧ Rl genc 6 48 W a len l := by
  obtain ⟨a, len, cap, rfl⟩ := okWide_slice Try.underlying23 hv
  obtain ⟨fuel, hf⟩ := h
  obtain ⟨a', len', cap', l, h1, h2, _, _⟩ := rd_flat (bytes := 48) Try.underlying23 s_go (by kernel_rfl) gflat (fun _ => True) (fun m cs y h hl => rd_go h hl) hf hw
  simp [Value.cells] at h1
  obtain ⟨rfl, rfl, rfl⟩ := h1
  exact ⟨_, _, _, l, rfl, h2⟩
/-- a list stays where another block turns -/
def Off (V n : Nat) (a : Option Addr) : Prop := 0 < n → ∀ ad, a = some ad → ad.block ≠ V
theorem ms_keep {w w' : World} {a : Option Addr} {n V : Nat} {l : List Mk} (h : Ms w a n l) (ho : Off V n a) (hs : w.heap.size ≤ w'.heap.size) (hb : ∀ k, k < w.heap.size → k ≠ V → w'.heap[k]? = w.heap[k]?) : Ms w' a n l :=
  ⟨h.len, fun h0 => by
    obtain ⟨b, off, e, hl, hc⟩ := h.cells h0
    exact ⟨b, off, e, Nat.lt_of_lt_of_le hl hs, fun j x hj => range_same (hc j x hj) (hb b hl (ho h0 _ e))⟩, h.room⟩
theorem off_new {V n B : Nat} {a : Option Addr} (h : Fr B a) (hV : V < B) : Off V n a := fun _ ad e he => by have := h ad e; omega
theorem put_row' {w : World} {b o : Nat} {u : Value} {cs : Array Value} {t : TypeId} (h : w.heap[b]? = some (.cells cs t (0, 0))) : (w.setCell ⟨b, o, none⟩ u).heap[b]? = some (.cells (cs.setIfInBounds o u) t (0, 0)) := by
  simp [World.setCell, Array.getElem?_modify, h]
theorem oth_row' {w : World} {b o k : Nat} {u : Value} (h : k ≠ b) : (w.setCell ⟨b, o, none⟩ u).heap[k]? = w.heap[k]? := Below.heap_setCell _ _ _ _ (fun e => h e)
theorem open_facts {L : List Mk} {c q : Int} (hR : Right L) (hc : 1 ≤ c ∧ c ≤ 8) {m : Mk} (hm : m = (lkM L c).getD mk0) (h : ¬ openE L c q = 0) : m.o = false ∨ (m.o = true ∧ ¬ m.s = q) := by
  cases ho : m.o with
  | false => exact .inl rfl
  | true =>
    refine .inr ⟨rfl, fun e => h ?_⟩
    cases hl : lkM L c with
    | none => rw [hl] at hm; rw [hm] at ho; cases ho
    | some z =>
      rw [hl] at hm
      obtain rfl : m = z := hm
      unfold openE openB
      rw [show rightB 0 L = true from hR, hl]
      simp [e, ho]
theorem begin_cases {L : List Mk} {c q : Int} (hR : Right L) (hc : 1 ≤ c ∧ c ≤ 8) {m : Mk} (hm : m = (lkM L c).getD mk0) :
    (¬ (1 ≤ q ∧ q ≤ 4611686018427387904) ∧ beginE L c q = 1 ∧ beginF L c q = false) ∨
    ((1 ≤ q ∧ q ≤ 4611686018427387904) ∧ m.s < q ∧ beginE L c q = 0 ∧ beginF L c q = true) ∨
    ((1 ≤ q ∧ q ≤ 4611686018427387904) ∧ m.s = q ∧ beginE L c q = 0 ∧ beginF L c q = false ∧ lkM L c = some m) ∨
    ((1 ≤ q ∧ q ≤ 4611686018427387904) ∧ q < m.s ∧ beginE L c q = 80 ∧ beginF L c q = false) := by
  have h2 : cliB c = true := by simpa [cliB] using hc
  by_cases hq : 1 ≤ q ∧ q ≤ 4611686018427387904
  · have h3 : seqB q = true := by simpa [seqB] using hq
    cases hl : lkM L c with
    | none =>
      rw [hl] at hm
      have e : m.s = 0 := by rw [hm]; rfl
      refine .inr (.inl ⟨hq, by omega, ?_, ?_⟩)
      · unfold beginE; rw [show rightB 0 L = true from hR, h2, h3, hl]; rfl
      · unfold beginF; rw [show rightB 0 L = true from hR, h2, h3, hl]; rfl
    | some z =>
      rw [hl] at hm
      obtain rfl : m = z := hm
      obtain ⟨a1, a2⟩ := begin_at hR hc hq hl
      rcases Int.lt_trichotomy m.s q with h | h | h
      · exact .inr (.inl ⟨hq, h, by rw [a1, if_neg (by omega)], by rw [a2, decide_eq_true h]⟩)
      · exact .inr (.inr (.inl ⟨hq, h, by rw [a1, if_neg (by omega)], by rw [a2, decide_eq_false (by omega)], rfl⟩))
      · exact .inr (.inr (.inr ⟨hq, h, by rw [a1, if_pos h], by rw [a2, decide_eq_false (by omega)]⟩))
  · have h3 : seqB q = false := by
      cases e : seqB q with
      | false => rfl
      | true => exact absurd (by simpa [seqB] using e) hq
    refine .inl ⟨hq, ?_, ?_⟩
    · unfold beginE; rw [show rightB 0 L = true from hR, h2, h3]; rfl
    · unfold beginF; rw [h3]; simp
set_option maxRecDepth 100000 in
set_option maxHeartbeats 4000000 in
theorem walk_no {w : World} {a a' : Option Addr} {n cp n' cp' : Nat} {l : List Mk} {c : Int} {q : List Gq} (h : Ms w a n l) (h' : Rl genc 6 48 w a' n' q) (hq : rightB 0 l = false) :
    Calls Try.prog 3 #[.slice a n cp, .int .i64 c, .slice a' n' cp'] w fun e w' => e = .returned (.bool true) ∧ Below w.heap.size w w' := by
  have H := hide h
  have H' := hide h'
  clear h h'
  have CK := fun W => hide (fun hW : Below w.heap.size w W => check_any (c := cp) (H.out.below hW))
  rw [check_no hq] at CK
  clear hq
  go_enter Try.func3, Try.ntmps3
  go_wp2_with fail
  refine (awake_any _).mono ?_
  rintro e w1 ⟨rfl, hb1⟩
  have HB1 := hide hb1
  clear hb1
  go_wp2_with fail
  refine ((CK _).out HB1.out).mono ?_
  rintro e w2 ⟨rfl, hb2⟩
  have HB2 : Hid (Below w.heap.size w w2) := HB1.out.trans (hb2.mono HB1.out.size)
  clear hb2 CK HB1
  go_wp2_with fail
  refine (awake_any _).mono ?_
  rintro e w3 ⟨rfl, hb3⟩
  have HB3 : Hid (Below w.heap.size w w3) := HB2.out.trans (hb3.mono HB2.out.size)
  clear hb3
  go_wp2_with fail
  go_returns
  exact ⟨rfl, HB3.out⟩
set_option maxRecDepth 100000 in
set_option maxHeartbeats 4000000 in
theorem walk_low {w : World} {a a' : Option Addr} {n cp n' cp' : Nat} {l : List Mk} {c : Int} {q : List Gq} (h : Ms w a n l) (h' : Rl genc 6 48 w a' n' q) (hq : rightB 0 l = true) (hc : c < 1) :
    Calls Try.prog 3 #[.slice a n cp, .int .i64 c, .slice a' n' cp'] w fun e w' => e = .returned (.bool true) ∧ Below w.heap.size w w' := by
  have H := hide h
  have H' := hide h'
  clear h h'
  have CK := fun W => hide (fun hW : Below w.heap.size w W => check_any (c := cp) (H.out.below hW))
  rw [check_ok hq] at CK
  clear hq
  go_enter Try.func3, Try.ntmps3
  go_wp2_with fail
  refine (awake_any _).mono ?_
  rintro e w1 ⟨rfl, hb1⟩
  have HB1 := hide hb1
  clear hb1
  go_wp2_with fail
  refine ((CK _).out HB1.out).mono ?_
  rintro e w2 ⟨rfl, hb2⟩
  have HB2 : Hid (Below w.heap.size w w2) := HB1.out.trans (hb2.mono HB1.out.size)
  clear hb2 CK HB1
  go_wp2_with fail
  refine (awake_any _).mono ?_
  rintro e w3 ⟨rfl, hb3⟩
  have HB3 : Hid (Below w.heap.size w w3) := HB2.out.trans (hb3.mono HB2.out.size)
  clear hb3
  go_wp2_with fail
  go_returns
  exact ⟨rfl, HB3.out⟩
set_option maxRecDepth 100000 in
set_option maxHeartbeats 4000000 in
theorem walk_high {w : World} {a a' : Option Addr} {n cp n' cp' : Nat} {l : List Mk} {c : Int} {q : List Gq} (h : Ms w a n l) (h' : Rl genc 6 48 w a' n' q) (hq : rightB 0 l = true) (hc1 : ¬ c < 1) (hc : 8 < c) :
    Calls Try.prog 3 #[.slice a n cp, .int .i64 c, .slice a' n' cp'] w fun e w' => e = .returned (.bool true) ∧ Below w.heap.size w w' := by
  have H := hide h
  have H' := hide h'
  clear h h'
  have CK := fun W => hide (fun hW : Below w.heap.size w W => check_any (c := cp) (H.out.below hW))
  rw [check_ok hq] at CK
  clear hq
  go_enter Try.func3, Try.ntmps3
  go_wp2_with fail
  refine (awake_any _).mono ?_
  rintro e w1 ⟨rfl, hb1⟩
  have HB1 := hide hb1
  clear hb1
  go_wp2_with fail
  refine ((CK _).out HB1.out).mono ?_
  rintro e w2 ⟨rfl, hb2⟩
  have HB2 : Hid (Below w.heap.size w w2) := HB1.out.trans (hb2.mono HB1.out.size)
  clear hb2 CK HB1
  go_wp2_with fail
  refine (awake_any _).mono ?_
  rintro e w3 ⟨rfl, hb3⟩
  have HB3 : Hid (Below w.heap.size w w3) := HB2.out.trans (hb3.mono HB2.out.size)
  clear hb3
  go_wp2_with fail
  go_returns
  exact ⟨rfl, HB3.out⟩
set_option maxRecDepth 100000 in
set_option maxHeartbeats 4000000 in
theorem walk_yes {w : World} {a a' : Option Addr} {n cp n' cp' : Nat} {l : List Mk} {c : Int} {q : List Gq} (h : Ms w a n l) (h' : Rl genc 6 48 w a' n' q) (hq : rightB 0 l = true) (hc : 1 ≤ c ∧ c ≤ 8) :
    Calls Try.prog 3 #[.slice a n cp, .int .i64 c, .slice a' n' cp'] w fun e w' => e = .returned (.bool true) ∧ Below w.heap.size w w' := by
  have H := hide h
  have H' := hide h'
  clear h h'
  have CK := fun W => hide (fun hW : Below w.heap.size w W => check_any (c := cp) (H.out.below hW))
  rw [check_ok hq] at CK
  have HR0 : Hid (Right l) := hq
  have HC := hide hc
  have g1 : ¬ c < 1 := by omega
  have g2 : ¬ 8 < c := by omega
  clear hq hc
  go_enter Try.func3, Try.ntmps3
  go_wp2_with fail
  refine (awake_any _).mono ?_
  rintro e w1 ⟨rfl, hb1⟩
  have HB1 := hide hb1
  clear hb1
  go_wp2_with fail
  refine ((CK _).out HB1.out).mono ?_
  rintro e w2 ⟨rfl, hb2⟩
  have HB2 : Hid (Below w.heap.size w w2) := HB1.out.trans (hb2.mono HB1.out.size)
  clear hb2 CK HB1
  obtain ⟨m0, em0⟩ : ∃ m, m = (lkM l c).getD mk0 := ⟨_, rfl⟩
  have FI := hide (find_any (cp := cp) (c := c) (H.out.below HB2.out))
  rw [find_ok HR0.out, ← em0] at FI
  unfold mval at FI
  have EM0 := hide em0
  clear em0
  obtain ⟨b0, eb0⟩ : ∃ b, b = (lkM l c).isSome := ⟨_, rfl⟩
  rw [← eb0] at FI
  clear eb0
  go_wp2_with fail
  refine FI.out.mono ?_
  rintro e w3 ⟨rfl, hb3⟩
  have HB3 : Hid (Below w.heap.size w w3) := HB2.out.trans (hb3.mono HB2.out.size)
  clear hb3 HB2 FI
  obtain ⟨V, eV⟩ : ∃ V, V = w3.heap.size := ⟨_, rfl⟩
  have hwV : w.heap.size ≤ V := by rw [eV]; exact HB3.out.size
  have HV0 : Hid ((w3.alloc (.cells #[.int .i64 m0.c, .int .i64 m0.s, .bool m0.o, .int .i64 m0.a.e, .int .i64 m0.a.v, .int .i64 m0.a.lo, .int .i64 m0.a.hi] 30)).heap[V]? = some (.cells #[.int .i64 m0.c, .int .i64 m0.s, .bool m0.o, .int .i64 m0.a.e, .int .i64 m0.a.v, .int .i64 m0.a.lo, .int .i64 m0.a.hi] 30 (0, 0))) := by show _ = _; rw [eV]; exact heap_alloc_new w3 _
  have HB4 := hide (HB3.out.alloc HB3.out.size (.cells #[.int .i64 m0.c, .int .i64 m0.s, .bool m0.o, .int .i64 m0.a.e, .int .i64 m0.a.v, .int .i64 m0.a.lo, .int .i64 m0.a.hi] 30))
  have HM4 := hide (H.out.below HB4.out)
  have HO4 : Hid (Off V n a) := fun h0 ad e he => by
    obtain ⟨b, off, e2, hl, _⟩ := H.out.cells h0
    rw [e] at e2
    cases e2
    simp only at he
    omega
  have hq48 := H'.out.room
  go_wp2_with fail
  rw [← eV]
  clear eV HB3
  go_loopw [0, 9, 10, 11, 12, 13, 14, 15, 16] (fun s0 s9 _ _ _ _ _ _ _ wr => ∃ (k : Nat) (L : List Mk) (m : Mk) (a1 : Option Addr) (n1 c1 : Nat), k ≤ n' ∧ s0 = .slice a1 n1 c1 ∧ s9 = .int .i64 k ∧ Hid (Below w.heap.size w wr) ∧ Hid (wr.heap[V]? = some (.cells #[.int .i64 m.c, .int .i64 m.s, .bool m.o, .int .i64 m.a.e, .int .i64 m.a.v, .int .i64 m.a.lo, .int .i64 m.a.hi] 30 (0, 0))) ∧ Hid (Ms wr a1 n1 L) ∧ Hid (Off V n1 a1) ∧ Hid (Right L) ∧ Hid (m = (lkM L c).getD mk0)) (fun _ iv _ _ _ _ _ _ _ _ => n' - (intOf iv).toNat)
  case atStart => exact ⟨0, l, m0, a, n, cp, Nat.zero_le _, rfl, rfl, HB4, HV0, HM4, HO4, HR0, EM0⟩
  case round =>
    clear HB4 HV0 HM4 HO4 HR0 EM0
    obtain ⟨k, L, m, a1, n1, c1, hk, rfl, rfl, HB, HV, HM, HO, HR, HMM⟩ := hrel
    by_cases hlt : k < n'
    · obtain ⟨gb, goff, g, rfl, hg, hgb, GG⟩ := Rl.at_ (H'.out.below HB.out) hlt
      obtain ⟨q0, q1, q2, q3, q4, q5⟩ := g_at GG
      have i1 : (k : Int) < (n' : Int) := by omega
      have i2 : (0 : Int) ≤ (k : Int) := by omega
      have hVr : V < wr.heap.size := (Array.getElem?_eq_some_iff.1 HV.out).1
      obtain ⟨gk, gs, ⟨ge, gv, gl, gh⟩⟩ := g
      simp only at q0 q1 q2 q3 q4 q5
      clear hg hgb GG
      obtain ⟨mc, ms, mo, ⟨me, mv, ml, mh⟩⟩ := m
      simp only at HV
      have HBg := hide (HB.out.alloc HB.out.size (.cells #[.int .i64 gk, .int .i64 gs, .int .i64 ge, .int .i64 gv, .int .i64 gl, .int .i64 gh] 34))
      have HUg : Hid ((wr.alloc (.cells #[.int .i64 gk, .int .i64 gs, .int .i64 ge, .int .i64 gv, .int .i64 gl, .int .i64 gh] 34)).heap[wr.heap.size]? = some (.cells #[.int .i64 gk, .int .i64 gs, .int .i64 ge, .int .i64 gv, .int .i64 gl, .int .i64 gh] 34 (0, 0))) := heap_alloc_new wr _
      have HVg : Hid ((wr.alloc (.cells #[.int .i64 gk, .int .i64 gs, .int .i64 ge, .int .i64 gv, .int .i64 gl, .int .i64 gh] 34)).heap[V]? = _) := (Below.heap_alloc _ _ _ hVr).trans HV.out
      have HMg := hide (HM.out.below (Below.alloc (Below.refl _ _) (Nat.le_refl _) (.cells #[.int .i64 gk, .int .i64 gs, .int .i64 ge, .int .i64 gv, .int .i64 gl, .int .i64 gh] 34)))
      have hVg : V < (wr.alloc (.cells #[.int .i64 gk, .int .i64 gs, .int .i64 ge, .int .i64 gv, .int .i64 gl, .int .i64 gh] 34)).heap.size := by simp; omega
      have hneV : ¬ wr.heap.size = V := by omega
      have hneU : ¬ V = wr.heap.size := by omega
      by_cases hk1 : gk = 1
      · subst hk1
        have EN := hide (end_anyF (cp := c1) (c := c) (q := gs) (x := ⟨ge, gv, gl, gh⟩) HMg.out)
        unfold aval at EN
        by_cases hop : openE L c gs = 0
        · obtain ⟨_, hl, _, _, hg3, hg4⟩ := open_of hop
          have HMM2 := HMM.out
          rw [hl] at HMM2
          simp only [opened, an0, Option.getD_some, Mk.mk.injEq, An.mk.injEq] at HMM2
          obtain ⟨rfl, rfl, rfl, rfl, rfl, rfl, rfl⟩ := HMM2
          rw [hop] at EN
          obtain ⟨LL, eLL⟩ : ∃ LL, LL = endL L mc ms ⟨ge, gv, gl, gh⟩ := ⟨_, rfl⟩
          have hmE := may_ended (⟨ge, gv, gl, gh⟩ : An) (c := mc) (s := ms) HC.out ⟨by omega, hg4⟩
          have eEL : endL L mc ms ⟨ge, gv, gl, gh⟩ = withL L ⟨mc, ms, false, ⟨ge, gv, gl, gh⟩⟩ := by unfold endL; rw [if_pos hop]
          have HRt : Hid (Right LL) := by rw [eLL, eEL]; exact right_with HR.out hmE
          have HLt : Hid (lkM LL mc = some ⟨mc, ms, false, ⟨ge, gv, gl, gh⟩⟩) := by show _ = _; rw [eLL, eEL]; exact lk_with_same HR.out hmE
          rw [← eLL] at EN
          clear eLL eEL hmE hop hl hg3 hg4
          go_wp2_with fail
          refine EN.out.mono ?_
          rintro e w6 ⟨a6, n6, c6, rfl, hm6, hb6, hf6⟩
          have HM6 := hide hm6
          have HOt : Hid (Off V n6 a6) := off_new hf6 hVg
          have HB6 : Hid (Below w.heap.size w w6) := HBg.out.trans (hb6.mono HBg.out.size)
          have HU6 : Hid (w6.heap[wr.heap.size]? = some (.cells #[.int .i64 1, .int .i64 ms, .int .i64 ge, .int .i64 gv, .int .i64 gl, .int .i64 gh] 34 (0, 0))) := (hb6.block _ (by simp)).trans HUg.out
          have HV6 : Hid (w6.heap[V]? = some (.cells #[.int .i64 mc, .int .i64 ms, .bool true, .int .i64 0, .int .i64 0, .int .i64 0, .int .i64 0] 30 (0, 0))) := (hb6.block _ hVg).trans HVg.out
          have hs6 : wr.heap.size < w6.heap.size := (Array.getElem?_eq_some_iff.1 HU6.out).1
          have HL6 := hide (HMg.out.below hb6)
          have u0 : w6.cell? ⟨wr.heap.size, 0, none⟩ = some (.int .i64 1) := by rw [cell_of_row _ _ _ _ _ _ HU6.out]; rfl
          have u1 : w6.cell? ⟨wr.heap.size, 1, none⟩ = some (.int .i64 ms) := by rw [cell_of_row _ _ _ _ _ _ HU6.out]; rfl
          have u2 : w6.cell? ⟨wr.heap.size, 2, none⟩ = some (.int .i64 ge) := by rw [cell_of_row _ _ _ _ _ _ HU6.out]; rfl
          have u3 : w6.cell? ⟨wr.heap.size, 3, none⟩ = some (.int .i64 gv) := by rw [cell_of_row _ _ _ _ _ _ HU6.out]; rfl
          have u4 : w6.cell? ⟨wr.heap.size, 4, none⟩ = some (.int .i64 gl) := by rw [cell_of_row _ _ _ _ _ _ HU6.out]; rfl
          have u5 : w6.cell? ⟨wr.heap.size, 5, none⟩ = some (.int .i64 gh) := by rw [cell_of_row _ _ _ _ _ _ HU6.out]; rfl
          obtain ⟨m0', m1', m2', m3', m4', m5', m6'⟩ := mk_row ⟨mc, ms, true, ⟨0, 0, 0, 0⟩⟩ HV6.out
          simp only [Nat.zero_add] at m0' m1' m2' m3' m4' m5' m6'
          have mfz : ∀ o, w6.frozen? ⟨V, o, none⟩ = false := fun o => frozen_of_row _ _ _ _ _ HV6.out
          clear hb6 hm6 hf6 EN HL6 HMg HUg HVg HBg
          obtain ⟨w7, e7⟩ : ∃ w7, w7 = (((((w6.setCell ⟨V, 2, none⟩ (.bool false)).setCell ⟨V, 3, none⟩ (.int .i64 ge)).setCell ⟨V, 4, none⟩ (.int .i64 gv)).setCell ⟨V, 5, none⟩ (.int .i64 gl)).setCell ⟨V, 6, none⟩ (.int .i64 gh)).drew := ⟨_, rfl⟩
          have HVt : Hid (w7.heap[V]? = some (.cells #[.int .i64 mc, .int .i64 ms, .bool false, .int .i64 ge, .int .i64 gv, .int .i64 gl, .int .i64 gh] 30 (0, 0))) := by show _ = _; rw [e7]; exact put_row' (put_row' (put_row' (put_row' (put_row' HV6.out))))
          have HBt : Hid (Below w.heap.size w w7) := by rw [e7]; exact (((((HB6.out.setCell (p := ⟨V, 2, none⟩) hwV _).setCell (p := ⟨V, 3, none⟩) hwV _).setCell (p := ⟨V, 4, none⟩) hwV _).setCell (p := ⟨V, 5, none⟩) hwV _).setCell (p := ⟨V, 6, none⟩) hwV _).drew
          have HMt : Hid (Ms w7 a6 n6 LL) := ms_keep HM6.out HOt.out (by rw [e7]; simp [World.setCell]) (fun j _ hj => by rw [e7]; show (World.setCell _ _ _).heap[j]? = _; rw [oth_row' hj, oth_row' hj, oth_row' hj, oth_row' hj, oth_row' hj])
          have E7 := hide e7
          clear e7
          go_wp2_with fail
          go_region_with (fail)
          all_goals
            rw [← E7.out]
            clear u0 u1 u2 u3 u4 u5 m0' m1' m2' m3' m4' m5' m6' mfz HV6 HU6 HB6 HM6 E7
            have FI := hide (find_any (cp := c6) (c := mc) HMt.out)
            rw [find_ok HRt.out, HLt.out] at FI
            unfold mval at FI
            simp only [Option.getD_some, Option.isSome_some] at FI
            go_wp2_with fail
            refine FI.out.mono ?_
            rintro e w8 ⟨rfl, hb8⟩
            have HB8 : Hid (Below w.heap.size w w8) := HBt.out.trans (hb8.mono HBt.out.size)
            have HV8 : Hid (w8.heap[V]? = some (.cells #[.int .i64 mc, .int .i64 ms, .bool false, .int .i64 ge, .int .i64 gv, .int .i64 gl, .int .i64 gh] 30 (0, 0))) := (hb8.block _ (Array.getElem?_eq_some_iff.1 HVt.out).1).trans HVt.out
            have HM8 := hide (HMt.out.below hb8)
            have HB8a := hide (HB8.out.alloc HB8.out.size (.cells #[.int .i64 mc, .int .i64 ms, .bool false, .int .i64 ge, .int .i64 gv, .int .i64 gl, .int .i64 gh] 30))
            have HV8a : Hid ((w8.alloc (.cells #[.int .i64 mc, .int .i64 ms, .bool false, .int .i64 ge, .int .i64 gv, .int .i64 gl, .int .i64 gh] 30)).heap[V]? = some (.cells #[.int .i64 mc, .int .i64 ms, .bool false, .int .i64 ge, .int .i64 gv, .int .i64 gl, .int .i64 gh] 30 (0, 0))) := (Below.heap_alloc _ _ _ (Array.getElem?_eq_some_iff.1 HV8.out).1).trans HV8.out
            have HM8a := hide (HM8.out.below (Below.alloc (Below.refl _ _) (Nat.le_refl _) (.cells #[.int .i64 mc, .int .i64 ms, .bool false, .int .i64 ge, .int .i64 gv, .int .i64 gl, .int .i64 gh] 30)))
            clear hb8 FI HBt HVt HMt HB8 HV8 HM8
            go_wp2_with fail
            refine (check_any HM8a.out).mono ?_
            rintro e w9 ⟨rfl, hb9⟩
            rw [check_ok HRt.out]
            have HB9 : Hid (Below w.heap.size w w9) := HB8a.out.trans (hb9.mono HB8a.out.size)
            have HV9 : Hid (w9.heap[V]? = some (.cells #[.int .i64 mc, .int .i64 ms, .bool false, .int .i64 ge, .int .i64 gv, .int .i64 gl, .int .i64 gh] 30 (0, 0))) := (hb9.block _ (Array.getElem?_eq_some_iff.1 HV8a.out).1).trans HV8a.out
            have HY9 : Hid (w9.heap[w8.heap.size]? = some (.cells #[.int .i64 mc, .int .i64 ms, .bool false, .int .i64 ge, .int .i64 gv, .int .i64 gl, .int .i64 gh] 30 (0, 0))) := (hb9.block _ (by simp)).trans (heap_alloc_new w8 _)
            have HM9 := hide (HM8a.out.below hb9)
            obtain ⟨x0, x1, x2, x3, x4, x5, x6⟩ := mk_row ⟨mc, ms, false, ⟨ge, gv, gl, gh⟩⟩ HV9.out
            obtain ⟨y0, y1, y2, y3, y4, y5, y6⟩ := mk_row ⟨mc, ms, false, ⟨ge, gv, gl, gh⟩⟩ HY9.out
            simp only [Nat.zero_add] at x0 x1 x2 x3 x4 x5 x6 y0 y1 y2 y3 y4 y5 y6
            clear hb9 HB8a HV8a HM8a HY9
            have HMM9 : Hid ((⟨mc, ms, false, ⟨ge, gv, gl, gh⟩⟩ : Mk) = (lkM LL mc).getD mk0) := by show _ = _; rw [HLt.out]; rfl
            go_wp2_with fail
            go_roundw
            case rel => exact ⟨k + 1, LL, ⟨mc, ms, false, ⟨ge, gv, gl, gh⟩⟩, _, _, _, by omega, rfl, by go_num, HB9, HV9, HM9, HOt, HRt, HMM9⟩
            case measure => simp [intOf]; omega
        · have e0 : endL L c gs ⟨ge, gv, gl, gh⟩ = [] := by unfold endL; rw [if_neg hop]
          rw [e0] at EN
          have OF := open_facts HR.out HC.out HMM.out hop
          simp only at OF
          obtain ⟨r, er⟩ : ∃ r, r = openE L c gs := ⟨_, rfl⟩
          rw [← er] at EN hop
          clear er e0
          have hr1 : (r == 0) = false := by simpa using hop
          have hr2 : (r != 0) = true := by simpa using hop
          rcases OF with rfl | ⟨rfl, hms⟩
          · go_wp2_with fail
            refine EN.out.mono ?_
            rintro e w6 ⟨a6, n6, c6, rfl, hm6, hb6, hf6⟩
            obtain rfl : n6 = 0 := hm6.len.symm
            have HB6 : Hid (Below w.heap.size w w6) := HBg.out.trans (hb6.mono HBg.out.size)
            have HU6 : Hid (w6.heap[wr.heap.size]? = some (.cells #[.int .i64 1, .int .i64 gs, .int .i64 ge, .int .i64 gv, .int .i64 gl, .int .i64 gh] 34 (0, 0))) := (hb6.block _ (by simp)).trans HUg.out
            have HV6 : Hid (w6.heap[V]? = some (.cells #[.int .i64 mc, .int .i64 ms, .bool false, .int .i64 me, .int .i64 mv, .int .i64 ml, .int .i64 mh] 30 (0, 0))) := (hb6.block _ hVg).trans HVg.out
            have hs6 : wr.heap.size < w6.heap.size := (Array.getElem?_eq_some_iff.1 HU6.out).1
            have HL6 := hide (HMg.out.below hb6)
            have u0 : w6.cell? ⟨wr.heap.size, 0, none⟩ = some (.int .i64 1) := by rw [cell_of_row _ _ _ _ _ _ HU6.out]; rfl
            have u1 : w6.cell? ⟨wr.heap.size, 1, none⟩ = some (.int .i64 gs) := by rw [cell_of_row _ _ _ _ _ _ HU6.out]; rfl
            have u2 : w6.cell? ⟨wr.heap.size, 2, none⟩ = some (.int .i64 ge) := by rw [cell_of_row _ _ _ _ _ _ HU6.out]; rfl
            have u3 : w6.cell? ⟨wr.heap.size, 3, none⟩ = some (.int .i64 gv) := by rw [cell_of_row _ _ _ _ _ _ HU6.out]; rfl
            have u4 : w6.cell? ⟨wr.heap.size, 4, none⟩ = some (.int .i64 gl) := by rw [cell_of_row _ _ _ _ _ _ HU6.out]; rfl
            have u5 : w6.cell? ⟨wr.heap.size, 5, none⟩ = some (.int .i64 gh) := by rw [cell_of_row _ _ _ _ _ _ HU6.out]; rfl
            obtain ⟨m0', m1', m2', m3', m4', m5', m6'⟩ := mk_row ⟨mc, ms, false, ⟨me, mv, ml, mh⟩⟩ HV6.out
            simp only [Nat.zero_add] at m0' m1' m2' m3' m4' m5' m6'
            have mfz : ∀ o, w6.frozen? ⟨V, o, none⟩ = false := fun o => frozen_of_row _ _ _ _ _ HV6.out
            clear hb6 hm6 hf6 EN HMg HUg HVg HBg
            go_wp2_with fail
            go_roundw
            case rel => exact ⟨k + 1, L, _, _, _, _, by omega, rfl, by go_num, HB6, HV6, HL6, HO, HR, HMM⟩
            case measure => simp [intOf]; omega
          · have hms2 : (ms == gs) = false := by simpa using hms
            go_wp2_with fail
            refine EN.out.mono ?_
            rintro e w6 ⟨a6, n6, c6, rfl, hm6, hb6, hf6⟩
            obtain rfl : n6 = 0 := hm6.len.symm
            have HB6 : Hid (Below w.heap.size w w6) := HBg.out.trans (hb6.mono HBg.out.size)
            have HU6 : Hid (w6.heap[wr.heap.size]? = some (.cells #[.int .i64 1, .int .i64 gs, .int .i64 ge, .int .i64 gv, .int .i64 gl, .int .i64 gh] 34 (0, 0))) := (hb6.block _ (by simp)).trans HUg.out
            have HV6 : Hid (w6.heap[V]? = some (.cells #[.int .i64 mc, .int .i64 ms, .bool true, .int .i64 me, .int .i64 mv, .int .i64 ml, .int .i64 mh] 30 (0, 0))) := (hb6.block _ hVg).trans HVg.out
            have hs6 : wr.heap.size < w6.heap.size := (Array.getElem?_eq_some_iff.1 HU6.out).1
            have HL6 := hide (HMg.out.below hb6)
            have u0 : w6.cell? ⟨wr.heap.size, 0, none⟩ = some (.int .i64 1) := by rw [cell_of_row _ _ _ _ _ _ HU6.out]; rfl
            have u1 : w6.cell? ⟨wr.heap.size, 1, none⟩ = some (.int .i64 gs) := by rw [cell_of_row _ _ _ _ _ _ HU6.out]; rfl
            have u2 : w6.cell? ⟨wr.heap.size, 2, none⟩ = some (.int .i64 ge) := by rw [cell_of_row _ _ _ _ _ _ HU6.out]; rfl
            have u3 : w6.cell? ⟨wr.heap.size, 3, none⟩ = some (.int .i64 gv) := by rw [cell_of_row _ _ _ _ _ _ HU6.out]; rfl
            have u4 : w6.cell? ⟨wr.heap.size, 4, none⟩ = some (.int .i64 gl) := by rw [cell_of_row _ _ _ _ _ _ HU6.out]; rfl
            have u5 : w6.cell? ⟨wr.heap.size, 5, none⟩ = some (.int .i64 gh) := by rw [cell_of_row _ _ _ _ _ _ HU6.out]; rfl
            obtain ⟨m0', m1', m2', m3', m4', m5', m6'⟩ := mk_row ⟨mc, ms, true, ⟨me, mv, ml, mh⟩⟩ HV6.out
            simp only [Nat.zero_add] at m0' m1' m2' m3' m4' m5' m6'
            have mfz : ∀ o, w6.frozen? ⟨V, o, none⟩ = false := fun o => frozen_of_row _ _ _ _ _ HV6.out
            clear hb6 hm6 hf6 EN HMg HUg HVg HBg
            go_wp2_with fail
            go_roundw
            case rel => exact ⟨k + 1, L, _, _, _, _, by omega, rfl, by go_num, HB6, HV6, HL6, HO, HR, HMM⟩
            case measure => simp [intOf]; omega
      · by_cases hk2 : gk = 2
        · subst hk2
          have LO := hide (lose_anyF (cp := c1) (c := c) (q := gs) HMg.out)
          by_cases hop : openE L c gs = 0
          · obtain ⟨_, hl, _, _, hg3, hg4⟩ := open_of hop
            have HMM2 := HMM.out
            rw [hl] at HMM2
            simp only [opened, an0, Option.getD_some, Mk.mk.injEq, An.mk.injEq] at HMM2
            obtain ⟨rfl, rfl, rfl, rfl, rfl, rfl, rfl⟩ := HMM2
            rw [hop] at LO
            obtain ⟨LL, eLL⟩ : ∃ LL, LL = loseL L mc ms := ⟨_, rfl⟩
            have hmE := may_ended lost (c := mc) (s := ms - 1) HC.out ⟨by omega, by omega⟩
            have eEL : loseL L mc ms = withL L ⟨mc, ms - 1, false, lost⟩ := by unfold loseL; rw [if_pos hop]
            have HRt : Hid (Right LL) := by rw [eLL, eEL]; exact right_with HR.out hmE
            have HLt : Hid (lkM LL mc = some ⟨mc, ms - 1, false, ⟨80, 0, 0, 0⟩⟩) := by show _ = _; rw [eLL, eEL]; exact lk_with_same HR.out hmE
            rw [← eLL] at LO
            clear eLL eEL hmE hop hl
            go_wp2_with fail
            refine LO.out.mono ?_
            rintro e w6 ⟨a6, n6, c6, rfl, hm6, hb6, hf6⟩
            have HM6 := hide hm6
            have HOt : Hid (Off V n6 a6) := off_new hf6 hVg
            have HB6 : Hid (Below w.heap.size w w6) := HBg.out.trans (hb6.mono HBg.out.size)
            have HU6 : Hid (w6.heap[wr.heap.size]? = some (.cells #[.int .i64 2, .int .i64 ms, .int .i64 ge, .int .i64 gv, .int .i64 gl, .int .i64 gh] 34 (0, 0))) := (hb6.block _ (by simp)).trans HUg.out
            have HV6 : Hid (w6.heap[V]? = some (.cells #[.int .i64 mc, .int .i64 ms, .bool true, .int .i64 0, .int .i64 0, .int .i64 0, .int .i64 0] 30 (0, 0))) := (hb6.block _ hVg).trans HVg.out
            have hs6 : wr.heap.size < w6.heap.size := (Array.getElem?_eq_some_iff.1 HU6.out).1
            have HL6 := hide (HMg.out.below hb6)
            have u0 : w6.cell? ⟨wr.heap.size, 0, none⟩ = some (.int .i64 2) := by rw [cell_of_row _ _ _ _ _ _ HU6.out]; rfl
            have u1 : w6.cell? ⟨wr.heap.size, 1, none⟩ = some (.int .i64 ms) := by rw [cell_of_row _ _ _ _ _ _ HU6.out]; rfl
            have u2 : w6.cell? ⟨wr.heap.size, 2, none⟩ = some (.int .i64 ge) := by rw [cell_of_row _ _ _ _ _ _ HU6.out]; rfl
            have u3 : w6.cell? ⟨wr.heap.size, 3, none⟩ = some (.int .i64 gv) := by rw [cell_of_row _ _ _ _ _ _ HU6.out]; rfl
            have u4 : w6.cell? ⟨wr.heap.size, 4, none⟩ = some (.int .i64 gl) := by rw [cell_of_row _ _ _ _ _ _ HU6.out]; rfl
            have u5 : w6.cell? ⟨wr.heap.size, 5, none⟩ = some (.int .i64 gh) := by rw [cell_of_row _ _ _ _ _ _ HU6.out]; rfl
            obtain ⟨m0', m1', m2', m3', m4', m5', m6'⟩ := mk_row ⟨mc, ms, true, ⟨0, 0, 0, 0⟩⟩ HV6.out
            simp only [Nat.zero_add] at m0' m1' m2' m3' m4' m5' m6'
            have mfz : ∀ o, w6.frozen? ⟨V, o, none⟩ = false := fun o => frozen_of_row _ _ _ _ _ HV6.out
            clear hb6 hm6 hf6 LO HL6 HMg HUg HVg HBg
            obtain ⟨w7, e7⟩ : ∃ w7, w7 = w6.setRow V #[.int .i64 mc, .int .i64 (ms - 1), .bool false, .int .i64 80, .int .i64 0, .int .i64 0, .int .i64 0] := ⟨_, rfl⟩
            have HVt : Hid (w7.heap[V]? = some (.cells #[.int .i64 mc, .int .i64 (ms - 1), .bool false, .int .i64 80, .int .i64 0, .int .i64 0, .int .i64 0] 30 (0, 0))) := by show _ = _; rw [e7]; exact setRow_heap _ _ _ _ _ _ HV6.out
            have HBt : Hid (Below w.heap.size w w7) := by rw [e7]; exact below_setRow HB6.out hwV _
            have HMt : Hid (Ms w7 a6 n6 LL) := ms_keep HM6.out HOt.out (by rw [e7]; simp [World.setRow]) (fun j _ hj => by rw [e7]; exact setRow_other _ _ _ _ hj)
            have E7 := hide e7
            clear e7
            go_wp2_with (refine wpList_store_row rfl 30 (.tmp 7) (.tmp 155) rfl V #[.int .i64 mc, .int .i64 (ms - 1), .bool false, .int .i64 80, .int .i64 0, .int .i64 0, .int .i64 0] rfl rfl 30 #[.int .i64 mc, .int .i64 ms, .bool true, .int .i64 0, .int .i64 0, .int .i64 0, .int .i64 0] HV6.out FnM.size_info rfl (by simp [Value.oneCell']) ?_; rw [← E7.out])
            clear u0 u1 u2 u3 u4 u5 m0' m1' m2' m3' m4' m5' m6' mfz HV6 HU6 HB6 HM6 E7
            have FI := hide (find_any (cp := c6) (c := mc) HMt.out)
            rw [find_ok HRt.out, HLt.out] at FI
            unfold mval at FI
            simp only [Option.getD_some, Option.isSome_some] at FI
            go_wp2_with fail
            refine FI.out.mono ?_
            rintro e w8 ⟨rfl, hb8⟩
            have HB8 : Hid (Below w.heap.size w w8) := HBt.out.trans (hb8.mono HBt.out.size)
            have HV8 : Hid (w8.heap[V]? = some (.cells #[.int .i64 mc, .int .i64 (ms - 1), .bool false, .int .i64 80, .int .i64 0, .int .i64 0, .int .i64 0] 30 (0, 0))) := (hb8.block _ (Array.getElem?_eq_some_iff.1 HVt.out).1).trans HVt.out
            have HM8 := hide (HMt.out.below hb8)
            have HB8a := hide (HB8.out.alloc HB8.out.size (.cells #[.int .i64 mc, .int .i64 (ms - 1), .bool false, .int .i64 80, .int .i64 0, .int .i64 0, .int .i64 0] 30))
            have HV8a : Hid ((w8.alloc (.cells #[.int .i64 mc, .int .i64 (ms - 1), .bool false, .int .i64 80, .int .i64 0, .int .i64 0, .int .i64 0] 30)).heap[V]? = some (.cells #[.int .i64 mc, .int .i64 (ms - 1), .bool false, .int .i64 80, .int .i64 0, .int .i64 0, .int .i64 0] 30 (0, 0))) := (Below.heap_alloc _ _ _ (Array.getElem?_eq_some_iff.1 HV8.out).1).trans HV8.out
            have HM8a := hide (HM8.out.below (Below.alloc (Below.refl _ _) (Nat.le_refl _) (.cells #[.int .i64 mc, .int .i64 (ms - 1), .bool false, .int .i64 80, .int .i64 0, .int .i64 0, .int .i64 0] 30)))
            clear hb8 FI HBt HVt HMt HB8 HV8 HM8
            go_wp2_with fail
            refine (check_any HM8a.out).mono ?_
            rintro e w9 ⟨rfl, hb9⟩
            rw [check_ok HRt.out]
            have HB9 : Hid (Below w.heap.size w w9) := HB8a.out.trans (hb9.mono HB8a.out.size)
            have HV9 : Hid (w9.heap[V]? = some (.cells #[.int .i64 mc, .int .i64 (ms - 1), .bool false, .int .i64 80, .int .i64 0, .int .i64 0, .int .i64 0] 30 (0, 0))) := (hb9.block _ (Array.getElem?_eq_some_iff.1 HV8a.out).1).trans HV8a.out
            have HY9 : Hid (w9.heap[w8.heap.size]? = some (.cells #[.int .i64 mc, .int .i64 (ms - 1), .bool false, .int .i64 80, .int .i64 0, .int .i64 0, .int .i64 0] 30 (0, 0))) := (hb9.block _ (by simp)).trans (heap_alloc_new w8 _)
            have HM9 := hide (HM8a.out.below hb9)
            obtain ⟨x0, x1, x2, x3, x4, x5, x6⟩ := mk_row ⟨mc, (ms - 1), false, ⟨80, 0, 0, 0⟩⟩ HV9.out
            obtain ⟨y0, y1, y2, y3, y4, y5, y6⟩ := mk_row ⟨mc, (ms - 1), false, ⟨80, 0, 0, 0⟩⟩ HY9.out
            simp only [Nat.zero_add] at x0 x1 x2 x3 x4 x5 x6 y0 y1 y2 y3 y4 y5 y6
            clear hb9 HB8a HV8a HM8a HY9
            have HMM9 : Hid ((⟨mc, (ms - 1), false, ⟨80, 0, 0, 0⟩⟩ : Mk) = (lkM LL mc).getD mk0) := by show _ = _; rw [HLt.out]; rfl
            go_wp2_with fail
            go_roundw
            case rel => exact ⟨k + 1, LL, ⟨mc, (ms - 1), false, ⟨80, 0, 0, 0⟩⟩, _, _, _, by omega, rfl, by go_num, HB9, HV9, HM9, HOt, HRt, HMM9⟩
            case measure => simp [intOf]; omega
          · have e0 : loseL L c gs = [] := by unfold loseL; rw [if_neg hop]
            rw [e0] at LO
            have OF := open_facts HR.out HC.out HMM.out hop
            simp only at OF
            obtain ⟨r, er⟩ : ∃ r, r = openE L c gs := ⟨_, rfl⟩
            rw [← er] at LO hop
            clear er e0
            have hr1 : (r == 0) = false := by simpa using hop
            have hr2 : (r != 0) = true := by simpa using hop
            rcases OF with rfl | ⟨rfl, hms⟩
            · go_wp2_with fail
              refine LO.out.mono ?_
              rintro e w6 ⟨a6, n6, c6, rfl, hm6, hb6, hf6⟩
              obtain rfl : n6 = 0 := hm6.len.symm
              have HB6 : Hid (Below w.heap.size w w6) := HBg.out.trans (hb6.mono HBg.out.size)
              have HU6 : Hid (w6.heap[wr.heap.size]? = some (.cells #[.int .i64 2, .int .i64 gs, .int .i64 ge, .int .i64 gv, .int .i64 gl, .int .i64 gh] 34 (0, 0))) := (hb6.block _ (by simp)).trans HUg.out
              have HV6 : Hid (w6.heap[V]? = some (.cells #[.int .i64 mc, .int .i64 ms, .bool false, .int .i64 me, .int .i64 mv, .int .i64 ml, .int .i64 mh] 30 (0, 0))) := (hb6.block _ hVg).trans HVg.out
              have hs6 : wr.heap.size < w6.heap.size := (Array.getElem?_eq_some_iff.1 HU6.out).1
              have HL6 := hide (HMg.out.below hb6)
              have u0 : w6.cell? ⟨wr.heap.size, 0, none⟩ = some (.int .i64 2) := by rw [cell_of_row _ _ _ _ _ _ HU6.out]; rfl
              have u1 : w6.cell? ⟨wr.heap.size, 1, none⟩ = some (.int .i64 gs) := by rw [cell_of_row _ _ _ _ _ _ HU6.out]; rfl
              have u2 : w6.cell? ⟨wr.heap.size, 2, none⟩ = some (.int .i64 ge) := by rw [cell_of_row _ _ _ _ _ _ HU6.out]; rfl
              have u3 : w6.cell? ⟨wr.heap.size, 3, none⟩ = some (.int .i64 gv) := by rw [cell_of_row _ _ _ _ _ _ HU6.out]; rfl
              have u4 : w6.cell? ⟨wr.heap.size, 4, none⟩ = some (.int .i64 gl) := by rw [cell_of_row _ _ _ _ _ _ HU6.out]; rfl
              have u5 : w6.cell? ⟨wr.heap.size, 5, none⟩ = some (.int .i64 gh) := by rw [cell_of_row _ _ _ _ _ _ HU6.out]; rfl
              obtain ⟨m0', m1', m2', m3', m4', m5', m6'⟩ := mk_row ⟨mc, ms, false, ⟨me, mv, ml, mh⟩⟩ HV6.out
              simp only [Nat.zero_add] at m0' m1' m2' m3' m4' m5' m6'
              have mfz : ∀ o, w6.frozen? ⟨V, o, none⟩ = false := fun o => frozen_of_row _ _ _ _ _ HV6.out
              clear hb6 hm6 hf6 LO HMg HUg HVg HBg
              go_wp2_with fail
              go_roundw
              case rel => exact ⟨k + 1, L, _, _, _, _, by omega, rfl, by go_num, HB6, HV6, HL6, HO, HR, HMM⟩
              case measure => simp [intOf]; omega
            · have hms2 : (ms == gs) = false := by simpa using hms
              go_wp2_with fail
              refine LO.out.mono ?_
              rintro e w6 ⟨a6, n6, c6, rfl, hm6, hb6, hf6⟩
              obtain rfl : n6 = 0 := hm6.len.symm
              have HB6 : Hid (Below w.heap.size w w6) := HBg.out.trans (hb6.mono HBg.out.size)
              have HU6 : Hid (w6.heap[wr.heap.size]? = some (.cells #[.int .i64 2, .int .i64 gs, .int .i64 ge, .int .i64 gv, .int .i64 gl, .int .i64 gh] 34 (0, 0))) := (hb6.block _ (by simp)).trans HUg.out
              have HV6 : Hid (w6.heap[V]? = some (.cells #[.int .i64 mc, .int .i64 ms, .bool true, .int .i64 me, .int .i64 mv, .int .i64 ml, .int .i64 mh] 30 (0, 0))) := (hb6.block _ hVg).trans HVg.out
              have hs6 : wr.heap.size < w6.heap.size := (Array.getElem?_eq_some_iff.1 HU6.out).1
              have HL6 := hide (HMg.out.below hb6)
              have u0 : w6.cell? ⟨wr.heap.size, 0, none⟩ = some (.int .i64 2) := by rw [cell_of_row _ _ _ _ _ _ HU6.out]; rfl
              have u1 : w6.cell? ⟨wr.heap.size, 1, none⟩ = some (.int .i64 gs) := by rw [cell_of_row _ _ _ _ _ _ HU6.out]; rfl
              have u2 : w6.cell? ⟨wr.heap.size, 2, none⟩ = some (.int .i64 ge) := by rw [cell_of_row _ _ _ _ _ _ HU6.out]; rfl
              have u3 : w6.cell? ⟨wr.heap.size, 3, none⟩ = some (.int .i64 gv) := by rw [cell_of_row _ _ _ _ _ _ HU6.out]; rfl
              have u4 : w6.cell? ⟨wr.heap.size, 4, none⟩ = some (.int .i64 gl) := by rw [cell_of_row _ _ _ _ _ _ HU6.out]; rfl
              have u5 : w6.cell? ⟨wr.heap.size, 5, none⟩ = some (.int .i64 gh) := by rw [cell_of_row _ _ _ _ _ _ HU6.out]; rfl
              obtain ⟨m0', m1', m2', m3', m4', m5', m6'⟩ := mk_row ⟨mc, ms, true, ⟨me, mv, ml, mh⟩⟩ HV6.out
              simp only [Nat.zero_add] at m0' m1' m2' m3' m4' m5' m6'
              have mfz : ∀ o, w6.frozen? ⟨V, o, none⟩ = false := fun o => frozen_of_row _ _ _ _ _ HV6.out
              clear hb6 hm6 hf6 LO HMg HUg HVg HBg
              go_wp2_with fail
              go_roundw
              case rel => exact ⟨k + 1, L, _, _, _, _, by omega, rfl, by go_num, HB6, HV6, HL6, HO, HR, HMM⟩
              case measure => simp [intOf]; omega
        · have BE := hide (begin_anyF (cp := c1) (c := c) (q := gs) HMg.out)
          have BC := begin_cases (q := gs) HR.out HC.out HMM.out
          simp only at BC
          have hk1b : (gk == 1) = false := by simpa using hk1
          have hk2b : (gk == 2) = false := by simpa using hk2
          rcases BC with ⟨hqq, hE, hF⟩ | ⟨hqq, hlt2, hE, hF⟩ | ⟨hqq, rfl, hE, hF, hlk⟩ | ⟨hqq, hlt2, hE, hF⟩
          · by_cases hlow : gs < 1
            · have e0 : beginL L c gs = [] := by unfold beginL; rw [hE]; rfl
              rw [e0] at BE
              clear e0
              rw [hE, hF] at BE
              clear hE hF
              go_wp2_with fail
              refine BE.out.mono ?_
              rintro e w6 ⟨a6, n6, c6, rfl, hm6, hb6, hf6⟩
              obtain rfl : n6 = 0 := hm6.len.symm
              have HB6 : Hid (Below w.heap.size w w6) := HBg.out.trans (hb6.mono HBg.out.size)
              have HU6 : Hid (w6.heap[wr.heap.size]? = some (.cells #[.int .i64 gk, .int .i64 gs, .int .i64 ge, .int .i64 gv, .int .i64 gl, .int .i64 gh] 34 (0, 0))) := (hb6.block _ (by simp)).trans HUg.out
              have HV6 : Hid (w6.heap[V]? = some (.cells #[.int .i64 mc, .int .i64 ms, .bool mo, .int .i64 me, .int .i64 mv, .int .i64 ml, .int .i64 mh] 30 (0, 0))) := (hb6.block _ hVg).trans HVg.out
              have hs6 : wr.heap.size < w6.heap.size := (Array.getElem?_eq_some_iff.1 HU6.out).1
              have HL6 := hide (HMg.out.below hb6)
              have u0 : w6.cell? ⟨wr.heap.size, 0, none⟩ = some (.int .i64 gk) := by rw [cell_of_row _ _ _ _ _ _ HU6.out]; rfl
              have u1 : w6.cell? ⟨wr.heap.size, 1, none⟩ = some (.int .i64 gs) := by rw [cell_of_row _ _ _ _ _ _ HU6.out]; rfl
              have u2 : w6.cell? ⟨wr.heap.size, 2, none⟩ = some (.int .i64 ge) := by rw [cell_of_row _ _ _ _ _ _ HU6.out]; rfl
              have u3 : w6.cell? ⟨wr.heap.size, 3, none⟩ = some (.int .i64 gv) := by rw [cell_of_row _ _ _ _ _ _ HU6.out]; rfl
              have u4 : w6.cell? ⟨wr.heap.size, 4, none⟩ = some (.int .i64 gl) := by rw [cell_of_row _ _ _ _ _ _ HU6.out]; rfl
              have u5 : w6.cell? ⟨wr.heap.size, 5, none⟩ = some (.int .i64 gh) := by rw [cell_of_row _ _ _ _ _ _ HU6.out]; rfl
              obtain ⟨m0', m1', m2', m3', m4', m5', m6'⟩ := mk_row ⟨mc, ms, mo, ⟨me, mv, ml, mh⟩⟩ HV6.out
              simp only [Nat.zero_add] at m0' m1' m2' m3' m4' m5' m6'
              have mfz : ∀ o, w6.frozen? ⟨V, o, none⟩ = false := fun o => frozen_of_row _ _ _ _ _ HV6.out
              clear hb6 hm6 hf6 BE HMg HUg HVg HBg
              go_wp2_with fail
              go_roundw
              case rel => exact ⟨k + 1, L, _, _, _, _, by omega, rfl, by go_num, HB6, HV6, HL6, HO, HR, HMM⟩
              case measure => simp [intOf]; omega
            · have hhi : 4611686018427387904 < gs := by omega
              have e0 : beginL L c gs = [] := by unfold beginL; rw [hE]; rfl
              rw [e0] at BE
              clear e0
              rw [hE, hF] at BE
              clear hE hF
              go_wp2_with fail
              refine BE.out.mono ?_
              rintro e w6 ⟨a6, n6, c6, rfl, hm6, hb6, hf6⟩
              obtain rfl : n6 = 0 := hm6.len.symm
              have HB6 : Hid (Below w.heap.size w w6) := HBg.out.trans (hb6.mono HBg.out.size)
              have HU6 : Hid (w6.heap[wr.heap.size]? = some (.cells #[.int .i64 gk, .int .i64 gs, .int .i64 ge, .int .i64 gv, .int .i64 gl, .int .i64 gh] 34 (0, 0))) := (hb6.block _ (by simp)).trans HUg.out
              have HV6 : Hid (w6.heap[V]? = some (.cells #[.int .i64 mc, .int .i64 ms, .bool mo, .int .i64 me, .int .i64 mv, .int .i64 ml, .int .i64 mh] 30 (0, 0))) := (hb6.block _ hVg).trans HVg.out
              have hs6 : wr.heap.size < w6.heap.size := (Array.getElem?_eq_some_iff.1 HU6.out).1
              have HL6 := hide (HMg.out.below hb6)
              have u0 : w6.cell? ⟨wr.heap.size, 0, none⟩ = some (.int .i64 gk) := by rw [cell_of_row _ _ _ _ _ _ HU6.out]; rfl
              have u1 : w6.cell? ⟨wr.heap.size, 1, none⟩ = some (.int .i64 gs) := by rw [cell_of_row _ _ _ _ _ _ HU6.out]; rfl
              have u2 : w6.cell? ⟨wr.heap.size, 2, none⟩ = some (.int .i64 ge) := by rw [cell_of_row _ _ _ _ _ _ HU6.out]; rfl
              have u3 : w6.cell? ⟨wr.heap.size, 3, none⟩ = some (.int .i64 gv) := by rw [cell_of_row _ _ _ _ _ _ HU6.out]; rfl
              have u4 : w6.cell? ⟨wr.heap.size, 4, none⟩ = some (.int .i64 gl) := by rw [cell_of_row _ _ _ _ _ _ HU6.out]; rfl
              have u5 : w6.cell? ⟨wr.heap.size, 5, none⟩ = some (.int .i64 gh) := by rw [cell_of_row _ _ _ _ _ _ HU6.out]; rfl
              obtain ⟨m0', m1', m2', m3', m4', m5', m6'⟩ := mk_row ⟨mc, ms, mo, ⟨me, mv, ml, mh⟩⟩ HV6.out
              simp only [Nat.zero_add] at m0' m1' m2' m3' m4' m5' m6'
              have mfz : ∀ o, w6.frozen? ⟨V, o, none⟩ = false := fun o => frozen_of_row _ _ _ _ _ HV6.out
              clear hb6 hm6 hf6 BE HMg HUg HVg HBg
              go_wp2_with fail
              go_roundw
              case rel => exact ⟨k + 1, L, _, _, _, _, by omega, rfl, by go_num, HB6, HV6, HL6, HO, HR, HMM⟩
              case measure => simp [intOf]; omega
          · obtain ⟨LL, eLL⟩ : ∃ LL, LL = beginL L c gs := ⟨_, rfl⟩
            obtain ⟨_, _, _, _, eB, hmO⟩ := fresh_of hF
            have HRt : Hid (Right LL) := by rw [eLL, eB]; exact right_with HR.out hmO
            have HLt : Hid (lkM LL c = some ⟨c, gs, true, ⟨0, 0, 0, 0⟩⟩) := by show _ = _; rw [eLL, eB]; exact lk_with_same HR.out hmO
            obtain ⟨hq1, hq2⟩ := hqq
            have hle : ms ≤ gs := by omega
            rw [← eLL] at BE
            clear eLL eB hmO
            rw [hE, hF] at BE
            clear hE hF
            go_wp2_with fail
            refine BE.out.mono ?_
            rintro e w6 ⟨a6, n6, c6, rfl, hm6, hb6, hf6⟩
            have HM6 := hide hm6
            have HOt : Hid (Off V n6 a6) := off_new hf6 hVg
            have HB6 : Hid (Below w.heap.size w w6) := HBg.out.trans (hb6.mono HBg.out.size)
            have HU6 : Hid (w6.heap[wr.heap.size]? = some (.cells #[.int .i64 gk, .int .i64 gs, .int .i64 ge, .int .i64 gv, .int .i64 gl, .int .i64 gh] 34 (0, 0))) := (hb6.block _ (by simp)).trans HUg.out
            have HV6 : Hid (w6.heap[V]? = some (.cells #[.int .i64 mc, .int .i64 ms, .bool mo, .int .i64 me, .int .i64 mv, .int .i64 ml, .int .i64 mh] 30 (0, 0))) := (hb6.block _ hVg).trans HVg.out
            have hs6 : wr.heap.size < w6.heap.size := (Array.getElem?_eq_some_iff.1 HU6.out).1
            have HL6 := hide (HMg.out.below hb6)
            have u0 : w6.cell? ⟨wr.heap.size, 0, none⟩ = some (.int .i64 gk) := by rw [cell_of_row _ _ _ _ _ _ HU6.out]; rfl
            have u1 : w6.cell? ⟨wr.heap.size, 1, none⟩ = some (.int .i64 gs) := by rw [cell_of_row _ _ _ _ _ _ HU6.out]; rfl
            have u2 : w6.cell? ⟨wr.heap.size, 2, none⟩ = some (.int .i64 ge) := by rw [cell_of_row _ _ _ _ _ _ HU6.out]; rfl
            have u3 : w6.cell? ⟨wr.heap.size, 3, none⟩ = some (.int .i64 gv) := by rw [cell_of_row _ _ _ _ _ _ HU6.out]; rfl
            have u4 : w6.cell? ⟨wr.heap.size, 4, none⟩ = some (.int .i64 gl) := by rw [cell_of_row _ _ _ _ _ _ HU6.out]; rfl
            have u5 : w6.cell? ⟨wr.heap.size, 5, none⟩ = some (.int .i64 gh) := by rw [cell_of_row _ _ _ _ _ _ HU6.out]; rfl
            obtain ⟨m0', m1', m2', m3', m4', m5', m6'⟩ := mk_row ⟨mc, ms, mo, ⟨me, mv, ml, mh⟩⟩ HV6.out
            simp only [Nat.zero_add] at m0' m1' m2' m3' m4' m5' m6'
            have mfz : ∀ o, w6.frozen? ⟨V, o, none⟩ = false := fun o => frozen_of_row _ _ _ _ _ HV6.out
            clear hb6 hm6 hf6 BE HL6 HMg HUg HVg HBg
            obtain ⟨w7, e7⟩ : ∃ w7, w7 = w6.setRow V #[.int .i64 c, .int .i64 gs, .bool true, .int .i64 0, .int .i64 0, .int .i64 0, .int .i64 0] := ⟨_, rfl⟩
            have HVt : Hid (w7.heap[V]? = some (.cells #[.int .i64 c, .int .i64 gs, .bool true, .int .i64 0, .int .i64 0, .int .i64 0, .int .i64 0] 30 (0, 0))) := by show _ = _; rw [e7]; exact setRow_heap _ _ _ _ _ _ HV6.out
            have HBt : Hid (Below w.heap.size w w7) := by rw [e7]; exact below_setRow HB6.out hwV _
            have HMt : Hid (Ms w7 a6 n6 LL) := ms_keep HM6.out HOt.out (by rw [e7]; simp [World.setRow]) (fun j _ hj => by rw [e7]; exact setRow_other _ _ _ _ hj)
            have E7 := hide e7
            clear e7
            go_wp2_with (refine wpList_store_row rfl 30 (.tmp 7) (.tmp 95) rfl V #[.int .i64 c, .int .i64 gs, .bool true, .int .i64 0, .int .i64 0, .int .i64 0, .int .i64 0] rfl rfl 30 #[.int .i64 mc, .int .i64 ms, .bool mo, .int .i64 me, .int .i64 mv, .int .i64 ml, .int .i64 mh] HV6.out FnM.size_info rfl (by simp [Value.oneCell']) ?_; rw [← E7.out])
            clear u0 u1 u2 u3 u4 u5 m0' m1' m2' m3' m4' m5' m6' mfz HV6 HU6 HB6 HM6 E7
            have FI := hide (find_any (cp := c6) (c := c) HMt.out)
            rw [find_ok HRt.out, HLt.out] at FI
            unfold mval at FI
            simp only [Option.getD_some, Option.isSome_some] at FI
            go_wp2_with fail
            refine FI.out.mono ?_
            rintro e w8 ⟨rfl, hb8⟩
            have HB8 : Hid (Below w.heap.size w w8) := HBt.out.trans (hb8.mono HBt.out.size)
            have HV8 : Hid (w8.heap[V]? = some (.cells #[.int .i64 c, .int .i64 gs, .bool true, .int .i64 0, .int .i64 0, .int .i64 0, .int .i64 0] 30 (0, 0))) := (hb8.block _ (Array.getElem?_eq_some_iff.1 HVt.out).1).trans HVt.out
            have HM8 := hide (HMt.out.below hb8)
            have HB8a := hide (HB8.out.alloc HB8.out.size (.cells #[.int .i64 c, .int .i64 gs, .bool true, .int .i64 0, .int .i64 0, .int .i64 0, .int .i64 0] 30))
            have HV8a : Hid ((w8.alloc (.cells #[.int .i64 c, .int .i64 gs, .bool true, .int .i64 0, .int .i64 0, .int .i64 0, .int .i64 0] 30)).heap[V]? = some (.cells #[.int .i64 c, .int .i64 gs, .bool true, .int .i64 0, .int .i64 0, .int .i64 0, .int .i64 0] 30 (0, 0))) := (Below.heap_alloc _ _ _ (Array.getElem?_eq_some_iff.1 HV8.out).1).trans HV8.out
            have HM8a := hide (HM8.out.below (Below.alloc (Below.refl _ _) (Nat.le_refl _) (.cells #[.int .i64 c, .int .i64 gs, .bool true, .int .i64 0, .int .i64 0, .int .i64 0, .int .i64 0] 30)))
            clear hb8 FI HBt HVt HMt HB8 HV8 HM8
            go_wp2_with fail
            refine (check_any HM8a.out).mono ?_
            rintro e w9 ⟨rfl, hb9⟩
            rw [check_ok HRt.out]
            have HB9 : Hid (Below w.heap.size w w9) := HB8a.out.trans (hb9.mono HB8a.out.size)
            have HV9 : Hid (w9.heap[V]? = some (.cells #[.int .i64 c, .int .i64 gs, .bool true, .int .i64 0, .int .i64 0, .int .i64 0, .int .i64 0] 30 (0, 0))) := (hb9.block _ (Array.getElem?_eq_some_iff.1 HV8a.out).1).trans HV8a.out
            have HY9 : Hid (w9.heap[w8.heap.size]? = some (.cells #[.int .i64 c, .int .i64 gs, .bool true, .int .i64 0, .int .i64 0, .int .i64 0, .int .i64 0] 30 (0, 0))) := (hb9.block _ (by simp)).trans (heap_alloc_new w8 _)
            have HM9 := hide (HM8a.out.below hb9)
            obtain ⟨x0, x1, x2, x3, x4, x5, x6⟩ := mk_row ⟨c, gs, true, ⟨0, 0, 0, 0⟩⟩ HV9.out
            obtain ⟨y0, y1, y2, y3, y4, y5, y6⟩ := mk_row ⟨c, gs, true, ⟨0, 0, 0, 0⟩⟩ HY9.out
            simp only [Nat.zero_add] at x0 x1 x2 x3 x4 x5 x6 y0 y1 y2 y3 y4 y5 y6
            clear hb9 HB8a HV8a HM8a HY9
            have HMM9 : Hid ((⟨c, gs, true, ⟨0, 0, 0, 0⟩⟩ : Mk) = (lkM LL c).getD mk0) := by show _ = _; rw [HLt.out]; rfl
            go_wp2_with fail
            go_roundw
            case rel => exact ⟨k + 1, LL, ⟨c, gs, true, ⟨0, 0, 0, 0⟩⟩, _, _, _, by omega, rfl, by go_num, HB9, HV9, HM9, HOt, HRt, HMM9⟩
            case measure => simp [intOf]; omega
          · obtain ⟨LL, eLL⟩ : ∃ LL, LL = beginL L c ms := ⟨_, rfl⟩
            have eB : LL = L := by rw [eLL]; unfold beginL; rw [hE, hF]; rfl
            have HRt : Hid (Right LL) := by rw [eB]; exact HR.out
            have HLt : Hid (lkM LL c = some ⟨mc, ms, mo, ⟨me, mv, ml, mh⟩⟩) := by show _ = _; rw [eB]; exact hlk
            obtain ⟨hq1, hq2⟩ := hqq
            rw [← eLL] at BE
            clear eLL eB hlk
            rw [hE, hF] at BE
            clear hE hF
            go_wp2_with fail
            refine BE.out.mono ?_
            rintro e w6 ⟨a6, n6, c6, rfl, hm6, hb6, hf6⟩
            have HMt := hide hm6
            have HOt : Hid (Off V n6 a6) := off_new hf6 hVg
            have HB6 : Hid (Below w.heap.size w w6) := HBg.out.trans (hb6.mono HBg.out.size)
            have HU6 : Hid (w6.heap[wr.heap.size]? = some (.cells #[.int .i64 gk, .int .i64 ms, .int .i64 ge, .int .i64 gv, .int .i64 gl, .int .i64 gh] 34 (0, 0))) := (hb6.block _ (by simp)).trans HUg.out
            have HV6 : Hid (w6.heap[V]? = some (.cells #[.int .i64 mc, .int .i64 ms, .bool mo, .int .i64 me, .int .i64 mv, .int .i64 ml, .int .i64 mh] 30 (0, 0))) := (hb6.block _ hVg).trans HVg.out
            have hs6 : wr.heap.size < w6.heap.size := (Array.getElem?_eq_some_iff.1 HU6.out).1
            have HL6 := hide (HMg.out.below hb6)
            have u0 : w6.cell? ⟨wr.heap.size, 0, none⟩ = some (.int .i64 gk) := by rw [cell_of_row _ _ _ _ _ _ HU6.out]; rfl
            have u1 : w6.cell? ⟨wr.heap.size, 1, none⟩ = some (.int .i64 ms) := by rw [cell_of_row _ _ _ _ _ _ HU6.out]; rfl
            have u2 : w6.cell? ⟨wr.heap.size, 2, none⟩ = some (.int .i64 ge) := by rw [cell_of_row _ _ _ _ _ _ HU6.out]; rfl
            have u3 : w6.cell? ⟨wr.heap.size, 3, none⟩ = some (.int .i64 gv) := by rw [cell_of_row _ _ _ _ _ _ HU6.out]; rfl
            have u4 : w6.cell? ⟨wr.heap.size, 4, none⟩ = some (.int .i64 gl) := by rw [cell_of_row _ _ _ _ _ _ HU6.out]; rfl
            have u5 : w6.cell? ⟨wr.heap.size, 5, none⟩ = some (.int .i64 gh) := by rw [cell_of_row _ _ _ _ _ _ HU6.out]; rfl
            obtain ⟨m0', m1', m2', m3', m4', m5', m6'⟩ := mk_row ⟨mc, ms, mo, ⟨me, mv, ml, mh⟩⟩ HV6.out
            simp only [Nat.zero_add] at m0' m1' m2' m3' m4' m5' m6'
            have mfz : ∀ o, w6.frozen? ⟨V, o, none⟩ = false := fun o => frozen_of_row _ _ _ _ _ HV6.out
            have HBt := HB6
            have HVt := HV6
            clear hb6 hm6 hf6 BE HL6 HMg HUg HVg HBg
            clear HM HO HR HMM
            have FI := hide (find_any (cp := c6) (c := c) HMt.out)
            rw [find_ok HRt.out, HLt.out] at FI
            unfold mval at FI
            simp only [Option.getD_some, Option.isSome_some] at FI
            go_wp2_with fail
            refine FI.out.mono ?_
            rintro e w8 ⟨rfl, hb8⟩
            have HB8 : Hid (Below w.heap.size w w8) := HBt.out.trans (hb8.mono HBt.out.size)
            have HV8 : Hid (w8.heap[V]? = some (.cells #[.int .i64 mc, .int .i64 ms, .bool mo, .int .i64 me, .int .i64 mv, .int .i64 ml, .int .i64 mh] 30 (0, 0))) := (hb8.block _ (Array.getElem?_eq_some_iff.1 HVt.out).1).trans HVt.out
            have HM8 := hide (HMt.out.below hb8)
            have HB8a := hide (HB8.out.alloc HB8.out.size (.cells #[.int .i64 mc, .int .i64 ms, .bool mo, .int .i64 me, .int .i64 mv, .int .i64 ml, .int .i64 mh] 30))
            have HV8a : Hid ((w8.alloc (.cells #[.int .i64 mc, .int .i64 ms, .bool mo, .int .i64 me, .int .i64 mv, .int .i64 ml, .int .i64 mh] 30)).heap[V]? = some (.cells #[.int .i64 mc, .int .i64 ms, .bool mo, .int .i64 me, .int .i64 mv, .int .i64 ml, .int .i64 mh] 30 (0, 0))) := (Below.heap_alloc _ _ _ (Array.getElem?_eq_some_iff.1 HV8.out).1).trans HV8.out
            have HM8a := hide (HM8.out.below (Below.alloc (Below.refl _ _) (Nat.le_refl _) (.cells #[.int .i64 mc, .int .i64 ms, .bool mo, .int .i64 me, .int .i64 mv, .int .i64 ml, .int .i64 mh] 30)))
            clear hb8 FI HBt HVt HMt HB8 HV8 HM8
            go_wp2_with fail
            refine (check_any HM8a.out).mono ?_
            rintro e w9 ⟨rfl, hb9⟩
            rw [check_ok HRt.out]
            have HB9 : Hid (Below w.heap.size w w9) := HB8a.out.trans (hb9.mono HB8a.out.size)
            have HV9 : Hid (w9.heap[V]? = some (.cells #[.int .i64 mc, .int .i64 ms, .bool mo, .int .i64 me, .int .i64 mv, .int .i64 ml, .int .i64 mh] 30 (0, 0))) := (hb9.block _ (Array.getElem?_eq_some_iff.1 HV8a.out).1).trans HV8a.out
            have HY9 : Hid (w9.heap[w8.heap.size]? = some (.cells #[.int .i64 mc, .int .i64 ms, .bool mo, .int .i64 me, .int .i64 mv, .int .i64 ml, .int .i64 mh] 30 (0, 0))) := (hb9.block _ (by simp)).trans (heap_alloc_new w8 _)
            have HM9 := hide (HM8a.out.below hb9)
            obtain ⟨x0, x1, x2, x3, x4, x5, x6⟩ := mk_row ⟨mc, ms, mo, ⟨me, mv, ml, mh⟩⟩ HV9.out
            obtain ⟨y0, y1, y2, y3, y4, y5, y6⟩ := mk_row ⟨mc, ms, mo, ⟨me, mv, ml, mh⟩⟩ HY9.out
            simp only [Nat.zero_add] at x0 x1 x2 x3 x4 x5 x6 y0 y1 y2 y3 y4 y5 y6
            clear hb9 HB8a HV8a HM8a HY9
            have HMM9 : Hid ((⟨mc, ms, mo, ⟨me, mv, ml, mh⟩⟩ : Mk) = (lkM LL c).getD mk0) := by show _ = _; rw [HLt.out]; rfl
            go_wp2_with fail
            go_roundw
            case rel => exact ⟨k + 1, LL, ⟨mc, ms, mo, ⟨me, mv, ml, mh⟩⟩, _, _, _, by omega, rfl, by go_num, HB9, HV9, HM9, HOt, HRt, HMM9⟩
            case measure => simp [intOf]; omega
          · obtain ⟨hq1, hq2⟩ := hqq
            have hle : ¬ ms ≤ gs := by omega
            have hle2 : ¬ ms < gs := by omega
            have e0 : beginL L c gs = [] := by unfold beginL; rw [hE]; rfl
            rw [e0] at BE
            clear e0
            rw [hE, hF] at BE
            clear hE hF
            go_wp2_with fail
            refine BE.out.mono ?_
            rintro e w6 ⟨a6, n6, c6, rfl, hm6, hb6, hf6⟩
            obtain rfl : n6 = 0 := hm6.len.symm
            have HB6 : Hid (Below w.heap.size w w6) := HBg.out.trans (hb6.mono HBg.out.size)
            have HU6 : Hid (w6.heap[wr.heap.size]? = some (.cells #[.int .i64 gk, .int .i64 gs, .int .i64 ge, .int .i64 gv, .int .i64 gl, .int .i64 gh] 34 (0, 0))) := (hb6.block _ (by simp)).trans HUg.out
            have HV6 : Hid (w6.heap[V]? = some (.cells #[.int .i64 mc, .int .i64 ms, .bool mo, .int .i64 me, .int .i64 mv, .int .i64 ml, .int .i64 mh] 30 (0, 0))) := (hb6.block _ hVg).trans HVg.out
            have hs6 : wr.heap.size < w6.heap.size := (Array.getElem?_eq_some_iff.1 HU6.out).1
            have HL6 := hide (HMg.out.below hb6)
            have u0 : w6.cell? ⟨wr.heap.size, 0, none⟩ = some (.int .i64 gk) := by rw [cell_of_row _ _ _ _ _ _ HU6.out]; rfl
            have u1 : w6.cell? ⟨wr.heap.size, 1, none⟩ = some (.int .i64 gs) := by rw [cell_of_row _ _ _ _ _ _ HU6.out]; rfl
            have u2 : w6.cell? ⟨wr.heap.size, 2, none⟩ = some (.int .i64 ge) := by rw [cell_of_row _ _ _ _ _ _ HU6.out]; rfl
            have u3 : w6.cell? ⟨wr.heap.size, 3, none⟩ = some (.int .i64 gv) := by rw [cell_of_row _ _ _ _ _ _ HU6.out]; rfl
            have u4 : w6.cell? ⟨wr.heap.size, 4, none⟩ = some (.int .i64 gl) := by rw [cell_of_row _ _ _ _ _ _ HU6.out]; rfl
            have u5 : w6.cell? ⟨wr.heap.size, 5, none⟩ = some (.int .i64 gh) := by rw [cell_of_row _ _ _ _ _ _ HU6.out]; rfl
            obtain ⟨m0', m1', m2', m3', m4', m5', m6'⟩ := mk_row ⟨mc, ms, mo, ⟨me, mv, ml, mh⟩⟩ HV6.out
            simp only [Nat.zero_add] at m0' m1' m2' m3' m4' m5' m6'
            have mfz : ∀ o, w6.frozen? ⟨V, o, none⟩ = false := fun o => frozen_of_row _ _ _ _ _ HV6.out
            clear hb6 hm6 hf6 BE HMg HUg HVg HBg
            go_wp2_with fail
            go_roundw
            case rel => exact ⟨k + 1, L, _, _, _, _, by omega, rfl, by go_num, HB6, HV6, HL6, HO, HR, HMM⟩
            case measure => simp [intOf]; omega
    · obtain rfl : k = n' := by omega
      go_wp2_with fail
      go_returns
      exact ⟨rfl, HB.out⟩
theorem walk {w : World} {a a' : Option Addr} {n cp n' cp' : Nat} {l : List Mk} {c : Int} {q : List Gq} (h : Ms w a n l) (h' : Rl genc 6 48 w a' n' q) :
    Calls Try.prog 3 #[.slice a n cp, .int .i64 c, .slice a' n' cp'] w fun e w' => e = .returned (.bool true) ∧ Below w.heap.size w w' := by
  cases hq : rightB 0 l with
  | false => exact walk_no h h' hq
  | true =>
    by_cases h1 : c < 1
    · exact walk_low h h' hq h1
    · by_cases h2 : 8 < c
      · exact walk_high h h' hq h1 h2
      · exact walk_yes h h' hq ⟨by omega, by omega⟩

set_option maxRecDepth 100000 in
theorem lifted (os : Os) (started : os.Started) (H : Type) (enc : TypeId × Value → H) :
    ReturnsInHanded {} Try.checked os 3 .any (Rows.sessionWalksSpec.pre6 enc Try.prog Try.f3 Rows.sessionWalksRow.domain false) (Rows.sessionWalksSpec.post enc Try.prog Try.f3 false true false false) := by
  refine returnsInHanded_of_change_sized (C := Try.checked) own started (by kernel_rfl) Try.func3
    (ChangeSpec.witness6 (enc := enc) (C := Try.checked) false ⟨#[], #[.slice none 0 0, .int .i64 0, .slice none 0 0], []⟩ 8 (by kernel_rfl) (by kernel_rfl) (by kernel_rfl) (by kernel_rfl)) ?_
  intro W base args ds gs before hval0 hW hcnd hsz0 _
  have hsz : (DataW.weightsEach Try.prog (Try.f3.params.toList ++ Rows.sessionWalksSpec.plain.varTypes Try.prog) (ds ++ gs)).all (· ≤ reachBytes) = true := hsz0
  have hval : ∀ (j : Nat) t v, Try.f3.params[j]? = some t → args[j]? = some v → Value.okWide Try.prog W .any base t v := hval0
  have hW' := hW
  obtain ⟨p, q, hA0, hV, rfl, hfz, hnd⟩ := hW
  have hA : DataW.TrodAll enc Try.prog W 0 (fun _ => true) true Try.f3.params.toList args.toList ds p := hA0
  rw [Try.params3] at hA hval hsz
  obtain ⟨v0, vs0, d0, ds0, p0, q0, hargs, rfl, rfl, h0, r0⟩ := trodAll_cons hA
  obtain ⟨v1, vs1, d1, ds1, p1, q1, rfl, rfl, rfl, h1, r1⟩ := trodAll_cons r0
  obtain ⟨v2, vs2, d2, ds2, p2, q2, rfl, rfl, rfl, h2, r2⟩ := trodAll_cons r1
  obtain ⟨rfl, rfl, rfl⟩ := trodAll_nil r2
  obtain rfl : args = #[v0, v1, v2] := by cases args; simp_all
  obtain ⟨rfl, rfl⟩ := trodVars_none hV
  have lt0 : ∀ x ∈ p0, x.block < W.heap.size := by obtain ⟨m, hm⟩ := h0; exact DataW.trod_lt m _ _ _ hm
  obtain ⟨a, n, cp, l, rfl, k0, o0⟩ := open_marks_held (hval 0 22 v0 rfl rfl) h0 (fun n hn => by have h := List.all_eq_true.1 hsz n (DataW.weights_mem_each (j := 0) rfl rfl n hn); simpa using h)
  have lt1 : ∀ x ∈ p1, x.block < W.heap.size := by obtain ⟨m, hm⟩ := h1; exact DataW.trod_lt m _ _ _ hm
  obtain ⟨c, rfl, hc⟩ := open_i64 (hval 1 3 v1 rfl rfl) h1
  have lt2 : ∀ x ∈ p2, x.block < W.heap.size := by obtain ⟨m, hm⟩ := h2; exact DataW.trod_lt m _ _ _ hm
  obtain ⟨a', n', cp', q, rfl, k1⟩ := open_gos_held (hval 2 23 v2 rfl rfl) h2 (fun n hn => by have h := List.all_eq_true.1 hsz n (DataW.weights_mem_each (j := 2) rfl rfl n hn); simpa using h)
  clear hA0 hval0
  refine (walk k0 k1).mono fun e W' ⟨he, bel⟩ => ?_
  subst he
  exact ⟨_, rfl, _, _, _, [], _, [], hW', trodAll_mk1 (shut_bool Try.underlying4 _), (trodAll_cons_mk (Below.trod laidOut (by kernel_rfl) (of_decide_eq_true (by kernel_rfl)) h0 bel lt0) (trodAll_cons_mk (Below.trod laidOut (by kernel_rfl) (of_decide_eq_true (by kernel_rfl)) h1 bel lt1) (trodAll_cons_mk (Below.trod laidOut (by kernel_rfl) (of_decide_eq_true (by kernel_rfl)) h2 bel lt2) trodAll_mk0))), rfl, bel.frame _, fun h => by cases h⟩

theorem over : Rows.sessionWalksRow.holds Try.pinned (OpenSpec.ofChange Rows.sessionWalksSpec) :=
  OpenClaim.holds_of_wide 3 Try.f3 rfl rfl rfl rfl rfl rfl rfl ⟨rfl, rfl, rfl, rfl, rfl⟩ rfl rfl rfl rfl rfl (by kernel_rfl) Try.func3 (by kernel_rfl)
    (of_decide_eq_true (by kernel_rfl)) (by unfold Func.isWrapper; first | (rw [if_pos (by decide +kernel)]; kernel_rfl) | (rw [if_neg (by decide +kernel)]; exact ⟨rfl, rfl⟩))
    (fun os started H enc _ => lifted os started H enc)

theorem proved : Rows.SessionWalksSaid := over
#print axioms proved
end SessionWalks
theorem sessionWalks_holds : Rows.SessionWalksSaid := SessionWalks.proved
end Go.Proofs.Ytbeikdppcfpplab
