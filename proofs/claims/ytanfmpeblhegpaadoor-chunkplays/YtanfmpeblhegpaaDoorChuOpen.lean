/- Pieces that came in; the law folder's awake. No condition but the table. -/
import Derived.Test.YtanfmpeblhegpaaDoorChuCut
import Derived.Test.YtanfmpeblhegpaaDoorChuDone
import Derived.Test.YtanfmpeblhegpaaDoorReadRow
import Derived.Test.YtanfmpeblhegpaaDoorRows
namespace Go.Proofs.YtanfmpeblhegpaaDoor
open Go.ChangeShapes Go.WideShapes Go.ChangeAt Go.RowKit B8 Ck
set_option linter.unusedVariables false

theorem own : ownKnob Tryd.prog.godebug = none := by kernel_rfl
theorem laidOut : laidOutB Tryd.prog = true := by kernel_rfl
set_option maxRecDepth 100000 in
theorem open_i64 {H : Type} {enc : TypeId × Value → H} {W : World} {r : Reach} {base b0 : Nat} {sp : Nat → Bool} {held : Bool} {v : Value} {d : DataW H} {p : List MemPlace}
    (hv : Value.okWide Tryd.prog W r base 3 v) (h : DataW.Trod enc Tryd.prog W b0 sp held 3 v d p) :
    ∃ a : Int, v = .int .i64 a ∧ -9223372036854775808 ≤ a ∧ a ≤ 9223372036854775807 := by
  obtain ⟨a, rfl, rfl, rfl, w⟩ := open_int Tryd.underlying3 hv h
  exact ⟨a, rfl, bounds_i64 w⟩
theorem one_int : Tryd.prog.cellsOf 3 = 1 := by kernel_rfl
theorem one_u32 : Tryd.prog.cellsOf 29 = 1 := by kernel_rfl
theorem one_bytes : Tryd.prog.cellsOf 30 = 1 := by kernel_rfl
theorem four_piece : Tryd.prog.cellsOf 32 = 4 := by kernel_rfl
theorem piece_fields : ∃ f0 f1 f2 f3 : Field, Tryd.prog.underlying 32 = some (.struct #[f0, f1, f2, f3]) ∧ (f0.offset = 0 ∧ f0.type = 3) ∧ (f1.offset = 1 ∧ f1.type = 3) ∧ (f2.offset = 2 ∧ f2.type = 29) ∧ (f3.offset = 3 ∧ f3.type = 30) :=
  ⟨_, _, _, _, Tryd.underlying32, ⟨rfl, rfl⟩, ⟨rfl, rfl⟩, ⟨rfl, rfl⟩, ⟨rfl, rfl⟩⟩
section
variable {H : Type} {enc : TypeId × Value → H} {W : World} {b0 : Nat} {held : Bool} {m : Nat} {cs : List Value} {y : DataW H × List MemPlace}
set_option maxRecDepth 100000 in
theorem rd_piece (h : DataW.trod enc Tryd.prog W b0 (fun _ => true) held m 32 cs = some y) (hl : Light 32 y.1) : ∃ v : Pv, cs = v.cells ∧ POk W (fun k => k < W.heap.size) v := by
  obtain ⟨f0, f1, f2, f3, hu, ⟨o0, t0⟩, ⟨o1, t1⟩, ⟨o2, t2⟩, ⟨o3, t3⟩⟩ := piece_fields
  obtain ⟨xs, k, hk, hy, hc, hx, hf⟩ := DataW.trod_struct hu h
  rw [four_piece] at hc
  match xs, hx, cs, hc with
  | [y0, y1, y2, y3], _, [v0, v1, v2, v3], _ =>
    have g0 := hf 0 f0 rfl
    have g1 := hf 1 f1 rfl
    have g2 := hf 2 f2 rfl
    have g3 := hf 3 f3 rfl
    simp [o0, o1, o2, o3, t0, t1, t2, t3, one_int, one_u32, one_bytes] at g0 g1 g2 g3
    obtain ⟨z0, e0, _, w0⟩ := DataW.trod_int Tryd.underlying3 g0
    obtain ⟨z1, e1, _, w1⟩ := DataW.trod_int Tryd.underlying3 g1
    obtain ⟨z2, e2, _, w2⟩ := DataW.trod_int Tryd.underlying29 g2
    have l3 : Light 30 y3.1 := fun n hn => hl n (by
      rw [hy]
      show n ∈ DataW.weights Tryd.prog 32 (.agg ([y0, y1, y2, y3].map (·.1)))
      simp only [DataW.weights, hu]
      exact DataW.weights_mem_each (j := 3) (t := 30) (d := y3.1) (by simp [t3]) rfl n hn)
    obtain ⟨a, n, cp, zs, e3, q, hr, hlt⟩ := rd_bytes g3 l3
    simp at e0 e1 e2 e3
    have q0 := q.lecap
    refine ⟨⟨z0, z1, z2, a, n, cp, zs⟩, by rw [e0, e1, e2, e3]; rfl, ⟨⟨q, fun h0 ad e => ?_⟩, by show n ≤ _; omega, w0, w1, ?_⟩⟩
    · obtain ⟨b, off, e', _⟩ := q.cells h0
      have e2' : a = some ad := e
      rw [e2'] at e'
      have := hlt h0 b off (by rw [e2', e'])
      rw [Option.some.inj e']
      exact this
    · have := bounds_u32 w2
      show 0 ≤ z2 ∧ z2 ≤ 4294967295
      omega
end
instance instPv2 : Inhabited Pv := ⟨⟨0, 0, 0, none, 0, 0, []⟩⟩
set_option maxRecDepth 100000 in
theorem open_pieces_held {H : Type} {enc : TypeId × Value → H} {W : World} {r : Reach} {base b0 : Nat} {held : Bool} {v : Value} {d : DataW H} {p : List MemPlace}
    (hv : Value.okWide Tryd.prog W r base 22 v) (h : DataW.Trod enc Tryd.prog W b0 (fun _ => true) held 22 v d p)
    (hw : ∀ n ∈ d.weights Tryd.prog 22, n ≤ reachBytes) :
    ∃ (a : Option Addr) (len cap : Nat) (l : List Pv), v = .slice a len cap ∧ Ls W (fun k => k < W.heap.size) a len l := by
  obtain ⟨a, len, cap, rfl⟩ := okWide_slice Tryd.underlying22 hv
  obtain ⟨fuel, hf⟩ := h
  obtain ⟨a', len', cap', l, h1, h2, h3, h4, h5⟩ := rd_row (bytes := 48) Tryd.underlying22 four_piece (by kernel_rfl) (by omega) Pv.cells (fun _ => rfl) (fun x => ⟨_, _, rfl⟩) (fun p => POk W (fun k => k < W.heap.size) p) (fun m cs y h hl => rd_piece h hl) hf hw
  simp [Value.cells] at h1
  obtain ⟨rfl, rfl, rfl⟩ := h1
  exact ⟨_, _, _, l, rfl, ⟨h2, fun h0 => by obtain ⟨b, off, e, hb, hc⟩ := h3 h0; exact ⟨b, off, e, hb, hb, hc⟩, h4, h5⟩⟩
set_option maxRecDepth 100000 in
theorem awake_any {w : World} (ht : Tab w) : Calls Tryd.prog 5 #[] w fun e w' => e = .returned (.bool true) ∧ Below w.heap.size w w' := by
  obtain ⟨u, eu⟩ : ∃ u, u = w.alloc (.cells #[.int .u8 1, .int .u8 2] 5) := ⟨_, rfl⟩
  have BU : Hid (Below w.heap.size w u) := by rw [eu]; exact below_alloc (Below.refl _ _) _
  have SQ : Hid (Sq u (some ⟨w.heap.size, 0, none⟩) 2 2 [1, 2]) := by
    refine ⟨rfl, Nat.le_refl _, fun h => absurd h (by simp), fun _ => ⟨w.heap.size, 0, rfl, fun j hj => ?_⟩, wfs_cons (by decide) (wfs_cons (by decide) wfs_nil)⟩
    have h := heap_alloc_new w (.cells #[.int .u8 1, .int .u8 2] 5)
    rw [← eu] at h
    rw [Nat.zero_add, cell_of_row _ _ _ _ _ _ h]
    match j, hj with
    | 0, _ => rfl
    | 1, _ => rfl
  have C := hide (cut_any SQ.out (ht.below BU.out) (by omega))
  rw [eu] at C
  have EU := hide eu
  clear eu ht
  go_enter Tryd.func5, Tryd.ntmps5
  go_wp2_with fail
  refine C.out.mono ?_
  rintro e w1 ⟨a', c', l, rfl, hb, hl, he⟩
  rw [← EU.out] at hb hl
  have e1 : cutN [1, 2] = 1 := by decide
  rw [e1] at hl ⊢
  have B1 := hide (below_step BU.out hb)
  obtain ⟨b, off, p, rfl, _, hp, hpl, _, _, _, k3⟩ := (hl.ls (P := fun _ => True) (by omega) (fun _ _ => trivial)).at (k := 0) (by omega)
  have hm : p.m = 2 := by
    obtain ⟨_, h2, _⟩ := hl.each p hpl
    have h3 : l[0]?.map Pv.pc = (cutL [1, 2])[0]? := by rw [← he, List.getElem?_map]
    rw [hp] at h3
    have h4 : p.pc = cutP [1, 2] 0 := by
      have : (cutL [1, 2])[0]? = some (cutP [1, 2] 0) := rfl
      rw [this] at h3
      exact Option.some.inj h3
    have h5 : p.b = [1, 2] := by have := congrArg Pc.b h4; exact this
    rw [h5] at h2
    exact h2.symm
  rw [hm] at k3
  simp only [Nat.zero_mul, Nat.add_zero] at k3
  clear hb hl he hp hpl hm e1
  go_wp2_with fail
  go_ret
  exact ⟨rfl, B1.out⟩
end Go.Proofs.YtanfmpeblhegpaaDoor
