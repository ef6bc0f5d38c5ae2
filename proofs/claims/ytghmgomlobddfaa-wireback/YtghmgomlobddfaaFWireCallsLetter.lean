/- wire's calls Letter and ReadLetter. No condition but the size. -/
import Derived.Test.YtghmgomlobddfaaFWireTopLetter
import Derived.Test.YtghmgomlobddfaaJA
import Derived.Deep.MidRow
import Derived.Deep.Cut
namespace Go.Proofs.Ytghmgomlobddfaa
open Go.ChangeShapes Go.WideShapes Go.ChangeAt Go.RowKit B8 Cm Wm
set_option linter.unusedVariables false

theorem arr13 {cs : Array Value} (h : cs.size = 13) : ∃ v0 v1 v2 v3 v4 v5 v6 v7 v8 v9 v10 v11 v12, cs = #[v0, v1, v2, v3, v4, v5, v6, v7, v8, v9, v10, v11, v12] := by
  obtain ⟨l⟩ := cs
  match l, h with
  | [v0, v1, v2, v3, v4, v5, v6, v7, v8, v9, v10, v11, v12], _ => exact ⟨_, _, _, _, _, _, _, _, _, _, _, _, _, rfl⟩
theorem arr14 {cs : Array Value} (h : cs.size = 14) : ∃ u v0 v1 v2 v3 v4 v5 v6 v7 v8 v9 v10 v11 v12, cs = #[u, v0, v1, v2, v3, v4, v5, v6, v7, v8, v9, v10, v11, v12] := by
  obtain ⟨l⟩ := cs
  match l, h with
  | [u, v0, v1, v2, v3, v4, v5, v6, v7, v8, v9, v10, v11, v12], _ => exact ⟨_, _, _, _, _, _, _, _, _, _, _, _, _, _, rfl⟩
/-- the group, and the letter behind it -/
def grp (x : Let) : Int := (x.x0.head?.map Atom.z).getD 0
def tl (x : Let) : Let := ⟨x.x0.tail, x.vs, x.es, x.x1⟩
theorem tl_kinds {x : Let} (h : LetK 8 x) : LetK 7 (tl x) := by
  obtain ⟨x0, vs, es, x1⟩ := x
  match x0, h with
  | [], h => exact absurd h.len (by simp)
  | g :: x0, h => exact h.tail.2
theorem LetV.parts {w : World} {P : Nat → Prop} {cs : Array Value} {x : Let} (h : LetV 8 w P cs x) (hk : LetK 8 x) : ∃ v0 v1 v2 v3 v4 v5 v6 v7 v8 v9 v10 v11 v12, cs = #[.int .i64 (grp x), v0, v1, v2, v3, v4, v5, v6, v7, v8, v9, v10, v11, v12] ∧ LetV 7 w P #[v0, v1, v2, v3, v4, v5, v6, v7, v8, v9, v10, v11, v12] (tl x) := by
  obtain ⟨x0, vs, es, x1⟩ := x
  match x0, h, hk with
  | [], h, hk => exact absurd hk.len (by simp)
  | g :: x0, h, hk =>
    obtain ⟨h0, ht⟩ := h.tail hk.tail.1
    obtain ⟨u, v0, v1, v2, v3, v4, v5, v6, v7, v8, v9, v10, v11, v12, rfl⟩ := arr14 h.size
    have eu : u = .int .i64 g.z := by simpa using h0
    subst eu
    exact ⟨v0, v1, v2, v3, v4, v5, v6, v7, v8, v9, v10, v11, v12, rfl, ht⟩
theorem info_letter : (Try.prog.info? 45).map (·.size) = some 13 := by kernel_rfl
theorem built_mail (z : Int) (v0 v1 v2 v3 v4 v5 v6 v7 v8 v9 v10 v11 v12 : Value) (w : World) : (Instr.build 73 #[(0, .int .i64 z), (1, .agg #[v0, v1, v2, v3, v4, v5, v6, v7, v8, v9, v10, v11, v12])]).run Try.prog w = .ok (.agg #[.int .i64 z, v0, v1, v2, v3, v4, v5, v6, v7, v8, v9, v10, v11, v12]) w := by kernel_rfl
set_option maxRecDepth 100000 in
theorem ccall_letter {w : World} {cs : Array Value} {x : Let} (z : Int) (z0 : -9223372036854775808 ≤ z) (z1 : z ≤ 9223372036854775807) (h : LetV 7 w (fun b => b < w.heap.size) cs x) (hk : LetK 8 ⟨⟨0, z, []⟩ :: x.x0, x.vs, x.es, x.x1⟩) :
    Calls Try.prog 11 #[.int .i64 z, .agg cs] w fun e w' => ∃ a cp, e = .returned (.tuple #[.slice a (wBytes (Let.flds ⟨⟨0, z, []⟩ :: x.x0, x.vs, x.es, x.x1⟩)).length cp, .int .i64 (wErr (Let.flds ⟨⟨0, z, []⟩ :: x.x0, x.vs, x.es, x.x1⟩))]) ∧ Mine w' w.heap.size a (wBytes (Let.flds ⟨⟨0, z, []⟩ :: x.x0, x.vs, x.es, x.x1⟩)).length cp (wBytes (Let.flds ⟨⟨0, z, []⟩ :: x.x0, x.vs, x.es, x.x1⟩)) ∧ Below w.heap.size w w' := by
  have b1 : Below w.heap.size w (w.alloc (.cells cs 45)) := Below.alloc (Below.refl _ _) (Nat.le_refl _) _
  have hi : (Try.prog.info? 45).map (·.size) = some cs.size := by rw [h.size]; exact info_letter
  have C := cwritten_mail ((h.fit b1).head z0 z1) hk
  obtain ⟨X, eX⟩ : ∃ X : Let, X = ⟨⟨0, z, []⟩ :: x.x0, x.vs, x.es, x.x1⟩ := ⟨_, rfl⟩
  rw [← eX] at C ⊢
  obtain ⟨bs, eb⟩ : ∃ bs, bs = wBytes X.flds := ⟨_, rfl⟩
  obtain ⟨n, en⟩ : ∃ n, n = bs.length := ⟨_, rfl⟩
  rw [← eb, ← en] at C ⊢
  obtain ⟨v0, v1, v2, v3, v4, v5, v6, v7, v8, v9, v10, v11, v12, rfl⟩ := arr13 h.size
  have C : Calls Try.prog 23 #[.agg #[.int .i64 z, v0, v1, v2, v3, v4, v5, v6, v7, v8, v9, v10, v11, v12], .func (.func 24) #[] #[]] (w.alloc (.cells #[v0, v1, v2, v3, v4, v5, v6, v7, v8, v9, v10, v11, v12] 45)) fun e w' => ∃ a cp, e = .returned (.tuple #[.slice a n cp, .int .i64 (wErr X.flds)]) ∧ Mine w' (w.alloc (.cells #[v0, v1, v2, v3, v4, v5, v6, v7, v8, v9, v10, v11, v12] 45)).heap.size a n cp bs ∧ Below (w.alloc (.cells #[v0, v1, v2, v3, v4, v5, v6, v7, v8, v9, v10, v11, v12] 45)).heap.size (w.alloc (.cells #[v0, v1, v2, v3, v4, v5, v6, v7, v8, v9, v10, v11, v12] 45)) w' := C
  have C := hide C
  have B1 := hide b1
  have HI := hide hi
  have ROW := hide (heap_alloc_new w (.cells #[v0, v1, v2, v3, v4, v5, v6, v7, v8, v9, v10, v11, v12] 45))
  have bm := built_mail z v0 v1 v2 v3 v4 v5 v6 v7 v8 v9 v10 v11 v12
  clear h hk eb en b1 hi eX
  go_enter Try.func11, Try.ntmps11
  go_wp2_with (refine wpList_load_row rfl 45 (.tmp 3) rfl w.heap.size rfl 45 #[v0, v1, v2, v3, v4, v5, v6, v7, v8, v9, v10, v11, v12] (0, 0) _ ROW.out Try.underlying45 rfl HI.out ?_)
  refine C.out.mono ?_
  rintro e w1 ⟨a, cp, rfl, hm, hb⟩
  have M := hide (hm.base (B' := w.heap.size) B1.out.size)
  have B := hide (below_step B1.out hb)
  clear hm hb C
  go_wp2_with fail
  go_ret2
  exact ⟨a, cp, rfl, M.out, B.out⟩

/-- a whole letter stored, under a name of its own -/
def st13 (a : Addr) (v : Value) : Sem Unit := storeVar 45 a v
theorem st13_eq (a : Addr) (v : Value) : storeVar 45 a v = st13 a v := rfl
attribute [local go_sem ↓] st13_eq
theorem results_tmp_cell_tmp {P : Program} {fn : Func} {o p q : Tmp} {ty : TypeId} (h : fn.results = #[.tmp o, .cell p ty, .tmp q]) (tmps : Array Value) (w : World) (g : Nat) (t : TypeId) (cs : Array Value) (fr : Nat × Nat) (d : TypeDesc) (y x : Value)
    (ho : tmps.getD o undef = y) (hp : tmps.getD p undef = .pointer (some ⟨g, 0, none⟩)) (hq : tmps.getD q undef = x) (hg : w.heap[g]? = some (.cells cs t fr))
    (hu : P.underlying ty = some d) (hd : (match d with | .struct _ | .array _ _ => true | _ => false) = true) (hi : (P.info? ty).map (·.size) = some cs.size) :
    (results fn tmps).run P w = .ok (.tuple #[y, .agg cs, x]) w := by
  have ho' : tmps[o]?.getD undef = y := by simpa using ho
  have hp' : tmps[p]?.getD undef = .pointer (some ⟨g, 0, none⟩) := by simpa using hp
  have hq' : tmps[q]?.getD undef = x := by simpa using hq
  simp [results, h, ho', hp', hq', asAddr, run_loadVar_row w g t ty cs fr d hg hu hd hi]
theorem lay_row_let {m : Nat} {w u : World} {cs zs : Array Value} {t : TypeId} {x : Let} (hu : u.heap[w.heap.size]? = some (.cells zs t)) (hb : Below w.heap.size w u) (hv : LetV m u (fun b => w.heap.size < b ∧ b < u.heap.size) cs x) :
    (u.setRow w.heap.size cs).heap[w.heap.size]? = some (.cells cs t) ∧ LetV m (u.setRow w.heap.size cs) (fun b => w.heap.size ≤ b ∧ b < (u.setRow w.heap.size cs).heap.size) cs x ∧ Below w.heap.size w (u.setRow w.heap.size cs) := by
  have hother : ∀ b, b ≠ w.heap.size → (u.setRow w.heap.size cs).heap[b]? = u.heap[b]? := fun b hb => by simp only [World.setRow, Array.getElem?_modify]; rw [if_neg (fun e => hb e.symm)]
  refine ⟨setRow_heap u _ _ cs _ _ hu, hv.same fun b hb => ⟨⟨by omega, by rw [size_setRow]; omega⟩, hother b (by omega)⟩, hb.os, hb.tape, hb.output, by rw [size_setRow]; exact hb.size, fun k hk => (hother k (by omega)).trans (hb.block k hk)⟩
set_option maxRecDepth 100000 in
set_option maxHeartbeats 2000000 in
theorem cread_letter {w : World} {a : Option Addr} {n cp : Nat} {bs : List Int} (q : Sq w a n cp bs) (hn : n ≤ 140737488355328) :
    Calls Try.prog 12 #[.slice a n cp] w fun e w' => ∃ cs, e = .returned (.tuple #[.int .i64 (grp (lVal bs)), .agg cs, .int .i64 (lErr bs)]) ∧ LetV 7 w' (fun b => w.heap.size ≤ b ∧ b < w'.heap.size) cs (tl (lVal bs)) ∧ Below w.heap.size w w' := by
  obtain ⟨w1, e1⟩ : ∃ w1, w1 = w.alloc (.cells #[.int .i64 0, .int .i64 0, .int .i64 0, .int .i64 0, .int .i64 0, .int .i64 0, .int .i64 0, .slice none 0 0, .slice none 0 0, .int .i64 0, .int .i64 0, .int .u32 0, .slice none 0 0] 45) := ⟨_, rfl⟩
  have b1 : Below w.heap.size w w1 := by rw [e1]; exact below_alloc (Below.refl _ _) _
  have s1 : w1.heap.size = w.heap.size + 1 := by rw [e1]; simp
  have r0 : w1.heap[w.heap.size]? = some (.cells #[.int .i64 0, .int .i64 0, .int .i64 0, .int .i64 0, .int .i64 0, .int .i64 0, .int .i64 0, .slice none 0 0, .slice none 0 0, .int .i64 0, .int .i64 0, .int .u32 0, .slice none 0 0] 45) := by rw [e1]; exact heap_alloc_new w _
  have C := hide (ctaken_mail (q.below b1) hn)
  have B1 := hide b1
  have S1 := hide s1
  have R0 := hide r0
  have E1 := hide e1.symm
  have KX := hide (lVal_kinds bs)
  obtain ⟨E, eE⟩ : ∃ E, E = lErr bs := ⟨_, rfl⟩
  obtain ⟨X, eX⟩ : ∃ X, X = lVal bs := ⟨_, rfl⟩
  rw [← eE, ← eX] at C ⊢
  rw [← eX] at KX
  clear q b1 s1 r0 e1 eE eX
  go_enter Try.func12, Try.ntmps12
  go_upto_region 1 with fail
  rw [E1.out]
  clear E1
  go_wp2_with fail
  refine C.out.mono ?_
  rintro e w2 ⟨cs, rfl, hv, hb⟩
  obtain ⟨v0, v1, v2, v3, v4, v5, v6, v7, v8, v9, v10, v11, v12, ecs, hv7⟩ := hv.parts KX.out
  generalize hG : grp X = G at *
  have HG := hide hG
  clear hG
  subst ecs
  have ONE := hide hv.one
  have ONE7 := hide hv7.one
  -- the letter behind its group, in a block of its own; the result's block
  obtain ⟨w3, e3⟩ : ∃ w3, w3 = w2.alloc (.cells #[.int .i64 G, v0, v1, v2, v3, v4, v5, v6, v7, v8, v9, v10, v11, v12] 73) := ⟨_, rfl⟩
  have b3 : Below w2.heap.size w2 w3 := by rw [e3]; exact below_alloc (Below.refl _ _) _
  have r3 : w3.heap[w2.heap.size]? = some (.cells #[.int .i64 G, v0, v1, v2, v3, v4, v5, v6, v7, v8, v9, v10, v11, v12] 73) := by rw [e3]; exact heap_alloc_new w2 _
  have hl2 : w.heap.size < w2.heap.size := by have := hb.size; rw [S1.out] at this; omega
  have r2 : w3.heap[w.heap.size]? = some (.cells #[.int .i64 0, .int .i64 0, .int .i64 0, .int .i64 0, .int .i64 0, .int .i64 0, .int .i64 0, .slice none 0 0, .slice none 0 0, .int .i64 0, .int .i64 0, .int .u32 0, .slice none 0 0] 45) := (b3.block _ hl2).trans ((hb.block _ (by rw [S1.out]; omega)).trans R0.out)
  have L1 := hide (lay_row_let (m := 7) r2 (below_step (below_step B1.out hb) b3) (hv7.same (P' := fun b => w.heap.size < b ∧ b < w3.heap.size) fun b hl => ⟨⟨by have := hl.1; rw [S1.out] at this; omega, Nat.lt_of_lt_of_le hl.2 b3.size⟩, b3.block b hl.2⟩))
  have q0 : w3.cell? ⟨w2.heap.size, 0, none⟩ = some (.int .i64 G) := by rw [cell_of_row _ _ _ _ _ _ r3]; rfl
  have x0 : w3.cell? ⟨w2.heap.size, 1, none⟩ = some v0 := by rw [cell_of_row _ _ _ _ _ _ r3]; rfl
  have x1 : w3.cell? ⟨w2.heap.size, 2, none⟩ = some v1 := by rw [cell_of_row _ _ _ _ _ _ r3]; rfl
  have x2 : w3.cell? ⟨w2.heap.size, 3, none⟩ = some v2 := by rw [cell_of_row _ _ _ _ _ _ r3]; rfl
  have x3 : w3.cell? ⟨w2.heap.size, 4, none⟩ = some v3 := by rw [cell_of_row _ _ _ _ _ _ r3]; rfl
  have x4 : w3.cell? ⟨w2.heap.size, 5, none⟩ = some v4 := by rw [cell_of_row _ _ _ _ _ _ r3]; rfl
  have x5 : w3.cell? ⟨w2.heap.size, 6, none⟩ = some v5 := by rw [cell_of_row _ _ _ _ _ _ r3]; rfl
  have x6 : w3.cell? ⟨w2.heap.size, 7, none⟩ = some v6 := by rw [cell_of_row _ _ _ _ _ _ r3]; rfl
  have x7 : w3.cell? ⟨w2.heap.size, 8, none⟩ = some v7 := by rw [cell_of_row _ _ _ _ _ _ r3]; rfl
  have x8 : w3.cell? ⟨w2.heap.size, 9, none⟩ = some v8 := by rw [cell_of_row _ _ _ _ _ _ r3]; rfl
  have x9 : w3.cell? ⟨w2.heap.size, 10, none⟩ = some v9 := by rw [cell_of_row _ _ _ _ _ _ r3]; rfl
  have x10 : w3.cell? ⟨w2.heap.size, 11, none⟩ = some v10 := by rw [cell_of_row _ _ _ _ _ _ r3]; rfl
  have x11 : w3.cell? ⟨w2.heap.size, 12, none⟩ = some v11 := by rw [cell_of_row _ _ _ _ _ _ r3]; rfl
  have x12 : w3.cell? ⟨w2.heap.size, 13, none⟩ = some v12 := by rw [cell_of_row _ _ _ _ _ _ r3]; rfl
  have hoth : (w3.setRow w.heap.size #[v0, v1, v2, v3, v4, v5, v6, v7, v8, v9, v10, v11, v12]).heap[w2.heap.size]? = w3.heap[w2.heap.size]? := by simp only [World.setRow, Array.getElem?_modify]; rw [if_neg (by omega)]
  have q1 : (w3.setRow w.heap.size #[v0, v1, v2, v3, v4, v5, v6, v7, v8, v9, v10, v11, v12]).cell? ⟨w2.heap.size, 0, none⟩ = some (.int .i64 G) := by rw [cell_of_row _ _ _ _ _ _ (hoth.trans r3)]; rfl
  have hst : (st13 ⟨w.heap.size, 0, none⟩ (.agg #[v0, v1, v2, v3, v4, v5, v6, v7, v8, v9, v10, v11, v12])).run Try.prog w3.drew = .ok () (w3.drew.setRow w.heap.size #[v0, v1, v2, v3, v4, v5, v6, v7, v8, v9, v10, v11, v12]) := run_storeVar_row w3.drew w.heap.size 45 45 _ _ r2 info_letter rfl ONE7.out
  have R2 := hide r2
  have E3 := hide e3.symm
  clear hv hv7 hb C R0 S1 B1 b3 r3 r2 hl2 hoth e3
  go_upto_region 1 with (refine wpList_store_row rfl 73 (.tmp 5) (.tmp 10) rfl w2.heap.size #[.int .i64 G, v0, v1, v2, v3, v4, v5, v6, v7, v8, v9, v10, v11, v12] rfl rfl 73 #[.int .i64 0, .int .i64 0, .int .i64 0, .int .i64 0, .int .i64 0, .int .i64 0, .int .i64 0, .int .i64 0, .slice none 0 0, .slice none 0 0, .int .i64 0, .int .i64 0, .int .u32 0, .slice none 0 0] (heap_alloc_new w2 _) info_mail rfl ONE.out ?_)
  rw [setRow_alloc, E3.out]
  clear E3
  go_wp2_with fail
  go_region_law (fail)
  all_goals (
    go_wp2_with fail
    refine bodyPost_ret (v := .tuple #[.int .i64 G, .agg #[v0, v1, v2, v3, v4, v5, v6, v7, v8, v9, v10, v11, v12], .int .i64 E]) ?r ?d ?_
    case r => exact results_tmp_cell_tmp rfl _ _ w.heap.size 45 #[v0, v1, v2, v3, v4, v5, v6, v7, v8, v9, v10, v11, v12] (0, 0) _ (.int .i64 G) (.int .i64 E) rfl rfl rfl L1.out.1 Try.underlying45 rfl info_letter
    case d => rfl
    rw [HG.out]
    exact ⟨_, rfl, L1.out.2.1.same fun b h => ⟨h, rfl⟩, L1.out.2.2.os, L1.out.2.2.tape, L1.out.2.2.output, L1.out.2.2.size, L1.out.2.2.block⟩)
end Go.Proofs.Ytghmgomlobddfaa
