/- What the landed writer's own small functions do. No condition but the size. What the landed writer does with ints, texts, bytes, a flag, a uint32, an Errno, a count. No condition but the size. What the landed writer does with texts, bytes, a flag, a uint32, an Errno, a count; its end. No condition but the size. What the landed writer does with strings. No condition but the size. What the landed writer makes of the things whose fields are plain. No condition but the size. -/
import Derived.Test.YthklpkmdmkgjiaaGreatJA
import Derived.Test.YthklpkmdmkgjiaaGreatJB
import Derived.Test.YthklpkmdmkgjiaaGreatJD
import Derived.Test.YthklpkmdmkgjiaaGreatJE
import Derived.Test.YthklpkmdmkgjiaaGreatJG
namespace Go.Proofs.YthklpkmdmkgjiaaGreat
open Go.ChangeShapes Go.WideShapes Go.ChangeAt Go.RowKit B8 Cm Wm
set_option linter.unusedVariables false

/-- the landed writer at W, its bytes in memory of its own from B on, behind the fields fs -/
structure Wst (w : World) (B W : Nat) (fs : List Fld) (v : Value) (xs : List Int) (long : Bool) : Prop where
  c0 : w.cell? ⟨W, 0, none⟩ = some v
  c1 : w.cell? ⟨W, 1, none⟩ = some (.bool long)
  f0 : w.frozen? ⟨W, 0, none⟩ = false
  f1 : w.frozen? ⟨W, 1, none⟩ = false
  row : w.ownsRow B 5 1 v xs.length (vals xs)
  wf : wfs xs
  some_ok : okAll fs = true → long = false ∧ xs = bytesOf fs
  some_no : okAll fs = false → long = true
  apart : v.ownBlock ≠ some W
  size : xs.length ≤ 65536
  home : B ≤ W

/-- the writer's blocks -/
def Wown (W : Nat) (w : World) (k : Nat) : Prop := k = W ∨ ∃ v, w.cell? ⟨W, 0, none⟩ = some v ∧ v.ownBlock = some k

theorem wfits_any {w : World} {W : Nat} {long : Bool} (n most : Int) (c1 : w.cell? ⟨W, 1, none⟩ = some (.bool long)) (f1 : w.frozen? ⟨W, 1, none⟩ = false) :
    Calls Tryz.prog 115 #[.pointer (some ⟨W, 0, none⟩), .int .i64 n, .int .i64 most] w fun e w' => e = .returned (.bool (!(long || decide (most < n)))) ∧ w' = w.setCell ⟨W, 1, none⟩ (.bool (long || decide (most < n))) := by
  have k1 : ∀ b : Bool, (w.setCell ⟨W, 1, none⟩ (.bool b)).cell? ⟨W, 1, none⟩ = some (.bool b) := fun b => World.cell?_setCell_same _ _ _ c1
  cases long
  · by_cases h : most < n
    · have hd : decide (most < n) = true := by simpa using h
      go_enter Tryz.func115, Tryz.ntmps115
      go_wp2_with fail
      go_ret
      rw [hd]
      exact ⟨rfl, rfl⟩
    · have hd : decide (most < n) = false := by simpa using h
      go_enter Tryz.func115, Tryz.ntmps115
      go_wp2_with fail
      go_ret
      exact ⟨rfl, rfl⟩
  · go_enter Tryz.func115, Tryz.ntmps115
    go_wp2_with fail
    go_ret
    exact ⟨rfl, rfl⟩
/-- append at an operation: the new row lies where the old one lay, or in a new block -/
theorem wp_append_home {ops : Array Oper} {rest : List Oper} {o : Oper} {act : Act} {Q : Exit → Act → World → Prop} (w : World) (hg : o.guard = none) (s x : Operand)
    (hop : o.op = Op.call { callee := Callee.builtin Builtin.append, args := #[s, x], argTypes := #[29, 29] })
    (B : Nat) (v : Value) (n : Nat) (zs : List Int) (hs : act.eval s = v) (hown : w.ownsRow B 5 1 v n (vals zs))
    (a : Option Addr) (m c : Nat) (bs : List Int) (hx : act.eval x = .slice a m c) (hsq : Sq w a m c bs) (hr : n + m ≤ 140737488355328) (hB : B ≤ w.heap.size)
    (hK : ∀ a' cp' w', w'.ownsRow B 5 1 (.slice a' (n + m) cp') (n + m) (vals (zs ++ bs)) → w.grownBy w' v.ownBlock → ((Value.slice a' (n + m) cp').ownBlock = v.ownBlock ∨ (Value.slice a' (n + m) cp').ownBlock = some w.heap.size) → wpList Tryz.prog ops Q rest (act.put o.dst (.slice a' (n + m) cp')) w') :
    wpList Tryz.prog ops Q (o :: rest) act w := by
  refine wpList_plain hg fun K hK' => ?_
  obtain ⟨v', w', hr, h2, h3, h4⟩ := run_append_sq w o.type B v n zs hown a m c bs hsq (by omega) hB
  obtain ⟨a', cp', ev⟩ : ∃ a' cp', v' = .slice a' (n + m) cp' := by
    obtain ⟨_, ⟨h5, h6⟩ | ⟨g, cp, cur, h5, h6⟩⟩ := h2
    · exact ⟨none, 0, by rw [h5, h6]⟩
    · exact ⟨_, _, h5⟩
  subst ev
  unfold Oper.wp execOp
  simp only [hop, resolve, invoke, builtin, Sem.run_bind, Sem.run_pure, Result.andThen_ok, List.map_toArray, List.map_cons, List.map_nil, hs, hx, hr]
  exact hK' _ _ (hK a' cp' w' h2 h3 h4)

theorem wst_bad {w : World} {B W : Nat} {fs : List Fld} {v : Value} {xs : List Int} {long : Bool} (h : Wst w B W fs v xs long) (gs : List Fld) (hn : okAll gs = false) :
    Wst (w.setCell ⟨W, 1, none⟩ (.bool true)) B W gs v xs true := by
  refine ⟨?_, World.cell?_setCell_same _ _ _ h.c1, by simpa using h.f0, by simpa using h.f1, ?_, h.wf, fun h' => absurd h' (by rw [hn]; simp), fun _ => rfl, h.apart, h.size, h.home⟩
  · rw [World.cell?_setCell_other _ _ _ _ (by simp)]; exact h.c0
  · exact h.row.kept (grown_setCell w W 1 _) (.inr h.apart)
theorem wst_flag {w : World} {B W : Nat} {fs : List Fld} {v : Value} {xs : List Int} (h : Wst w B W fs v xs false) :
    Wst (w.setCell ⟨W, 1, none⟩ (.bool false)) B W fs v xs false := by
  refine ⟨?_, World.cell?_setCell_same _ _ _ h.c1, by simpa using h.f0, by simpa using h.f1, ?_, h.wf, h.some_ok, h.some_no, h.apart, h.size, h.home⟩
  · rw [World.cell?_setCell_other _ _ _ _ (by simp)]; exact h.c0
  · exact h.row.kept (grown_setCell w W 1 _) (.inr h.apart)
theorem wown_set {w : World} {W : Nat} {v : Value} (h : w.cell? ⟨W, 0, none⟩ = some v) (x : Value) : Stq (Wown W) w (w.setCell ⟨W, 1, none⟩ x) :=
  ⟨rfl, rfl, rfl, by simp [World.setCell], fun k hk hs => Below.heap_setCell _ _ _ _ (fun e => hs (.inl e)), fun k hk => by
    refine .inl ?_
    rcases hk with hk | ⟨u, h1, h2⟩
    · exact .inl hk
    · rw [World.cell?_setCell_other _ _ _ _ (by simp)] at h1
      exact .inr ⟨u, h1, h2⟩⟩
theorem wown_put {w w1 : World} {W : Nat} {v v' : Value} (h : w.cell? ⟨W, 0, none⟩ = some v) (h1 : w1.cell? ⟨W, 0, none⟩ = some v) (hg : w.grownBy w1 v.ownBlock) (ho : v'.ownBlock = v.ownBlock ∨ v'.ownBlock = some w.heap.size) :
    Stq (Wown W) w (w1.setCell ⟨W, 0, none⟩ v') :=
  ⟨hg.os, hg.tape, hg.output, by simpa [World.setCell] using hg.size, fun k hk hs => (Below.heap_setCell _ _ _ _ (fun e => hs (.inl e))).trans (hg.block k hk (fun e => hs (.inr ⟨v, h, e.symm⟩))), fun k hk => by
    rcases hk with hk | ⟨u, e1, e2⟩
    · exact .inl (.inl hk)
    · rw [World.cell?_setCell_same _ _ _ h1] at e1
      obtain rfl := Option.some.inj e1
      rcases ho with ho | ho
      · exact .inl (.inr ⟨v, h, by rw [← ho]; exact e2⟩)
      · rw [ho] at e2
        cases e2
        exact .inr (Nat.le_refl _)⟩

/-- some writer behind the fields fs -/
def WS (w : World) (B W : Nat) (fs : List Fld) : Prop := ∃ v xs long, Wst w B W fs v xs long

theorem wput_any {w : World} {B W : Nat} {fs : List Fld} {a : Option Addr} {m c : Nat} {bs : List Int} (h : WS w B W fs) (hB : B ≤ w.heap.size) (q : Sq w a m c bs) (hm : m ≤ 140737488000000)
    (hap : ∀ b off, a = some ⟨b, off, none⟩ → 0 < m → b ≠ W) :
    Calls Tryz.prog 116 #[.pointer (some ⟨W, 0, none⟩), .slice a m c] w fun e w' => e = .returned (.tuple #[]) ∧ WS w' B W (fs ++ [⟨bs, true⟩]) ∧ Stq (Wown W) w w' := by
  obtain ⟨v, xs, long, h⟩ := h
  obtain ⟨av, nv, cv, ev, hl⟩ : ∃ av nv cv, v = .slice av nv cv ∧ nv = xs.length := by
    obtain ⟨h1, ⟨h2, h3⟩ | ⟨g, cp, cur, h2, h3⟩⟩ := h.row
    · exact ⟨none, 0, 0, h2, by omega⟩
    · exact ⟨_, _, _, h2, rfl⟩
  subst ev
  have c0 := h.c0
  have c1 := h.c1
  have f0 := h.f0
  have f1 := h.f1
  have hsz := h.size
  have H := hide h
  have Q := hide q
  have LQ := hide q.length
  have HL := hide hl
  have i1 : nv ≤ 65536 := by omega
  have AP := hide hap
  have HB := hide hB
  clear h q hl hap hB hsz
  have CF := hide (wfits_any ((nv : Int) + (m : Int)) 65536 c1 f1)
  have OK := hide (okAll_snoc fs ⟨bs, true⟩)
  cases long
  · have ok : okAll fs = true := by
      cases e : okAll fs with
      | true => rfl
      | false => exact absurd (H.out.some_no e) (by simp)
    have EX := hide (H.out.some_ok ok).2
    have OK' := hide ok
    clear ok
    by_cases hh : (65536 : Int) < (nv : Int) + (m : Int)
    · have hd : decide ((65536 : Int) < (nv : Int) + (m : Int)) = true := by simpa using hh
      have BAD := hide (wst_bad H.out (fs ++ [⟨bs, true⟩]) (by rw [OK.out]; rw [← EX.out, ← HL.out]; have := LQ.out; simp; omega))
      have ST := hide (wown_set c0 (.bool true))
      go_enter Tryz.func116, Tryz.ntmps116
      go_wp2_with fail
      refine CF.out.mono ?_
      rintro e w1 ⟨rfl, rfl⟩
      go_wp2_with fail
      refine bodyPost_end (results_none rfl _ _ _) rfl ?_
      exact ⟨rfl, ⟨_, _, _, BAD.out⟩, ST.out⟩
    · have hd : decide ((65536 : Int) < (nv : Int) + (m : Int)) = false := by simpa using hh
      have OKN : Hid (okAll (fs ++ [⟨bs, true⟩]) = true) := by show _ = _; rw [OK.out, OK'.out]; rw [← EX.out, ← HL.out]; have := LQ.out; simp; omega
      have H1 := hide (wst_flag H.out)
      have ST := hide (wown_set c0 (.bool false))
      have hQ1 : Sq (w.setCell ⟨W, 1, none⟩ (.bool false)) a m c bs := by
        refine ⟨Q.out.length, Q.out.lecap, Q.out.nil, fun h0 => ?_, Q.out.wf⟩
        obtain ⟨b, off, e, hc⟩ := Q.out.cells h0
        exact ⟨b, off, e, fun j hj => (grown_setCell w W 1 _).cell (hc j hj) (by simpa using AP.out b off e h0)⟩
      have Q1 := hide hQ1
      have i2 : nv + m ≤ 65536 := by omega
      clear hQ1 H Q
      go_enter Tryz.func116, Tryz.ntmps116
      go_wp2_with fail
      refine CF.out.mono ?_
      rintro e w1 ⟨rfl, rfl⟩
      rw [hd]
      obtain ⟨w1, ew⟩ : ∃ w1, w1 = w.setCell ⟨W, 1, none⟩ (.bool false) := ⟨_, rfl⟩
      rw [Bool.or_false, ← ew]
      rw [← ew] at H1 ST Q1
      have c0' := H1.out.c0
      have f0' := H1.out.f0
      have HB1 : Hid (B ≤ w1.heap.size) := Nat.le_trans HB.out ST.out.size
      have ROW : Hid (w1.ownsRow B 5 1 (.slice av nv cv) nv (vals xs)) := by have := H1.out.row; rw [← HL.out] at this; exact this
      clear ew c0 c1 f0 f1 CF
      go_wp2_with (at_builtin; refine wp_append_home _ rfl (.tmp 18) (.tmp 19) rfl B (.slice av nv cv) nv xs rfl ROW.out a m c bs rfl Q1.out (by omega) HB1.out ?_; intro a2 cp2 w2 hown hgrow hho; have HO := hide hown; have HG := hide hgrow; have HH := hide hho; clear hown hgrow hho; have c2 : w2.cell? ⟨W, 0, none⟩ = some (.slice av nv cv) := HG.out.cell c0' (fun e => H1.out.apart e.symm); have f2 : w2.frozen? ⟨W, 0, none⟩ = false := (World.frozen?_of_block (w := w1) (HG.out.block W (World.block_lt_of_cell? _ _ c0') (fun e => H1.out.apart e.symm))).trans f0')
      go_wp2_with fail
      refine bodyPost_end (results_none rfl _ _ _) rfl ?_
      have d1 : w2.cell? ⟨W, 1, none⟩ = some (.bool false) := HG.out.cell H1.out.c1 (fun e => H1.out.apart e.symm)
      have g1 : w2.frozen? ⟨W, 1, none⟩ = false := (World.frozen?_of_block (w := w1) (HG.out.block W (World.block_lt_of_cell? _ _ c0') (fun e => H1.out.apart e.symm))).trans H1.out.f1
      have ap : (Value.slice a2 (nv + m) cp2).ownBlock ≠ some W := by
        rcases HH.out with e | e
        · rw [e]; exact H1.out.apart
        · rw [e]; intro e2; have := World.block_lt_of_cell? _ _ c0'; simp at e2; simp at this; omega
      refine ⟨rfl, ⟨.slice a2 (nv + m) cp2, xs ++ bs, false, World.cell?_setCell_same _ _ _ c2, ?_, by simpa using f2, by simpa using g1, ?_, wfs_append H1.out.wf Q1.out.wf, fun _ => ⟨rfl, ?_⟩, fun e => ?_, ap, ?_, H1.out.home⟩, ST.out.trans (wown_put c0' c2 HG.out HH.out)⟩
      · rw [World.cell?_setCell_other _ _ _ _ (by simp)]; exact d1
      · have := HO.out
        rw [List.length_append, LQ.out, ← HL.out]
        exact this.kept (grown_setCell w2 W 0 _) (.inr ap)
      · rw [bytesOf_append, bytesOf_one, EX.out]
      · rw [OKN.out] at e; cases e
      · rw [List.length_append, LQ.out, ← HL.out]; exact i2
  · have no : okAll fs = false := by
      cases e : okAll fs with
      | false => rfl
      | true => exact absurd (H.out.some_ok e).1 (by simp)
    have BAD := hide (wst_bad H.out (fs ++ [⟨bs, true⟩]) (okAll_left _ _ no))
    have ST := hide (wown_set c0 (.bool true))
    clear no
    go_enter Tryz.func116, Tryz.ntmps116
    go_wp2_with fail
    refine CF.out.mono ?_
    rintro e w1 ⟨rfl, rfl⟩
    go_wp2_with fail
    refine bodyPost_end (results_none rfl _ _ _) rfl ?_
    exact ⟨rfl, ⟨_, _, _, BAD.out⟩, ST.out⟩
end Go.Proofs.YthklpkmdmkgjiaaGreat

namespace Go.Proofs.YthklpkmdmkgjiaaGreat
open Go.ChangeShapes Go.WideShapes Go.ChangeAt Go.RowKit B8 Cm Wm
set_option linter.unusedVariables false

section
variable {w w1 : World} {B W : Nat} {fs : List Fld}
theorem Wst.lt {v : Value} {xs : List Int} {long : Bool} (h : Wst w B W fs v xs long) : W < w.heap.size := World.block_lt_of_cell? w _ h.c0
theorem WS.lt (h : WS w B W fs) : W < w.heap.size := by obtain ⟨v, xs, long, h⟩ := h; exact h.lt
theorem WS.below (h : WS w B W fs) (hb : Below w.heap.size w w1) : WS w1 B W fs := by
  obtain ⟨v, xs, long, h⟩ := h
  have hl := h.lt
  exact ⟨v, xs, long, (hb.cell (p := ⟨W, 0, none⟩) hl).trans h.c0, (hb.cell (p := ⟨W, 1, none⟩) hl).trans h.c1, (hb.frozen (p := ⟨W, 0, none⟩) hl).trans h.f0, (hb.frozen (p := ⟨W, 1, none⟩) hl).trans h.f1, row_below h.row hb, h.wf, h.some_ok, h.some_no, h.apart, h.size, h.home⟩
theorem stq_below (hb : Below w.heap.size w w1) (hl : W < w.heap.size) : Stq (Wown W) w w1 :=
  ⟨hb.os, hb.tape, hb.output, hb.size, fun k hk _ => hb.block k hk, fun k hk => by
    rcases hk with hk | ⟨v, h1, h2⟩
    · exact .inl (.inl hk)
    · rw [hb.cell (p := ⟨W, 0, none⟩) hl] at h1
      exact .inl (.inr ⟨v, h1, h2⟩)⟩
theorem below_drew1 (w : World) : Below w.heap.size w w.drew := (Below.refl _ _).drew
theorem below_alloc1 (w : World) (o : Obj) : Below w.heap.size w (w.alloc o) := Below.alloc (Below.refl _ _) (Nat.le_refl _) o
theorem Stq.cell (h : Stq (Wown W) w w1) {b o : Nat} {v : Value} (hc : w.cell? ⟨b, o, none⟩ = some v) (hn : ¬ Wown W w b) : w1.cell? ⟨b, o, none⟩ = some v :=
  (World.cell?_of_block (w := w) (h.block b (World.block_lt_of_cell? w _ hc) hn)).trans hc
theorem WS.base (h : WS w B W fs) : ∀ k, Wown W w k → B ≤ k ∧ k < w.heap.size := by
  obtain ⟨v, xs, long, h⟩ := h
  intro k hk
  rcases hk with rfl | ⟨u, h1, h2⟩
  · exact ⟨h.home, h.lt⟩
  · rw [h.c0] at h1
    obtain rfl := Option.some.inj h1
    exact h.row.lt k h2
end

theorem atom_int {w : World} {P : Nat → Prop} {v : Value} {x : Atom} (h : AtomV w P v x) (hk : x.k = 0) : v = .int .i64 x.z ∧ -9223372036854775808 ≤ x.z ∧ x.z ≤ 9223372036854775807 := by
  rcases h with h | h | h | h | h
  · exact h.2
  all_goals exact absurd hk (by have := h.1; omega)
theorem fldA_int {x : Atom} (hk : x.k = 0) : fldA x = ⟨numB (zig x.z), true⟩ := by
  unfold fldA atomB atomFit
  rw [hk]
  rfl
theorem take_flds (xs : List Atom) (j : Nat) (x : Atom) (hx : xs[j]? = some x) (fs : List Fld) : fs ++ flds (xs.take (j + 1)) = fs ++ flds (xs.take j) ++ [fldA x] := by
  rw [List.take_add_one, hx, flds_append, List.append_assoc]
  rfl

theorem wints_any {w : World} {B W : Nat} {fs : List Fld} {L M o n cp : Nat} {xs : List Atom} {P : Nat → Prop} (h : WS w B W fs) (hB : B ≤ w.heap.size)
    (hf : FlatAt w P M o xs) (hk : ∀ x ∈ xs, x.k = 0) (hn : xs.length = n) (hm : n ≤ 1000000) (hM : ¬ Wown W w M) (hL : ¬ Wown W w L)
    (hp : ∀ j, j < n → w.cell? ⟨L, j, none⟩ = some (.pointer (some ⟨M, o + j, none⟩))) :
    Calls Tryz.prog 113 #[.pointer (some ⟨W, 0, none⟩), .slice (some ⟨L, 0, none⟩) n cp] w fun e w' => e = .returned (.tuple #[]) ∧ WS w' B W (fs ++ flds xs) ∧ Stq (Wown W) w w' := by
  have H := hide h
  have HB := hide hB
  have HF := hide hf
  have HK := hide hk
  have HN := hide hn
  have HM := hide hM
  have HL := hide hL
  have HP := hide hp
  clear h hB hf hk hn hM hL hp
  go_enter Tryz.func113, Tryz.ntmps113
  go_wp2_with fail
  go_loopw [8] (fun i wr => ∃ j : Nat, j ≤ n ∧ i = .int .i64 j ∧ Hid (WS wr B W (fs ++ flds (xs.take j))) ∧ Hid (Stq (Wown W) w wr)) (fun i _ => n - (intOf i).toNat)
  case atStart => exact ⟨0, Nat.zero_le _, rfl, by show WS _ _ _ _; rw [List.take_zero, flds_nil, List.append_nil]; exact H.out, Stq.refl _ _⟩
  case round =>
    obtain ⟨j, hj, rfl, HW, HS⟩ := hrel
    by_cases hlt : j < n
    · have hi : (j : Int) < (n : Int) := by omega
      have c1 := HS.out.cell (HP.out j hlt) HL.out
      have hlx : j < xs.length := by rw [HN.out]; exact hlt
      obtain ⟨v, h1, h2⟩ := HF.out j _ (List.getElem?_eq_getElem hlx)
      have hk0 := HK.out _ (List.getElem_mem hlx)
      obtain ⟨ev, b1, b2⟩ := atom_int h2 hk0
      subst ev
      have c2 := HS.out.cell h1 HM.out
      have HT := hide (take_flds xs j _ (List.getElem?_eq_getElem hlx) fs)
      have HA := hide (fldA_int hk0)
      obtain ⟨z, ez⟩ : ∃ z, z = xs[j].z := ⟨_, rfl⟩
      rw [← ez] at b1 b2 c2 HA
      have CI := hide (cintw_any z wr b1 b2)
      have WF := hide (cnumB_wfs (zig z) (zig_lt z b1 b2))
      clear ez h2 hk0 h1
      go_wp2_with fail
      refine CI.out.mono ?_
      rintro e w1 ⟨y, rfl, hown, hb⟩
      obtain ⟨a, c, rfl, q⟩ := sq_of_row rfl WF.out hown
      have hlen := (numB_length (zig z)).2
      have W1 := HW.out.below hb
      have hap : ∀ b off, a = some ⟨b, off, none⟩ → 0 < (numB (zig z)).length → b ≠ W := by
        intro b off e _
        obtain ⟨am, cm, em, mm⟩ := mine_of_row rfl WF.out hown
        simp only [Value.slice.injEq] at em
        obtain ⟨rfl, _, rfl⟩ := em
        obtain ⟨g, cur, e1, e2, _⟩ := mm.2 _ e
        cases e1
        have := HW.out.lt
        omega
      have CP := hide (wput_any W1 (Nat.le_trans HB.out (Nat.le_trans HS.out.size hb.size)) q (by omega) hap)
      have HB1 := hide hb
      clear hown q W1 hap hlen hb CI
      go_wp2_with fail
      refine CP.out.mono ?_
      rintro e w2 ⟨rfl, hw2, hs2⟩
      have HW2 := hide hw2
      have HS2 := hide hs2
      clear hw2 hs2 CP
      go_wp2_with fail
      go_roundw
      case rel =>
        refine ⟨j + 1, by omega, by go_num, ?_, HS.out.trans ((stq_below HB1.out HW.out.lt).trans HS2.out)⟩
        show WS _ _ _ _
        rw [HT.out, HA.out]
        exact HW2.out
      case measure => simp [intOf]; omega
    · go_wp2_with fail
      refine bodyPost_end (results_none rfl _ _ _) rfl ?_
      refine ⟨rfl, ?_, HS.out⟩
      have := HW.out
      rw [List.take_of_length_le (by rw [HN.out]; omega)] at this
      exact this
end Go.Proofs.YthklpkmdmkgjiaaGreat

namespace Go.Proofs.YthklpkmdmkgjiaaGreat
open Go.ChangeShapes Go.WideShapes Go.ChangeAt Go.RowKit B8 Cm Wm
set_option linter.unusedVariables false

/-- the writer behind fields that may not be written: behind whatever such fields -/
def WSbad (w : World) (B W : Nat) : Prop := ∀ gs, okAll gs = false → WS w B W gs

theorem wfits_yes {w : World} {B W : Nat} {fs : List Fld} (h : WS w B W fs) (ho : okAll fs = true) (n most : Int) (hn : n ≤ most) :
    Calls Tryz.prog 115 #[.pointer (some ⟨W, 0, none⟩), .int .i64 n, .int .i64 most] w fun e w' => e = .returned (.bool true) ∧ WS w' B W fs ∧ Stq (Wown W) w w' := by
  obtain ⟨v, xs, long, h⟩ := h
  obtain ⟨rfl, _⟩ := h.some_ok ho
  refine (wfits_any n most h.c1 h.f1).mono ?_
  rintro e w' ⟨rfl, rfl⟩
  have hd : decide (most < n) = false := by simp; omega
  rw [hd]
  exact ⟨rfl, ⟨_, _, _, wst_flag h⟩, wown_set h.c0 _⟩
theorem wfits_no {w : World} {B W : Nat} {fs : List Fld} (h : WS w B W fs) (n most : Int) (hn : okAll fs = false ∨ most < n) :
    Calls Tryz.prog 115 #[.pointer (some ⟨W, 0, none⟩), .int .i64 n, .int .i64 most] w fun e w' => e = .returned (.bool false) ∧ WSbad w' B W ∧ Stq (Wown W) w w' := by
  obtain ⟨v, xs, long, h⟩ := h
  refine (wfits_any n most h.c1 h.f1).mono ?_
  rintro e w' ⟨rfl, rfl⟩
  have hd : (long || decide (most < n)) = true := by
    rcases hn with hn | hn
    · rw [h.some_no hn]; rfl
    · rw [decide_eq_true hn]; cases long <;> rfl
  rw [hd]
  exact ⟨rfl, fun gs hg => ⟨_, _, _, wst_bad h gs hg⟩, wown_set h.c0 _⟩
theorem WSbad.below {w w1 : World} {B W : Nat} (h : WSbad w B W) (hb : Below w.heap.size w w1) : WSbad w1 B W := fun gs hg => (h gs hg).below hb

/-- put, of bytes that a call has just made -/
theorem wput_row {w w1 : World} {B W : Nat} {fs : List Fld} {bs : List Int} {y : Value} (h : WS w B W fs) (hB : B ≤ w.heap.size) (hb : Below w.heap.size w w1) (hl : bs.length ≤ 140737488000000) (hw : wfs bs)
    (hown : w1.ownsRow w.heap.size 5 1 y bs.length (vals bs)) :
    Calls Tryz.prog 116 #[.pointer (some ⟨W, 0, none⟩), y] w1 fun e w' => e = .returned (.tuple #[]) ∧ WS w' B W (fs ++ [⟨bs, true⟩]) ∧ Stq (Wown W) w w' := by
  obtain ⟨a, c, rfl, q⟩ := sq_of_row rfl hw hown
  have hap : ∀ b off, a = some ⟨b, off, none⟩ → 0 < bs.length → b ≠ W := by
    intro b off e _
    obtain ⟨am, cm, em, mm⟩ := mine_of_row rfl hw hown
    simp only [Value.slice.injEq] at em
    obtain ⟨rfl, _, rfl⟩ := em
    obtain ⟨g, cur, e1, e2, _⟩ := mm.2 _ e
    cases e1
    have := h.lt
    omega
  exact (wput_any (h.below hb) (Nat.le_trans hB hb.size) q hl hap).mono fun e w' ⟨h1, h2, h3⟩ => ⟨h1, h2, (stq_below hb h.lt).trans h3⟩

theorem fldA_text {x : Atom} (hk : x.k = 3 ∨ x.k = 4) : fldA x = ⟨numB x.bs.length ++ x.bs, decide (x.bs.length ≤ 65535)⟩ := by
  unfold fldA atomB atomFit
  rcases hk with hk | hk <;> rw [hk] <;> rfl
theorem fldA_small {x : Atom} (hk : x.k = 1) : fldA x = ⟨numB x.z.toNat, true⟩ := by
  unfold fldA atomB atomFit
  rw [hk]
  rfl
theorem fldA_flag {x : Atom} (hk : x.k = 2) : fldA x = ⟨[x.z], true⟩ := by
  unfold fldA atomB atomFit
  rw [hk]
  rfl

theorem werrno_any {w : World} {B W M o : Nat} {fs : List Fld} (z : Int) (z0 : -9223372036854775808 ≤ z) (z1 : z ≤ 9223372036854775807) (h : WS w B W fs) (hB : B ≤ w.heap.size) (hc : w.cell? ⟨M, o, none⟩ = some (.int .i64 z)) :
    Calls Tryz.prog 111 #[.pointer (some ⟨W, 0, none⟩), .pointer (some ⟨M, o, none⟩)] w fun e w' => e = .returned (.tuple #[]) ∧ WS w' B W (fs ++ [⟨numB (zig z), true⟩]) ∧ Stq (Wown W) w w' := by
  have CI := hide (cintw_any z w z0 z1)
  have WF := hide (cnumB_wfs (zig z) (zig_lt z z0 z1))
  have H := hide h
  have HB := hide hB
  clear h hB
  go_enter Tryz.func111, Tryz.ntmps111
  go_wp2_with fail
  refine CI.out.mono ?_
  rintro e w1 ⟨y, rfl, hown, hb⟩
  have CP := hide (wput_row H.out HB.out hb (by have := (numB_length (zig z)).2; omega) WF.out hown)
  clear hown hb
  go_wp2_with fail
  refine CP.out.mono ?_
  rintro e w2 ⟨rfl, hw2, hs2⟩
  go_wp2_with fail
  refine bodyPost_end (results_none rfl _ _ _) rfl ?_
  exact ⟨rfl, hw2, hs2⟩

theorem sq_one (w : World) (z : Int) (hz : 0 ≤ z ∧ z ≤ 255) : Sq (w.alloc (.cells #[.int .u8 z] 5)) (some ⟨w.heap.size, 0, none⟩) 1 1 [z] := by
  refine ⟨rfl, Nat.le_refl _, fun h => absurd h (by simp), fun _ => ⟨w.heap.size, 0, rfl, fun j hj => ?_⟩, wfs_cons (WalkArith.wf_u8 hz) wfs_nil⟩
  obtain rfl : j = 0 := by omega
  simp
theorem wflag_any {w : World} {B W M o : Nat} {fs : List Fld} (b : Bool) (h : WS w B W fs) (hB : B ≤ w.heap.size) (hc : w.cell? ⟨M, o, none⟩ = some (.bool b)) :
    Calls Tryz.prog 112 #[.pointer (some ⟨W, 0, none⟩), .pointer (some ⟨M, o, none⟩)] w fun e w' => e = .returned (.tuple #[]) ∧ WS w' B W (fs ++ [⟨[if b then 1 else 0], true⟩]) ∧ Stq (Wown W) w w' := by
  have hl := h.lt
  have go : ∀ z : Int, 0 ≤ z ∧ z ≤ 255 → Calls Tryz.prog 116 #[.pointer (some ⟨W, 0, none⟩), .slice (some ⟨w.heap.size, 0, none⟩) 1 1] (w.alloc (.cells #[.int .u8 z] 5)) fun e w' => e = .returned (.tuple #[]) ∧ WS w' B W (fs ++ [⟨[z], true⟩]) ∧ Stq (Wown W) w w' := by
    intro z hz
    have hb := below_alloc1 w (.cells #[.int .u8 z] 5)
    exact (wput_any (h.below hb) (Nat.le_trans hB hb.size) (sq_one w z hz) (by omega) (fun b off e _ => by cases e; omega)).mono fun e w' ⟨h1, h2, h3⟩ => ⟨h1, h2, (stq_below hb hl).trans h3⟩
  cases b
  · have CP := hide (go 0 (by omega))
    clear go h hB hl
    go_enter Tryz.func112, Tryz.ntmps112
    go_wp2_with fail
    refine CP.out.mono ?_
    rintro e w2 ⟨rfl, hw2, hs2⟩
    go_wp2_with fail
    refine bodyPost_end (results_none rfl _ _ _) rfl ?_
    exact ⟨rfl, hw2, hs2⟩
  · have CP := hide (go 1 (by omega))
    clear go h hB hl
    go_enter Tryz.func112, Tryz.ntmps112
    go_wp2_with fail
    refine CP.out.mono ?_
    rintro e w2 ⟨rfl, hw2, hs2⟩
    go_wp2_with fail
    refine bodyPost_end (results_none rfl _ _ _) rfl ?_
    exact ⟨rfl, hw2, hs2⟩

theorem wbytes_any {w : World} {B W M o : Nat} {fs : List Fld} {a : Option Addr} {n cp : Nat} {bs : List Int} (h : WS w B W fs) (hB : B ≤ w.heap.size) (hM : ¬ Wown W w M)
    (hc : w.cell? ⟨M, o, none⟩ = some (.slice a n cp)) (q : Sq w a n cp bs) (hn : n ≤ 140737488351232) (hP : ∀ b off, a = some ⟨b, off, none⟩ → 0 < n → ¬ Wown W w b ∧ b < w.heap.size) :
    Calls Tryz.prog 109 #[.pointer (some ⟨W, 0, none⟩), .pointer (some ⟨M, o, none⟩)] w fun e w' => e = .returned (.tuple #[]) ∧ WS w' B W (fs ++ [⟨numB bs.length ++ bs, decide (bs.length ≤ 65535)⟩]) ∧ Stq (Wown W) w w' := by
  have HL := hide q.length
  have H := hide h
  have HB := hide hB
  have Q := hide q
  have HP := hide hP
  have HC := hide hc
  have HM := hide hM
  clear h hB q hP hM
  by_cases hy : okAll fs = true ∧ n ≤ 65535
  · have CF := hide (wfits_yes H.out hy.1 (n : Int) 65535 (by omega))
    have hn5 := hy.2
    clear hy
    go_enter Tryz.func109, Tryz.ntmps109
    go_wp2_with fail
    refine CF.out.mono ?_
    rintro e w1 ⟨rfl, hw1, hs1⟩
    have c1 := hs1.cell HC.out HM.out
    have q1 : Sq w1 a n cp bs := sq_same Q.out (fun b off e h0 => hs1.block b (HP.out b off e h0).2 (HP.out b off e h0).1)
    have CT := hide (ctextw_sq q1 (by omega))
    have W1 := hide hw1
    have S1 := hide hs1
    have WF : Hid (wfs (numB bs.length ++ bs)) := wfs_append (cnumB_wfs _ (by rw [HL.out]; omega)) Q.out.wf
    clear hw1 hs1 q1 CF hc
    go_wp2_with fail
    refine CT.out.mono ?_
    rintro e w2 ⟨y, rfl, hown, hb⟩
    have CP := hide (wput_row W1.out (Nat.le_trans HB.out S1.out.size) hb (by rw [List.length_append, HL.out]; have := (numB_length n).2; omega) WF.out hown)
    clear hown hb CT
    go_wp2_with fail
    refine CP.out.mono ?_
    rintro e w3 ⟨rfl, hw3, hs3⟩
    have W3 := hide hw3
    have S3 := hide hs3
    clear hw3 hs3 CP
    go_wp2_with fail
    refine bodyPost_end (results_none rfl _ _ _) rfl ?_
    rw [decide_eq_true (show bs.length ≤ 65535 by rw [HL.out]; exact hn5)]
    exact ⟨rfl, W3.out, S1.out.trans S3.out⟩
  · have CF := hide (wfits_no H.out (n : Int) 65535 (by
      cases e : okAll fs with
      | false => exact .inl rfl
      | true => exact .inr (by have h2 : ¬ n ≤ 65535 := fun h => hy ⟨e, h⟩; omega)))
    have BAD : Hid (okAll (fs ++ [⟨numB bs.length ++ bs, decide (bs.length ≤ 65535)⟩]) = false) := by
      show _ = _
      rw [okAll_snoc]
      cases e : okAll fs with
      | false => rfl
      | true =>
        have : ¬ bs.length ≤ 65535 := by rw [HL.out]; exact fun h => hy ⟨e, h⟩
        rw [decide_eq_false this]
        rfl
    clear hy
    go_enter Tryz.func109, Tryz.ntmps109
    go_wp2_with fail
    refine CF.out.mono ?_
    rintro e w1 ⟨rfl, hw1, hs1⟩
    have W1 := hide (hw1 _ BAD.out)
    have S1 := hide hs1
    clear hw1 hs1
    go_wp2_with fail
    refine bodyPost_end (results_none rfl _ _ _) rfl ?_
    exact ⟨rfl, W1.out, S1.out⟩

theorem wcount_yes {w : World} {B W n : Nat} {fs : List Fld} (h : WS w B W fs) (hB : B ≤ w.heap.size) (ho : okAll fs = true) (hn : n ≤ 1024) :
    Calls Tryz.prog 110 #[.pointer (some ⟨W, 0, none⟩), .int .i64 n] w fun e w' => e = .returned (.int .i64 n) ∧ WS w' B W (fs ++ [fldN n]) ∧ Stq (Wown W) w w' := by
  have CF := hide (wfits_yes h ho (n : Int) 1024 (by omega))
  have HB := hide hB
  have HN : Hid (fldN n = ⟨numB n, true⟩) := by show _ = _; unfold fldN; rw [decide_eq_true hn]
  clear h hB ho
  go_enter Tryz.func110, Tryz.ntmps110
  go_wp2_with fail
  refine CF.out.mono ?_
  rintro e w1 ⟨rfl, hw1, hs1⟩
  have CN := hide (cnumw_any n w1 (by omega))
  have W1 := hide hw1
  have S1 := hide hs1
  have WF := hide (cnumB_wfs n (by omega))
  clear hw1 hs1 CF
  go_wp2_with fail
  refine CN.out.mono ?_
  rintro e w2 ⟨y, rfl, hown, hb⟩
  have CP := hide (wput_row W1.out (Nat.le_trans HB.out S1.out.size) hb (by have := (numB_length n).2; omega) WF.out hown)
  clear hown hb CN
  go_wp2_with fail
  refine CP.out.mono ?_
  rintro e w3 ⟨rfl, hw3, hs3⟩
  have W3 := hide hw3
  have S3 := hide hs3
  clear hw3 hs3 CP
  go_wp2_with fail
  go_ret
  rw [HN.out]
  exact ⟨rfl, W3.out, S1.out.trans S3.out⟩
theorem wcount_no {w : World} {B W n : Nat} {fs : List Fld} (h : WS w B W fs) (hn : okAll fs = false ∨ 1024 < n) :
    Calls Tryz.prog 110 #[.pointer (some ⟨W, 0, none⟩), .int .i64 n] w fun e w' => e = .returned (.int .i64 0) ∧ WSbad w' B W ∧ Stq (Wown W) w w' := by
  have CF := hide (wfits_no h (n : Int) 1024 (by rcases hn with hn | hn; exact .inl hn; exact .inr (by omega)))
  clear h hn
  go_enter Tryz.func110, Tryz.ntmps110
  go_wp2_with fail
  refine CF.out.mono ?_
  rintro e w1 ⟨rfl, hw1, hs1⟩
  have W1 := hide hw1
  have S1 := hide hs1
  clear hw1 hs1
  go_wp2_with fail
  go_ret
  exact ⟨rfl, W1.out, S1.out⟩

theorem wend_any {w : World} {B W : Nat} {fs : List Fld} (h : WS w B W fs) :
    Calls Tryz.prog 27 #[.pointer (some ⟨W, 0, none⟩)] w fun e w' => ∃ a cp, e = .returned (.tuple #[.slice a (wBytes fs).length cp, .int .i64 (wErr fs)]) ∧ Mine w' B a (wBytes fs).length cp (wBytes fs) ∧ w' = w := by
  obtain ⟨v, xs, long, h⟩ := h
  cases ho : okAll fs with
  | true =>
    obtain ⟨rfl, ex⟩ := h.some_ok ho
    have c1 := h.c1
    have hrow := h.row
    rw [ex] at hrow
    obtain ⟨a, cp, rfl, q⟩ := mine_of_row rfl (by rw [← ex]; exact h.wf) hrow
    have c0 := h.c0
    have Q := hide q
    rw [wBytes_ok ho, wErr_ok ho]
    clear h hrow q ho ex
    go_enter Tryz.func27, Tryz.ntmps27
    go_wp2_with fail
    go_ret2
    exact ⟨a, cp, rfl, Q.out, rfl⟩
  | false =>
    obtain rfl := h.some_no ho
    have c1 := h.c1
    rw [wBytes_no ho, wErr_no ho]
    clear h ho
    go_enter Tryz.func27, Tryz.ntmps27
    go_wp2_with fail
    go_ret2
    exact ⟨none, 0, rfl, ⟨⟨rfl, Nat.le_refl _, fun _ => rfl, fun h => absurd h (by simp), wfs_nil⟩, fun ad h => absurd h (by simp)⟩, rfl⟩
end Go.Proofs.YthklpkmdmkgjiaaGreat

namespace Go.Proofs.YthklpkmdmkgjiaaGreat
open Go.ChangeShapes Go.WideShapes Go.ChangeAt Go.RowKit B8 Cm Wm
set_option linter.unusedVariables false

theorem atom_str {w : World} {P : Nat → Prop} {v : Value} {x : Atom} (h : AtomV w P v x) (hk : x.k = 3) : ∃ s : ByteArray, v = .string s ∧ x.bs = strB s ∧ x.bs.length ≤ 140737488351232 := by
  rcases h with h | h | h | h | h
  · exact absurd hk (by have := h.1; omega)
  · exact absurd hk (by have := h.1; omega)
  · exact absurd hk (by have := h.1; omega)
  · exact h.2
  · exact absurd hk (by have := h.1; omega)

theorem wtexts_any {w : World} {B W : Nat} {fs : List Fld} {L M o n cp : Nat} {xs : List Atom} {P : Nat → Prop} (h : WS w B W fs) (hB : B ≤ w.heap.size)
    (hf : FlatAt w P M o xs) (hk : ∀ x ∈ xs, x.k = 3) (hn : xs.length = n) (hm : n ≤ 1000000) (hM : ¬ Wown W w M) (hL : ¬ Wown W w L)
    (hp : ∀ j, j < n → w.cell? ⟨L, j, none⟩ = some (.pointer (some ⟨M, o + j, none⟩))) :
    Calls Tryz.prog 114 #[.pointer (some ⟨W, 0, none⟩), .slice (some ⟨L, 0, none⟩) n cp] w fun e w' => e = .returned (.tuple #[]) ∧ WS w' B W (fs ++ flds xs) ∧ Stq (Wown W) w w' := by
  have H := hide h
  have HB := hide hB
  have HF := hide hf
  have HK := hide hk
  have HN := hide hn
  have HM := hide hM
  have HL := hide hL
  have HP := hide hp
  clear h hB hf hk hn hM hL hp
  go_enter Tryz.func114, Tryz.ntmps114
  go_wp2_with fail
  go_loopw [8] (fun i wr => ∃ j : Nat, j ≤ n ∧ i = .int .i64 j ∧ Hid (WS wr B W (fs ++ flds (xs.take j))) ∧ Hid (Stq (Wown W) w wr)) (fun i _ => n - (intOf i).toNat)
  case atStart => exact ⟨0, Nat.zero_le _, rfl, by show WS _ _ _ _; rw [List.take_zero, flds_nil, List.append_nil]; exact H.out, Stq.refl _ _⟩
  case round =>
    obtain ⟨j, hj, rfl, HW, HS⟩ := hrel
    by_cases hlt : j < n
    · have hi : (j : Int) < (n : Int) := by omega
      have c1 := HS.out.cell (HP.out j hlt) HL.out
      have hlx : j < xs.length := by rw [HN.out]; exact hlt
      obtain ⟨v, h1, h2⟩ := HF.out j _ (List.getElem?_eq_getElem hlx)
      have hk0 := HK.out _ (List.getElem_mem hlx)
      obtain ⟨s, ev, eb, hsz⟩ := atom_str h2 hk0
      subst ev
      have c2 := HS.out.cell h1 HM.out
      have hnM : ¬ Wown W wr M := HS.out.keep (World.block_lt_of_cell? w _ h1) HM.out
      have HT := hide (take_flds xs j _ (List.getElem?_eq_getElem hlx) fs)
      have ha := fldA_text (.inl hk0)
      rw [eb, strB_length] at ha
      rw [eb, strB_length] at hsz
      have HA := hide ha
      have C2 := hide c2
      clear ha eb h2 hk0 h1
      obtain ⟨gs, eg⟩ : ∃ gs, gs = fs ++ flds (xs.take j) := ⟨_, rfl⟩
      rw [← eg] at HW HT
      have hwl := HW.out.lt
      have NM := hide hnM
      have BR : Hid (B ≤ wr.heap.size) := Nat.le_trans HB.out HS.out.size
      clear eg hnM
      by_cases hy : okAll gs = true ∧ s.size ≤ 65535
      · have CF := hide (wfits_yes HW.out hy.1 (s.size : Int) 65535 (by omega))
        have hn5 := hy.2
        clear hy
        go_wp2_with fail
        refine CF.out.mono ?_
        rintro e w1 ⟨rfl, hw1, hs1⟩
        have c3 := hs1.cell C2.out NM.out
        obtain ⟨c, w2, hcv, hb2, q2⟩ := string_bytes w1 s
        have CT := hide (ctextw_sq q2 (by omega))
        have W2 := hide (hw1.below hb2)
        have S2 := hide (hs1.trans (stq_below hb2 hw1.lt))
        have WF : Hid (wfs (numB (strB s).length ++ strB s)) := wfs_append (cnumB_wfs _ (by rw [strB_length]; omega)) (strB_wfs s)
        clear hw1 hs1 q2 CF hb2
        go_wp2_with fail
        refine CT.out.mono ?_
        rintro e w3 ⟨y, rfl, hown, hb⟩
        have CP := hide (wput_row W2.out (Nat.le_trans BR.out S2.out.size) hb (by rw [List.length_append, strB_length]; have := (numB_length s.size).2; omega) WF.out hown)
        clear hown hb CT hcv
        go_wp2_with fail
        refine CP.out.mono ?_
        rintro e w4 ⟨rfl, hw4, hs4⟩
        have W4 := hide hw4
        have S4 := hide hs4
        clear hw4 hs4 CP
        go_wp2_with fail
        go_roundw
        case rel =>
          refine ⟨j + 1, by omega, by go_num, ?_, HS.out.trans (S2.out.trans S4.out)⟩
          show WS _ _ _ _
          rw [HT.out, HA.out, decide_eq_true hn5]
          have := W4.out
          rw [strB_length] at this
          exact this
        case measure => simp [intOf]; omega
      · have CF := hide (wfits_no HW.out (s.size : Int) 65535 (by
          cases e : okAll gs with
          | false => exact .inl rfl
          | true => exact .inr (by have h2 : ¬ s.size ≤ 65535 := fun h => hy ⟨e, h⟩; omega)))
        have BAD : Hid (okAll (gs ++ [⟨numB s.size ++ strB s, decide (s.size ≤ 65535)⟩]) = false) := by
          show _ = _
          rw [okAll_snoc]
          cases e : okAll gs with
          | false => rfl
          | true =>
            have : ¬ s.size ≤ 65535 := fun h => hy ⟨e, h⟩
            rw [decide_eq_false this]
            rfl
        clear hy
        go_wp2_with fail
        refine CF.out.mono ?_
        rintro e w1 ⟨rfl, hw1, hs1⟩
        have W1 := hide (hw1 _ BAD.out)
        have S1 := hide hs1
        clear hw1 hs1 CF
        go_wp2_with fail
        go_roundw
        case rel =>
          refine ⟨j + 1, by omega, by go_num, ?_, HS.out.trans S1.out⟩
          show WS _ _ _ _
          rw [HT.out, HA.out]
          exact W1.out
        case measure => simp [intOf]; omega
    · go_wp2_with fail
      refine bodyPost_end (results_none rfl _ _ _) rfl ?_
      refine ⟨rfl, ?_, HS.out⟩
      have := HW.out
      rw [List.take_of_length_le (by rw [HN.out]; omega)] at this
      exact this
end Go.Proofs.YthklpkmdmkgjiaaGreat

namespace Go.Proofs.YthklpkmdmkgjiaaGreat
open Go.ChangeShapes Go.WideShapes Go.ChangeAt Go.RowKit B8 Cm Wm
set_option linter.unusedVariables false

theorem nilw_ints (a : Addr) (w : World) : (nilAhead 319 76 (.pointer (some a)) "purse/wire.ints").run Tryz.prog w = .ok (some false) w := by kernel_rfl
theorem methw_ints (a : Addr) (w : World) : (method 319 76 (.pointer (some a)) "purse/wire.ints").run Tryz.prog w = .ok (113, .pointer (some a)) w := by kernel_rfl
theorem callw_ints (args : Array Value) (w : World) : (callFunc 113 args).run Tryz.prog w = .ok (.enter 113 args) w := by kernel_rfl
theorem nilw_texts (a : Addr) (w : World) : (nilAhead 319 76 (.pointer (some a)) "purse/wire.texts").run Tryz.prog w = .ok (some false) w := by kernel_rfl
theorem methw_texts (a : Addr) (w : World) : (method 319 76 (.pointer (some a)) "purse/wire.texts").run Tryz.prog w = .ok (114, .pointer (some a)) w := by kernel_rfl
theorem callw_texts (args : Array Value) (w : World) : (callFunc 114 args).run Tryz.prog w = .ok (.enter 114 args) w := by kernel_rfl
theorem nilw_bytes (a : Addr) (w : World) : (nilAhead 319 76 (.pointer (some a)) "purse/wire.bytes").run Tryz.prog w = .ok (some false) w := by kernel_rfl
theorem methw_bytes (a : Addr) (w : World) : (method 319 76 (.pointer (some a)) "purse/wire.bytes").run Tryz.prog w = .ok (109, .pointer (some a)) w := by kernel_rfl
theorem callw_bytes (args : Array Value) (w : World) : (callFunc 109 args).run Tryz.prog w = .ok (.enter 109 args) w := by kernel_rfl
theorem nilw_flag (a : Addr) (w : World) : (nilAhead 319 76 (.pointer (some a)) "purse/wire.flag").run Tryz.prog w = .ok (some false) w := by kernel_rfl
theorem methw_flag (a : Addr) (w : World) : (method 319 76 (.pointer (some a)) "purse/wire.flag").run Tryz.prog w = .ok (112, .pointer (some a)) w := by kernel_rfl
theorem callw_flag (args : Array Value) (w : World) : (callFunc 112 args).run Tryz.prog w = .ok (.enter 112 args) w := by kernel_rfl
theorem nilw_errno (a : Addr) (w : World) : (nilAhead 319 76 (.pointer (some a)) "purse/wire.errno").run Tryz.prog w = .ok (some false) w := by kernel_rfl
theorem methw_errno (a : Addr) (w : World) : (method 319 76 (.pointer (some a)) "purse/wire.errno").run Tryz.prog w = .ok (111, .pointer (some a)) w := by kernel_rfl
theorem callw_errno (args : Array Value) (w : World) : (callFunc 111 args).run Tryz.prog w = .ok (.enter 111 args) w := by kernel_rfl
theorem nilw_count (a : Addr) (w : World) : (nilAhead 319 76 (.pointer (some a)) "purse/wire.count").run Tryz.prog w = .ok (some false) w := by kernel_rfl
theorem methw_count (a : Addr) (w : World) : (method 319 76 (.pointer (some a)) "purse/wire.count").run Tryz.prog w = .ok (110, .pointer (some a)) w := by kernel_rfl
theorem callw_count (args : Array Value) (w : World) : (callFunc 110 args).run Tryz.prog w = .ok (.enter 110 args) w := by kernel_rfl
theorem FlatAt.stq {S : World → Nat → Prop} {w w1 : World} {M o : Nat} {xs : List Atom} (h : FlatAt w (Out S M w) M o xs) (g : Stq S w w1) (hM : M < w.heap.size) (hS : ¬ S w M) : FlatAt w1 (Out S M w1) M o xs :=
  h.same (fun j hj => World.cell?_of_block (w := w) (g.block M hM hS)) (fun b hb => ⟨⟨Nat.lt_of_lt_of_le hb.1 g.size, g.keep hb.1 hb.2.1, hb.2.2⟩, g.block b hb.1 hb.2.1⟩)
theorem kinds_all {xs : List Atom} {ks : List Nat} {k : Nat} (h : xs.map Atom.k = ks) (hk : ∀ j ∈ ks, j = k) : ∀ x ∈ xs, x.k = k := fun x hx => hk _ (by rw [← h]; exact List.mem_map_of_mem hx)
theorem ptr_cells (w : World) (cs : Array Value) (T : TypeId) (M o n : Nat) (hc : ∀ j, j < n → cs[j]? = some (.pointer (some ⟨M, o + j, none⟩))) : ∀ j, j < n → (w.alloc (.cells cs T)).drew.cell? ⟨w.heap.size, j, none⟩ = some (.pointer (some ⟨M, o + j, none⟩)) := by
  intro j hj
  have : (w.alloc (.cells cs T)).drew.heap[w.heap.size]? = some (.cells cs T) := heap_alloc_new w _
  unfold World.cell?
  rw [this]
  exact hc j hj
theorem below_ptrs (w : World) (o : Obj) : Below w.heap.size w (w.alloc o).drew := (below_alloc1 w o).drew

section
variable {w : World} {B W : Nat} {fs : List Fld} {M o n : Nat} {xs : List Atom}
theorem wown_new (h : WS w B W fs) (ob : Obj) : ¬ Wown W (w.alloc ob).drew w.heap.size := fun hk => by
  have := ((h.below (below_ptrs w ob)).base) _ hk
  rcases hk with hk | ⟨v, h1, h2⟩
  · have := h.lt; omega
  · rw [(below_ptrs w ob).cell (p := ⟨W, 0, none⟩) h.lt] at h1
    have := h.base _ (.inr ⟨v, h1, h2⟩)
    omega
theorem wints_call (h : WS w B W fs) (hB : B ≤ w.heap.size) (hf : FlatAt w (Out (Wown W) M w) M o xs) (hk : ∀ x ∈ xs, x.k = 0) (hn : xs.length = n) (hM : M < w.heap.size) (hS : ¬ Wown W w M) (cs : Array Value) (T : TypeId)
    (hc : ∀ j, j < n → cs[j]? = some (.pointer (some ⟨M, o + j, none⟩))) (hm : n ≤ 1000000 := by omega) :
    Calls Tryz.prog 113 #[.pointer (some ⟨W, 0, none⟩), .slice (some ⟨w.heap.size, 0, none⟩) n n] (w.alloc (.cells cs T)).drew fun e w' => e = .returned (.tuple #[]) ∧ WS w' B W (fs ++ flds xs) ∧ Stq (Wown W) w w' := by
  have hb := below_ptrs w (.cells cs T)
  have hq := stq_below hb h.lt
  exact (wints_any (cp := n) (h.below hb) (Nat.le_trans hB hb.size) (hf.stq hq hM hS) hk hn hm (hq.keep hM hS) (wown_new h _) (ptr_cells w cs T M o n hc)).mono fun e w' ⟨h1, h2, h3⟩ => ⟨h1, h2, hq.trans h3⟩
theorem wtexts_call (h : WS w B W fs) (hB : B ≤ w.heap.size) (hf : FlatAt w (Out (Wown W) M w) M o xs) (hk : ∀ x ∈ xs, x.k = 3) (hn : xs.length = n) (hM : M < w.heap.size) (hS : ¬ Wown W w M) (cs : Array Value) (T : TypeId)
    (hc : ∀ j, j < n → cs[j]? = some (.pointer (some ⟨M, o + j, none⟩))) (hm : n ≤ 1000000 := by omega) :
    Calls Tryz.prog 114 #[.pointer (some ⟨W, 0, none⟩), .slice (some ⟨w.heap.size, 0, none⟩) n n] (w.alloc (.cells cs T)).drew fun e w' => e = .returned (.tuple #[]) ∧ WS w' B W (fs ++ flds xs) ∧ Stq (Wown W) w w' := by
  have hb := below_ptrs w (.cells cs T)
  have hq := stq_below hb h.lt
  exact (wtexts_any (cp := n) (h.below hb) (Nat.le_trans hB hb.size) (hf.stq hq hM hS) hk hn hm (hq.keep hM hS) (wown_new h _) (ptr_cells w cs T M o n hc)).mono fun e w' ⟨h1, h2, h3⟩ => ⟨h1, h2, hq.trans h3⟩
theorem one_atom {k : Nat} (h : xs.map Atom.k = [k]) : ∃ x, xs = [x] ∧ x.k = k := by
  match xs, h with
  | [x], h => exact ⟨x, rfl, by simpa using h⟩
theorem flat_one {P : Nat → Prop} {x : Atom} (h : FlatAt w P M o [x]) : ∃ v, w.cell? ⟨M, o, none⟩ = some v ∧ AtomV w P v x := h 0 x rfl
theorem drew_cell (w : World) (a : Addr) : w.drew.cell? a = w.cell? a := rfl
theorem werrno_call (h : WS w B W fs) (hB : B ≤ w.heap.size) (hf : FlatAt w (Out (Wown W) M w) M o xs) (hk : xs.map Atom.k = [0]) (hM : M < w.heap.size) (hS : ¬ Wown W w M) :
    Calls Tryz.prog 111 #[.pointer (some ⟨W, 0, none⟩), .pointer (some ⟨M, o, none⟩)] w.drew fun e w' => e = .returned (.tuple #[]) ∧ WS w' B W (fs ++ flds xs) ∧ Stq (Wown W) w w' := by
  obtain ⟨x, rfl, hx⟩ := one_atom hk
  obtain ⟨v, hc, hv⟩ := flat_one hf
  obtain ⟨rfl, z0, z1⟩ := atom_int hv hx
  have hb := below_drew1 w
  refine (werrno_any x.z z0 z1 (h.below hb) (Nat.le_trans hB hb.size) hc).mono fun e w' ⟨h1, h2, h3⟩ => ⟨h1, ?_, (stq_below hb h.lt).trans h3⟩
  rw [← fldA_int hx] at h2
  exact h2
theorem wflag_call (h : WS w B W fs) (hB : B ≤ w.heap.size) (hf : FlatAt w (Out (Wown W) M w) M o xs) (hk : xs.map Atom.k = [2]) (hM : M < w.heap.size) (hS : ¬ Wown W w M) :
    Calls Tryz.prog 112 #[.pointer (some ⟨W, 0, none⟩), .pointer (some ⟨M, o, none⟩)] w.drew fun e w' => e = .returned (.tuple #[]) ∧ WS w' B W (fs ++ flds xs) ∧ Stq (Wown W) w w' := by
  obtain ⟨x, rfl, hx⟩ := one_atom hk
  obtain ⟨v, hc, hv⟩ := flat_one hf
  obtain ⟨b, rfl, ez⟩ : ∃ b : Bool, v = .bool b ∧ x.z = if b then 1 else 0 := by
    rcases hv with hv | hv | hv | hv | hv
    · exact absurd hx (by have := hv.1; omega)
    · exact absurd hx (by have := hv.1; omega)
    · rcases hv.2 with ⟨h1, h2⟩ | ⟨h1, h2⟩
      · exact ⟨true, h1, h2⟩
      · exact ⟨false, h1, h2⟩
    · exact absurd hx (by have := hv.1; omega)
    · exact absurd hx (by have := hv.1; omega)
  have hb := below_drew1 w
  refine (wflag_any b (h.below hb) (Nat.le_trans hB hb.size) hc).mono fun e w' ⟨h1, h2, h3⟩ => ⟨h1, ?_, (stq_below hb h.lt).trans h3⟩
  rw [← ez, ← fldA_flag hx] at h2
  exact h2
theorem wbytes_call (h : WS w B W fs) (hB : B ≤ w.heap.size) (hf : FlatAt w (Out (Wown W) M w) M o xs) (hk : xs.map Atom.k = [4]) (hM : M < w.heap.size) (hS : ¬ Wown W w M) :
    Calls Tryz.prog 109 #[.pointer (some ⟨W, 0, none⟩), .pointer (some ⟨M, o, none⟩)] w.drew fun e w' => e = .returned (.tuple #[]) ∧ WS w' B W (fs ++ flds xs) ∧ Stq (Wown W) w w' := by
  have hb := below_drew1 w
  have hq := stq_below hb h.lt
  have hf := hf.stq hq hM hS
  obtain ⟨x, rfl, hx⟩ := one_atom hk
  obtain ⟨v, hc, hv⟩ := flat_one hf
  obtain ⟨a, k, cp, rfl, q, hn, hP⟩ : ∃ a k cp, v = .slice a k cp ∧ Sq w.drew a k cp x.bs ∧ k ≤ 140737488351232 ∧ ∀ b off, a = some ⟨b, off, none⟩ → 0 < k → Out (Wown W) M w.drew b := by
    rcases hv with hv | hv | hv | hv | hv
    · exact absurd hx (by have := hv.1; omega)
    · exact absurd hx (by have := hv.1; omega)
    · exact absurd hx (by have := hv.1; omega)
    · exact absurd hx (by have := hv.1; omega)
    · exact hv.2
  refine (wbytes_any (h.below hb) (Nat.le_trans hB hb.size) (hq.keep hM hS) hc q hn (fun b off e h0 => ⟨(hP b off e h0).2.1, (hP b off e h0).1⟩)).mono fun e w' ⟨h1, h2, h3⟩ => ⟨h1, ?_, hq.trans h3⟩
  rw [← fldA_text (.inr hx)] at h2
  exact h2
end

theorem wop_any {w : World} {B W : Nat} {fs : List Fld} {M o : Nat} {xs : List Atom} (h : WS w B W fs) (hB : B ≤ w.heap.size) (hf : FlatAt w (Out (Wown W) M w) M o xs) (hk : xs.map Atom.k = [0, 3, 3, 0, 0, 0]) (hM : M < w.heap.size) (hS : ¬ Wown W w M) :
    Calls Tryz.prog 64 #[.iface 76 (.pointer (some ⟨W, 0, none⟩)), .pointer (some ⟨M, o, none⟩)] w fun e w' => e = .returned (.tuple #[]) ∧ WS w' B W (fs ++ flds xs) ∧ Stq (Wown W) w w' := by
  obtain ⟨s0, r0, rfl, k0, hk⟩ := List.map_eq_append_iff.1 (show _ = [0] ++ [3, 3, 0, 0, 0] from hk)
  have l0 : s0.length = 1 := by have := congrArg List.length k0; simpa using this
  obtain ⟨s1, r1, rfl, k1, hk⟩ := List.map_eq_append_iff.1 (show _ = [3, 3] ++ [0, 0, 0] from hk)
  have l1 : s1.length = 2 := by have := congrArg List.length k1; simpa using this
  obtain ⟨s2, rfl⟩ : ∃ s, s = r1 := ⟨_, rfl⟩
  have k2 := hk
  have l2 : s2.length = 3 := by have := congrArg List.length k2; simpa using this
  have f0 := hf.left
  have g0 := hf.right
  rw [l0] at g0
  have f1 := g0.left
  have g1 := g0.right
  rw [l1, Nat.add_assoc] at g1
  simp only [Nat.reduceAdd] at g1
  have f2 := g1
  refine (go_op (M := M) (o := o) nilw_ints methw_ints callw_ints nilw_texts methw_texts callw_texts
    (R0 := fun u => WS u B W (fs) ∧ Stq (Wown W) w u)
    (R1 := fun u => WS u B W (fs ++ flds s0) ∧ Stq (Wown W) w u)
    (R2 := fun u => WS u B W (fs ++ flds s0 ++ flds s1) ∧ Stq (Wown W) w u)
    (R3 := fun u => WS u B W (fs ++ flds s0 ++ flds s1 ++ flds s2) ∧ Stq (Wown W) w u)
    (fun u hu => (wints_call hu.1 (Nat.le_trans hB hu.2.size) (f0.stq hu.2 hM hS) (kinds_all k0 (by simp)) l0 (Nat.lt_of_lt_of_le hM hu.2.size) (hu.2.keep hM hS) #[.pointer (some ⟨M, o, none⟩)] 82 (fun j hj => match j, hj with | 0, _ => rfl)).mono fun e w' ⟨h1, h2, h3⟩ => ⟨h1, h2, hu.2.trans h3⟩)
    (fun u hu => (wtexts_call hu.1 (Nat.le_trans hB hu.2.size) (f1.stq hu.2 hM hS) (kinds_all k1 (by simp)) l1 (Nat.lt_of_lt_of_le hM hu.2.size) (hu.2.keep hM hS) #[.pointer (some ⟨M, o + 1, none⟩), .pointer (some ⟨M, o + 2, none⟩)] 86 (fun j hj => match j, hj with | 0, _ => rfl | 1, _ => rfl)).mono fun e w' ⟨h1, h2, h3⟩ => ⟨h1, h2, hu.2.trans h3⟩)
    (fun u hu => (wints_call hu.1 (Nat.le_trans hB hu.2.size) (f2.stq hu.2 hM hS) (kinds_all k2 (by simp)) l2 (Nat.lt_of_lt_of_le hM hu.2.size) (hu.2.keep hM hS) #[.pointer (some ⟨M, o + 3, none⟩), .pointer (some ⟨M, o + 4, none⟩), .pointer (some ⟨M, o + 5, none⟩)] 82 (fun j hj => match j, hj with | 0, _ => rfl | 1, _ => rfl | 2, _ => rfl)).mono fun e w' ⟨h1, h2, h3⟩ => ⟨h1, h2, hu.2.trans h3⟩)
    w ⟨h, Stq.refl _ _⟩).mono fun e w' ⟨h1, h2, h3⟩ => ⟨h1, ?_, h3⟩
  simpa only [flds_append, List.append_assoc] using h2

theorem wplan_any {w : World} {B W : Nat} {fs : List Fld} {M o : Nat} {xs : List Atom} (h : WS w B W fs) (hB : B ≤ w.heap.size) (hf : FlatAt w (Out (Wown W) M w) M o xs) (hk : xs.map Atom.k = [0, 0, 0, 3, 3, 0, 0]) (hM : M < w.heap.size) (hS : ¬ Wown W w M) :
    Calls Tryz.prog 42 #[.iface 76 (.pointer (some ⟨W, 0, none⟩)), .pointer (some ⟨M, o, none⟩)] w fun e w' => e = .returned (.tuple #[]) ∧ WS w' B W (fs ++ flds xs) ∧ Stq (Wown W) w w' := by
  obtain ⟨s0, r0, rfl, k0, hk⟩ := List.map_eq_append_iff.1 (show _ = [0, 0, 0] ++ [3, 3, 0, 0] from hk)
  have l0 : s0.length = 3 := by have := congrArg List.length k0; simpa using this
  obtain ⟨s1, r1, rfl, k1, hk⟩ := List.map_eq_append_iff.1 (show _ = [3, 3] ++ [0, 0] from hk)
  have l1 : s1.length = 2 := by have := congrArg List.length k1; simpa using this
  obtain ⟨s2, rfl⟩ : ∃ s, s = r1 := ⟨_, rfl⟩
  have k2 := hk
  have l2 : s2.length = 2 := by have := congrArg List.length k2; simpa using this
  have f0 := hf.left
  have g0 := hf.right
  rw [l0] at g0
  have f1 := g0.left
  have g1 := g0.right
  rw [l1, Nat.add_assoc] at g1
  simp only [Nat.reduceAdd] at g1
  have f2 := g1
  refine (go_plan (M := M) (o := o) nilw_ints methw_ints callw_ints nilw_texts methw_texts callw_texts
    (R0 := fun u => WS u B W (fs) ∧ Stq (Wown W) w u)
    (R1 := fun u => WS u B W (fs ++ flds s0) ∧ Stq (Wown W) w u)
    (R2 := fun u => WS u B W (fs ++ flds s0 ++ flds s1) ∧ Stq (Wown W) w u)
    (R3 := fun u => WS u B W (fs ++ flds s0 ++ flds s1 ++ flds s2) ∧ Stq (Wown W) w u)
    (fun u hu => (wints_call hu.1 (Nat.le_trans hB hu.2.size) (f0.stq hu.2 hM hS) (kinds_all k0 (by simp)) l0 (Nat.lt_of_lt_of_le hM hu.2.size) (hu.2.keep hM hS) #[.pointer (some ⟨M, o, none⟩), .pointer (some ⟨M, o + 1, none⟩), .pointer (some ⟨M, o + 2, none⟩)] 82 (fun j hj => match j, hj with | 0, _ => rfl | 1, _ => rfl | 2, _ => rfl)).mono fun e w' ⟨h1, h2, h3⟩ => ⟨h1, h2, hu.2.trans h3⟩)
    (fun u hu => (wtexts_call hu.1 (Nat.le_trans hB hu.2.size) (f1.stq hu.2 hM hS) (kinds_all k1 (by simp)) l1 (Nat.lt_of_lt_of_le hM hu.2.size) (hu.2.keep hM hS) #[.pointer (some ⟨M, o + 3, none⟩), .pointer (some ⟨M, o + 4, none⟩)] 86 (fun j hj => match j, hj with | 0, _ => rfl | 1, _ => rfl)).mono fun e w' ⟨h1, h2, h3⟩ => ⟨h1, h2, hu.2.trans h3⟩)
    (fun u hu => (wints_call hu.1 (Nat.le_trans hB hu.2.size) (f2.stq hu.2 hM hS) (kinds_all k2 (by simp)) l2 (Nat.lt_of_lt_of_le hM hu.2.size) (hu.2.keep hM hS) #[.pointer (some ⟨M, o + 5, none⟩), .pointer (some ⟨M, o + 6, none⟩)] 82 (fun j hj => match j, hj with | 0, _ => rfl | 1, _ => rfl)).mono fun e w' ⟨h1, h2, h3⟩ => ⟨h1, h2, hu.2.trans h3⟩)
    w ⟨h, Stq.refl _ _⟩).mono fun e w' ⟨h1, h2, h3⟩ => ⟨h1, ?_, h3⟩
  simpa only [flds_append, List.append_assoc] using h2






theorem wmark_any {w : World} {B W : Nat} {fs : List Fld} {M o : Nat} {xs : List Atom} (h : WS w B W fs) (hB : B ≤ w.heap.size) (hf : FlatAt w (Out (Wown W) M w) M o xs) (hk : xs.map Atom.k = [0, 0, 2, 0, 0, 0, 0]) (hM : M < w.heap.size) (hS : ¬ Wown W w M) :
    Calls Tryz.prog 33 #[.iface 76 (.pointer (some ⟨W, 0, none⟩)), .pointer (some ⟨M, o, none⟩)] w fun e w' => e = .returned (.tuple #[]) ∧ WS w' B W (fs ++ flds xs) ∧ Stq (Wown W) w w' := by
  obtain ⟨s0, r0, rfl, k0, hk⟩ := List.map_eq_append_iff.1 (show _ = [0, 0] ++ [2, 0, 0, 0, 0] from hk)
  have l0 : s0.length = 2 := by have := congrArg List.length k0; simpa using this
  obtain ⟨s1, r1, rfl, k1, hk⟩ := List.map_eq_append_iff.1 (show _ = [2] ++ [0, 0, 0, 0] from hk)
  have l1 : s1.length = 1 := by have := congrArg List.length k1; simpa using this
  obtain ⟨s2, r2, rfl, k2, hk⟩ := List.map_eq_append_iff.1 (show _ = [0] ++ [0, 0, 0] from hk)
  have l2 : s2.length = 1 := by have := congrArg List.length k2; simpa using this
  obtain ⟨s3, rfl⟩ : ∃ s, s = r2 := ⟨_, rfl⟩
  have k3 := hk
  have l3 : s3.length = 3 := by have := congrArg List.length k3; simpa using this
  have f0 := hf.left
  have g0 := hf.right
  rw [l0] at g0
  have f1 := g0.left
  have g1 := g0.right
  rw [l1, Nat.add_assoc] at g1
  simp only [Nat.reduceAdd] at g1
  have f2 := g1.left
  have g2 := g1.right
  rw [l2, Nat.add_assoc] at g2
  simp only [Nat.reduceAdd] at g2
  have f3 := g2
  refine (go_mark (M := M) (o := o) nilw_ints methw_ints callw_ints nilw_flag methw_flag callw_flag nilw_errno methw_errno callw_errno
    (R0 := fun u => WS u B W (fs) ∧ Stq (Wown W) w u)
    (R1 := fun u => WS u B W (fs ++ flds s0) ∧ Stq (Wown W) w u)
    (R2 := fun u => WS u B W (fs ++ flds s0 ++ flds s1) ∧ Stq (Wown W) w u)
    (R3 := fun u => WS u B W (fs ++ flds s0 ++ flds s1 ++ flds s2) ∧ Stq (Wown W) w u)
    (R4 := fun u => WS u B W (fs ++ flds s0 ++ flds s1 ++ flds s2 ++ flds s3) ∧ Stq (Wown W) w u)
    (fun u hu => (wints_call hu.1 (Nat.le_trans hB hu.2.size) (f0.stq hu.2 hM hS) (kinds_all k0 (by simp)) l0 (Nat.lt_of_lt_of_le hM hu.2.size) (hu.2.keep hM hS) #[.pointer (some ⟨M, o, none⟩), .pointer (some ⟨M, o + 1, none⟩)] 82 (fun j hj => match j, hj with | 0, _ => rfl | 1, _ => rfl)).mono fun e w' ⟨h1, h2, h3⟩ => ⟨h1, h2, hu.2.trans h3⟩)
    (fun u hu => (wflag_call hu.1 (Nat.le_trans hB hu.2.size) (f1.stq hu.2 hM hS) k1 (Nat.lt_of_lt_of_le hM hu.2.size) (hu.2.keep hM hS)).mono fun e w' ⟨h1, h2, h3⟩ => ⟨h1, h2, hu.2.trans h3⟩)
    (fun u hu => (werrno_call hu.1 (Nat.le_trans hB hu.2.size) (f2.stq hu.2 hM hS) k2 (Nat.lt_of_lt_of_le hM hu.2.size) (hu.2.keep hM hS)).mono fun e w' ⟨h1, h2, h3⟩ => ⟨h1, h2, hu.2.trans h3⟩)
    (fun u hu => (wints_call hu.1 (Nat.le_trans hB hu.2.size) (f3.stq hu.2 hM hS) (kinds_all k3 (by simp)) l3 (Nat.lt_of_lt_of_le hM hu.2.size) (hu.2.keep hM hS) #[.pointer (some ⟨M, o + 4, none⟩), .pointer (some ⟨M, o + 5, none⟩), .pointer (some ⟨M, o + 6, none⟩)] 82 (fun j hj => match j, hj with | 0, _ => rfl | 1, _ => rfl | 2, _ => rfl)).mono fun e w' ⟨h1, h2, h3⟩ => ⟨h1, h2, hu.2.trans h3⟩)
    w ⟨h, Stq.refl _ _⟩).mono fun e w' ⟨h1, h2, h3⟩ => ⟨h1, ?_, h3⟩
  simpa only [flds_append, List.append_assoc] using h2

theorem wwait_any {w : World} {B W : Nat} {fs : List Fld} {M o : Nat} {xs : List Atom} (h : WS w B W fs) (hB : B ≤ w.heap.size) (hf : FlatAt w (Out (Wown W) M w) M o xs) (hk : xs.map Atom.k = [0, 0, 0, 0, 0, 0, 3, 3, 0, 0, 0]) (hM : M < w.heap.size) (hS : ¬ Wown W w M) :
    Calls Tryz.prog 36 #[.iface 76 (.pointer (some ⟨W, 0, none⟩)), .pointer (some ⟨M, o, none⟩)] w fun e w' => e = .returned (.tuple #[]) ∧ WS w' B W (fs ++ flds xs) ∧ Stq (Wown W) w w' := by
  obtain ⟨s0, r0, rfl, k0, hk⟩ := List.map_eq_append_iff.1 (show _ = [0, 0, 0, 0, 0] ++ [0, 3, 3, 0, 0, 0] from hk)
  have l0 : s0.length = 5 := by have := congrArg List.length k0; simpa using this
  obtain ⟨s1, rfl⟩ : ∃ s, s = r0 := ⟨_, rfl⟩
  have k1 := hk
  have l1 : s1.length = 6 := by have := congrArg List.length k1; simpa using this
  have f0 := hf.left
  have g0 := hf.right
  rw [l0] at g0
  have f1 := g0
  refine (go_wait (M := M) (o := o) nilw_ints methw_ints callw_ints
    (R0 := fun u => WS u B W (fs) ∧ Stq (Wown W) w u)
    (R1 := fun u => WS u B W (fs ++ flds s0) ∧ Stq (Wown W) w u)
    (R2 := fun u => WS u B W (fs ++ flds s0 ++ flds s1) ∧ Stq (Wown W) w u)
    (fun u hu => (wints_call hu.1 (Nat.le_trans hB hu.2.size) (f0.stq hu.2 hM hS) (kinds_all k0 (by simp)) l0 (Nat.lt_of_lt_of_le hM hu.2.size) (hu.2.keep hM hS) #[.pointer (some ⟨M, o, none⟩), .pointer (some ⟨M, o + 1, none⟩), .pointer (some ⟨M, o + 2, none⟩), .pointer (some ⟨M, o + 3, none⟩), .pointer (some ⟨M, o + 4, none⟩)] 82 (fun j hj => match j, hj with | 0, _ => rfl | 1, _ => rfl | 2, _ => rfl | 3, _ => rfl | 4, _ => rfl)).mono fun e w' ⟨h1, h2, h3⟩ => ⟨h1, h2, hu.2.trans h3⟩)
    (fun u hu => (wop_any hu.1 (Nat.le_trans hB hu.2.size) (f1.stq hu.2 hM hS) k1 (Nat.lt_of_lt_of_le hM hu.2.size) (hu.2.keep hM hS)).mono fun e w' ⟨h1, h2, h3⟩ => ⟨h1, h2, hu.2.trans h3⟩)
    w ⟨h, Stq.refl _ _⟩).mono fun e w' ⟨h1, h2, h3⟩ => ⟨h1, ?_, h3⟩
  simpa only [flds_append, List.append_assoc] using h2

theorem wdeal_any {w : World} {B W : Nat} {fs : List Fld} {M o : Nat} {xs : List Atom} (h : WS w B W fs) (hB : B ≤ w.heap.size) (hf : FlatAt w (Out (Wown W) M w) M o xs) (hk : xs.map Atom.k = [0, 0, 3, 3, 0, 0, 0, 0]) (hM : M < w.heap.size) (hS : ¬ Wown W w M) :
    Calls Tryz.prog 39 #[.iface 76 (.pointer (some ⟨W, 0, none⟩)), .pointer (some ⟨M, o, none⟩)] w fun e w' => e = .returned (.tuple #[]) ∧ WS w' B W (fs ++ flds xs) ∧ Stq (Wown W) w w' := by
  obtain ⟨s0, r0, rfl, k0, hk⟩ := List.map_eq_append_iff.1 (show _ = [0, 0] ++ [3, 3, 0, 0, 0, 0] from hk)
  have l0 : s0.length = 2 := by have := congrArg List.length k0; simpa using this
  obtain ⟨s1, r1, rfl, k1, hk⟩ := List.map_eq_append_iff.1 (show _ = [3, 3] ++ [0, 0, 0, 0] from hk)
  have l1 : s1.length = 2 := by have := congrArg List.length k1; simpa using this
  obtain ⟨s2, rfl⟩ : ∃ s, s = r1 := ⟨_, rfl⟩
  have k2 := hk
  have l2 : s2.length = 4 := by have := congrArg List.length k2; simpa using this
  have f0 := hf.left
  have g0 := hf.right
  rw [l0] at g0
  have f1 := g0.left
  have g1 := g0.right
  rw [l1, Nat.add_assoc] at g1
  simp only [Nat.reduceAdd] at g1
  have f2 := g1
  refine (go_deal (M := M) (o := o) nilw_ints methw_ints callw_ints nilw_texts methw_texts callw_texts
    (R0 := fun u => WS u B W (fs) ∧ Stq (Wown W) w u)
    (R1 := fun u => WS u B W (fs ++ flds s0) ∧ Stq (Wown W) w u)
    (R2 := fun u => WS u B W (fs ++ flds s0 ++ flds s1) ∧ Stq (Wown W) w u)
    (R3 := fun u => WS u B W (fs ++ flds s0 ++ flds s1 ++ flds s2) ∧ Stq (Wown W) w u)
    (fun u hu => (wints_call hu.1 (Nat.le_trans hB hu.2.size) (f0.stq hu.2 hM hS) (kinds_all k0 (by simp)) l0 (Nat.lt_of_lt_of_le hM hu.2.size) (hu.2.keep hM hS) #[.pointer (some ⟨M, o, none⟩), .pointer (some ⟨M, o + 1, none⟩)] 82 (fun j hj => match j, hj with | 0, _ => rfl | 1, _ => rfl)).mono fun e w' ⟨h1, h2, h3⟩ => ⟨h1, h2, hu.2.trans h3⟩)
    (fun u hu => (wtexts_call hu.1 (Nat.le_trans hB hu.2.size) (f1.stq hu.2 hM hS) (kinds_all k1 (by simp)) l1 (Nat.lt_of_lt_of_le hM hu.2.size) (hu.2.keep hM hS) #[.pointer (some ⟨M, o + 2, none⟩), .pointer (some ⟨M, o + 3, none⟩)] 86 (fun j hj => match j, hj with | 0, _ => rfl | 1, _ => rfl)).mono fun e w' ⟨h1, h2, h3⟩ => ⟨h1, h2, hu.2.trans h3⟩)
    (fun u hu => (wints_call hu.1 (Nat.le_trans hB hu.2.size) (f2.stq hu.2 hM hS) (kinds_all k2 (by simp)) l2 (Nat.lt_of_lt_of_le hM hu.2.size) (hu.2.keep hM hS) #[.pointer (some ⟨M, o + 4, none⟩), .pointer (some ⟨M, o + 5, none⟩), .pointer (some ⟨M, o + 6, none⟩), .pointer (some ⟨M, o + 7, none⟩)] 82 (fun j hj => match j, hj with | 0, _ => rfl | 1, _ => rfl | 2, _ => rfl | 3, _ => rfl)).mono fun e w' ⟨h1, h2, h3⟩ => ⟨h1, h2, hu.2.trans h3⟩)
    w ⟨h, Stq.refl _ _⟩).mono fun e w' ⟨h1, h2, h3⟩ => ⟨h1, ?_, h3⟩
  simpa only [flds_append, List.append_assoc] using h2


theorem wcommand_any {w : World} {B W : Nat} {fs : List Fld} {M o : Nat} {xs : List Atom} (h : WS w B W fs) (hB : B ≤ w.heap.size) (hf : FlatAt w (Out (Wown W) M w) M o xs) (hk : xs.map Atom.k = [0, 0, 0, 0, 0, 0, 3, 0, 0, 0, 2, 0, 3, 3, 0, 0, 0, 0, 0, 0, 3, 3, 0, 0, 4]) (hM : M < w.heap.size) (hS : ¬ Wown W w M) :
    Calls Tryz.prog 59 #[.iface 76 (.pointer (some ⟨W, 0, none⟩)), .pointer (some ⟨M, o, none⟩)] w fun e w' => e = .returned (.tuple #[]) ∧ WS w' B W (fs ++ flds xs) ∧ Stq (Wown W) w w' := by
  obtain ⟨s0, r0, rfl, k0, hk⟩ := List.map_eq_append_iff.1 (show _ = [0, 0, 0, 0, 0, 0] ++ [3, 0, 0, 0, 2, 0, 3, 3, 0, 0, 0, 0, 0, 0, 3, 3, 0, 0, 4] from hk)
  have l0 : s0.length = 6 := by have := congrArg List.length k0; simpa using this
  obtain ⟨s1, r1, rfl, k1, hk⟩ := List.map_eq_append_iff.1 (show _ = [3] ++ [0, 0, 0, 2, 0, 3, 3, 0, 0, 0, 0, 0, 0, 3, 3, 0, 0, 4] from hk)
  have l1 : s1.length = 1 := by have := congrArg List.length k1; simpa using this
  obtain ⟨s2, r2, rfl, k2, hk⟩ := List.map_eq_append_iff.1 (show _ = [0, 0, 0] ++ [2, 0, 3, 3, 0, 0, 0, 0, 0, 0, 3, 3, 0, 0, 4] from hk)
  have l2 : s2.length = 3 := by have := congrArg List.length k2; simpa using this
  obtain ⟨s3, r3, rfl, k3, hk⟩ := List.map_eq_append_iff.1 (show _ = [2] ++ [0, 3, 3, 0, 0, 0, 0, 0, 0, 3, 3, 0, 0, 4] from hk)
  have l3 : s3.length = 1 := by have := congrArg List.length k3; simpa using this
  obtain ⟨s4, r4, rfl, k4, hk⟩ := List.map_eq_append_iff.1 (show _ = [0, 3, 3, 0, 0, 0] ++ [0, 0, 0, 3, 3, 0, 0, 4] from hk)
  have l4 : s4.length = 6 := by have := congrArg List.length k4; simpa using this
  obtain ⟨s5, r5, rfl, k5, hk⟩ := List.map_eq_append_iff.1 (show _ = [0, 0, 0, 3, 3, 0, 0] ++ [4] from hk)
  have l5 : s5.length = 7 := by have := congrArg List.length k5; simpa using this
  obtain ⟨s6, rfl⟩ : ∃ s, s = r5 := ⟨_, rfl⟩
  have k6 := hk
  have l6 : s6.length = 1 := by have := congrArg List.length k6; simpa using this
  have f0 := hf.left
  have g0 := hf.right
  rw [l0] at g0
  have f1 := g0.left
  have g1 := g0.right
  rw [l1, Nat.add_assoc] at g1
  simp only [Nat.reduceAdd] at g1
  have f2 := g1.left
  have g2 := g1.right
  rw [l2, Nat.add_assoc] at g2
  simp only [Nat.reduceAdd] at g2
  have f3 := g2.left
  have g3 := g2.right
  rw [l3, Nat.add_assoc] at g3
  simp only [Nat.reduceAdd] at g3
  have f4 := g3.left
  have g4 := g3.right
  rw [l4, Nat.add_assoc] at g4
  simp only [Nat.reduceAdd] at g4
  have f5 := g4.left
  have g5 := g4.right
  rw [l5, Nat.add_assoc] at g5
  simp only [Nat.reduceAdd] at g5
  have f6 := g5
  refine (go_command (M := M) (o := o) nilw_ints methw_ints callw_ints nilw_texts methw_texts callw_texts nilw_flag methw_flag callw_flag nilw_bytes methw_bytes callw_bytes
    (R0 := fun u => WS u B W (fs) ∧ Stq (Wown W) w u)
    (R1 := fun u => WS u B W (fs ++ flds s0) ∧ Stq (Wown W) w u)
    (R2 := fun u => WS u B W (fs ++ flds s0 ++ flds s1) ∧ Stq (Wown W) w u)
    (R3 := fun u => WS u B W (fs ++ flds s0 ++ flds s1 ++ flds s2) ∧ Stq (Wown W) w u)
    (R4 := fun u => WS u B W (fs ++ flds s0 ++ flds s1 ++ flds s2 ++ flds s3) ∧ Stq (Wown W) w u)
    (R5 := fun u => WS u B W (fs ++ flds s0 ++ flds s1 ++ flds s2 ++ flds s3 ++ flds s4) ∧ Stq (Wown W) w u)
    (R6 := fun u => WS u B W (fs ++ flds s0 ++ flds s1 ++ flds s2 ++ flds s3 ++ flds s4 ++ flds s5) ∧ Stq (Wown W) w u)
    (R7 := fun u => WS u B W (fs ++ flds s0 ++ flds s1 ++ flds s2 ++ flds s3 ++ flds s4 ++ flds s5 ++ flds s6) ∧ Stq (Wown W) w u)
    (fun u hu => (wints_call hu.1 (Nat.le_trans hB hu.2.size) (f0.stq hu.2 hM hS) (kinds_all k0 (by simp)) l0 (Nat.lt_of_lt_of_le hM hu.2.size) (hu.2.keep hM hS) #[.pointer (some ⟨M, o, none⟩), .pointer (some ⟨M, o + 1, none⟩), .pointer (some ⟨M, o + 2, none⟩), .pointer (some ⟨M, o + 3, none⟩), .pointer (some ⟨M, o + 4, none⟩), .pointer (some ⟨M, o + 5, none⟩)] 82 (fun j hj => match j, hj with | 0, _ => rfl | 1, _ => rfl | 2, _ => rfl | 3, _ => rfl | 4, _ => rfl | 5, _ => rfl)).mono fun e w' ⟨h1, h2, h3⟩ => ⟨h1, h2, hu.2.trans h3⟩)
    (fun u hu => (wtexts_call hu.1 (Nat.le_trans hB hu.2.size) (f1.stq hu.2 hM hS) (kinds_all k1 (by simp)) l1 (Nat.lt_of_lt_of_le hM hu.2.size) (hu.2.keep hM hS) #[.pointer (some ⟨M, o + 6, none⟩)] 86 (fun j hj => match j, hj with | 0, _ => rfl)).mono fun e w' ⟨h1, h2, h3⟩ => ⟨h1, h2, hu.2.trans h3⟩)
    (fun u hu => (wints_call hu.1 (Nat.le_trans hB hu.2.size) (f2.stq hu.2 hM hS) (kinds_all k2 (by simp)) l2 (Nat.lt_of_lt_of_le hM hu.2.size) (hu.2.keep hM hS) #[.pointer (some ⟨M, o + 7, none⟩), .pointer (some ⟨M, o + 8, none⟩), .pointer (some ⟨M, o + 9, none⟩)] 82 (fun j hj => match j, hj with | 0, _ => rfl | 1, _ => rfl | 2, _ => rfl)).mono fun e w' ⟨h1, h2, h3⟩ => ⟨h1, h2, hu.2.trans h3⟩)
    (fun u hu => (wflag_call hu.1 (Nat.le_trans hB hu.2.size) (f3.stq hu.2 hM hS) k3 (Nat.lt_of_lt_of_le hM hu.2.size) (hu.2.keep hM hS)).mono fun e w' ⟨h1, h2, h3⟩ => ⟨h1, h2, hu.2.trans h3⟩)
    (fun u hu => (wop_any hu.1 (Nat.le_trans hB hu.2.size) (f4.stq hu.2 hM hS) k4 (Nat.lt_of_lt_of_le hM hu.2.size) (hu.2.keep hM hS)).mono fun e w' ⟨h1, h2, h3⟩ => ⟨h1, h2, hu.2.trans h3⟩)
    (fun u hu => (wplan_any hu.1 (Nat.le_trans hB hu.2.size) (f5.stq hu.2 hM hS) k5 (Nat.lt_of_lt_of_le hM hu.2.size) (hu.2.keep hM hS)).mono fun e w' ⟨h1, h2, h3⟩ => ⟨h1, h2, hu.2.trans h3⟩)
    (fun u hu => (wbytes_call hu.1 (Nat.le_trans hB hu.2.size) (f6.stq hu.2 hM hS) k6 (Nat.lt_of_lt_of_le hM hu.2.size) (hu.2.keep hM hS)).mono fun e w' ⟨h1, h2, h3⟩ => ⟨h1, h2, hu.2.trans h3⟩)
    w ⟨h, Stq.refl _ _⟩).mono fun e w' ⟨h1, h2, h3⟩ => ⟨h1, ?_, h3⟩
  simpa only [flds_append, List.append_assoc] using h2


end Go.Proofs.YthklpkmdmkgjiaaGreat
