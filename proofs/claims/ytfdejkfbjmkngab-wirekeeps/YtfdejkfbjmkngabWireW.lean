/- What the landed writer's own small functions do. No condition but the size. -/
import Derived.Test.YtfdejkfbjmkngabWireSt
import Derived.Test.YtfdejkfbjmkngabCodecWr
import Derived.Test.YtfdejkfbjmkngabSm8
namespace Go.Proofs.Ytfdejkfbjmkngab
open Go.ChangeShapes Go.WideShapes Go.ChangeAt Go.RowKit B8 Cm Wm
set_option linter.unusedVariables false

/-- the landed writer at W, its bytes in memory of its own from B on, behind the fields fs -/
structure Wst (w : World) (B W : Nat) (fs : List Fld) (v : Value) (xs : List Int) (long : Bool) : Prop where
  c0 : w.cell? ⟨W, 0, none⟩ = some v
  c1 : w.cell? ⟨W, 1, none⟩ = some (.bool long)
  f0 : w.frozen? ⟨W, 0, none⟩ = false
  f1 : w.frozen? ⟨W, 1, none⟩ = false
  row : w.ownsRow B 5 1 v xs.length (vals xs)
  wf : wfs xs
  some_ok : okAll fs = true → long = false ∧ xs = bytesOf fs
  some_no : okAll fs = false → long = true
  apart : v.ownBlock ≠ some W
  size : xs.length ≤ 65536
  home : B ≤ W

/-- the writer's blocks -/
def Wown (W : Nat) (w : World) (k : Nat) : Prop := k = W ∨ ∃ v, w.cell? ⟨W, 0, none⟩ = some v ∧ v.ownBlock = some k

theorem wfits_any {w : World} {W : Nat} {long : Bool} (n most : Int) (c1 : w.cell? ⟨W, 1, none⟩ = some (.bool long)) (f1 : w.frozen? ⟨W, 1, none⟩ = false) :
    Calls Try.prog 108 #[.pointer (some ⟨W, 0, none⟩), .int .i64 n, .int .i64 most] w fun e w' => e = .returned (.bool (!(long || decide (most < n)))) ∧ w' = w.setCell ⟨W, 1, none⟩ (.bool (long || decide (most < n))) := by
  have k1 : ∀ b : Bool, (w.setCell ⟨W, 1, none⟩ (.bool b)).cell? ⟨W, 1, none⟩ = some (.bool b) := fun b => World.cell?_setCell_same _ _ _ c1
  cases long
  · by_cases h : most < n
    · have hd : decide (most < n) = true := by simpa using h
      go_enter Try.func108, Try.ntmps108
      go_wp2_with fail
      go_ret
      rw [hd]
      exact ⟨rfl, rfl⟩
    · have hd : decide (most < n) = false := by simpa using h
      go_enter Try.func108, Try.ntmps108
      go_wp2_with fail
      go_ret
      exact ⟨rfl, rfl⟩
  · go_enter Try.func108, Try.ntmps108
    go_wp2_with fail
    go_ret
    exact ⟨rfl, rfl⟩
/-- append at an operation: the new row lies where the old one lay, or in a new block -/
theorem wp_append_home {ops : Array Oper} {rest : List Oper} {o : Oper} {act : Act} {Q : Exit → Act → World → Prop} (w : World) (hg : o.guard = none) (s x : Operand)
    (hop : o.op = Op.call { callee := Callee.builtin Builtin.append, args := #[s, x], argTypes := #[22, 22] })
    (B : Nat) (v : Value) (n : Nat) (zs : List Int) (hs : act.eval s = v) (hown : w.ownsRow B 5 1 v n (vals zs))
    (a : Option Addr) (m c : Nat) (bs : List Int) (hx : act.eval x = .slice a m c) (hsq : Sq w a m c bs) (hr : n + m ≤ 140737488355328) (hB : B ≤ w.heap.size)
    (hK : ∀ a' cp' w', w'.ownsRow B 5 1 (.slice a' (n + m) cp') (n + m) (vals (zs ++ bs)) → w.grownBy w' v.ownBlock → ((Value.slice a' (n + m) cp').ownBlock = v.ownBlock ∨ (Value.slice a' (n + m) cp').ownBlock = some w.heap.size) → wpList Try.prog ops Q rest (act.put o.dst (.slice a' (n + m) cp')) w') :
    wpList Try.prog ops Q (o :: rest) act w := by
  refine wpList_plain hg fun K hK' => ?_
  obtain ⟨v', w', hr, h2, h3, h4⟩ := run_append_sq w o.type B v n zs hown a m c bs hsq (by omega) hB
  obtain ⟨a', cp', ev⟩ : ∃ a' cp', v' = .slice a' (n + m) cp' := by
    obtain ⟨_, ⟨h5, h6⟩ | ⟨g, cp, cur, h5, h6⟩⟩ := h2
    · exact ⟨none, 0, by rw [h5, h6]⟩
    · exact ⟨_, _, h5⟩
  subst ev
  unfold Oper.wp execOp
  simp only [hop, resolve, invoke, builtin, Sem.run_bind, Sem.run_pure, Result.andThen_ok, List.map_toArray, List.map_cons, List.map_nil, hs, hx, hr]
  exact hK' _ _ (hK a' cp' w' h2 h3 h4)

theorem wst_bad {w : World} {B W : Nat} {fs : List Fld} {v : Value} {xs : List Int} {long : Bool} (h : Wst w B W fs v xs long) (gs : List Fld) (hn : okAll gs = false) :
    Wst (w.setCell ⟨W, 1, none⟩ (.bool true)) B W gs v xs true := by
  refine ⟨?_, World.cell?_setCell_same _ _ _ h.c1, by simpa using h.f0, by simpa using h.f1, ?_, h.wf, fun h' => absurd h' (by rw [hn]; simp), fun _ => rfl, h.apart, h.size, h.home⟩
  · rw [World.cell?_setCell_other _ _ _ _ (by simp)]; exact h.c0
  · exact h.row.kept (grown_setCell w W 1 _) (.inr h.apart)
theorem wst_flag {w : World} {B W : Nat} {fs : List Fld} {v : Value} {xs : List Int} (h : Wst w B W fs v xs false) :
    Wst (w.setCell ⟨W, 1, none⟩ (.bool false)) B W fs v xs false := by
  refine ⟨?_, World.cell?_setCell_same _ _ _ h.c1, by simpa using h.f0, by simpa using h.f1, ?_, h.wf, h.some_ok, h.some_no, h.apart, h.size, h.home⟩
  · rw [World.cell?_setCell_other _ _ _ _ (by simp)]; exact h.c0
  · exact h.row.kept (grown_setCell w W 1 _) (.inr h.apart)
theorem wown_set {w : World} {W : Nat} {v : Value} (h : w.cell? ⟨W, 0, none⟩ = some v) (x : Value) : Stq (Wown W) w (w.setCell ⟨W, 1, none⟩ x) :=
  ⟨rfl, rfl, rfl, by simp [World.setCell], fun k hk hs => Below.heap_setCell _ _ _ _ (fun e => hs (.inl e)), fun k hk => by
    refine .inl ?_
    rcases hk with hk | ⟨u, h1, h2⟩
    · exact .inl hk
    · rw [World.cell?_setCell_other _ _ _ _ (by simp)] at h1
      exact .inr ⟨u, h1, h2⟩⟩
theorem wown_put {w w1 : World} {W : Nat} {v v' : Value} (h : w.cell? ⟨W, 0, none⟩ = some v) (h1 : w1.cell? ⟨W, 0, none⟩ = some v) (hg : w.grownBy w1 v.ownBlock) (ho : v'.ownBlock = v.ownBlock ∨ v'.ownBlock = some w.heap.size) :
    Stq (Wown W) w (w1.setCell ⟨W, 0, none⟩ v') :=
  ⟨hg.os, hg.tape, hg.output, by simpa [World.setCell] using hg.size, fun k hk hs => (Below.heap_setCell _ _ _ _ (fun e => hs (.inl e))).trans (hg.block k hk (fun e => hs (.inr ⟨v, h, e.symm⟩))), fun k hk => by
    rcases hk with hk | ⟨u, e1, e2⟩
    · exact .inl (.inl hk)
    · rw [World.cell?_setCell_same _ _ _ h1] at e1
      obtain rfl := Option.some.inj e1
      rcases ho with ho | ho
      · exact .inl (.inr ⟨v, h, by rw [← ho]; exact e2⟩)
      · rw [ho] at e2
        cases e2
        exact .inr (Nat.le_refl _)⟩

/-- some writer behind the fields fs -/
def WS (w : World) (B W : Nat) (fs : List Fld) : Prop := ∃ v xs long, Wst w B W fs v xs long

theorem wput_any {w : World} {B W : Nat} {fs : List Fld} {a : Option Addr} {m c : Nat} {bs : List Int} (h : WS w B W fs) (hB : B ≤ w.heap.size) (q : Sq w a m c bs) (hm : m ≤ 140737488000000)
    (hap : ∀ b off, a = some ⟨b, off, none⟩ → 0 < m → b ≠ W) :
    Calls Try.prog 109 #[.pointer (some ⟨W, 0, none⟩), .slice a m c] w fun e w' => e = .returned (.tuple #[]) ∧ WS w' B W (fs ++ [⟨bs, true⟩]) ∧ Stq (Wown W) w w' := by
  obtain ⟨v, xs, long, h⟩ := h
  obtain ⟨av, nv, cv, ev, hl⟩ : ∃ av nv cv, v = .slice av nv cv ∧ nv = xs.length := by
    obtain ⟨h1, ⟨h2, h3⟩ | ⟨g, cp, cur, h2, h3⟩⟩ := h.row
    · exact ⟨none, 0, 0, h2, by omega⟩
    · exact ⟨_, _, _, h2, rfl⟩
  subst ev
  have c0 := h.c0
  have c1 := h.c1
  have f0 := h.f0
  have f1 := h.f1
  have hsz := h.size
  have H := hide h
  have Q := hide q
  have LQ := hide q.length
  have HL := hide hl
  have i1 : nv ≤ 65536 := by omega
  have AP := hide hap
  have HB := hide hB
  clear h q hl hap hB hsz
  have CF := hide (wfits_any ((nv : Int) + (m : Int)) 65536 c1 f1)
  have OK := hide (okAll_snoc fs ⟨bs, true⟩)
  cases long
  · have ok : okAll fs = true := by
      cases e : okAll fs with
      | true => rfl
      | false => exact absurd (H.out.some_no e) (by simp)
    have EX := hide (H.out.some_ok ok).2
    have OK' := hide ok
    clear ok
    by_cases hh : (65536 : Int) < (nv : Int) + (m : Int)
    · have hd : decide ((65536 : Int) < (nv : Int) + (m : Int)) = true := by simpa using hh
      have BAD := hide (wst_bad H.out (fs ++ [⟨bs, true⟩]) (by rw [OK.out]; rw [← EX.out, ← HL.out]; have := LQ.out; simp; omega))
      have ST := hide (wown_set c0 (.bool true))
      go_enter Try.func109, Try.ntmps109
      go_wp2_with fail
      refine CF.out.mono ?_
      rintro e w1 ⟨rfl, rfl⟩
      go_wp2_with fail
      refine bodyPost_end (results_none rfl _ _ _) rfl ?_
      exact ⟨rfl, ⟨_, _, _, BAD.out⟩, ST.out⟩
    · have hd : decide ((65536 : Int) < (nv : Int) + (m : Int)) = false := by simpa using hh
      have OKN : Hid (okAll (fs ++ [⟨bs, true⟩]) = true) := by show _ = _; rw [OK.out, OK'.out]; rw [← EX.out, ← HL.out]; have := LQ.out; simp; omega
      have H1 := hide (wst_flag H.out)
      have ST := hide (wown_set c0 (.bool false))
      have hQ1 : Sq (w.setCell ⟨W, 1, none⟩ (.bool false)) a m c bs := by
        refine ⟨Q.out.length, Q.out.lecap, Q.out.nil, fun h0 => ?_, Q.out.wf⟩
        obtain ⟨b, off, e, hc⟩ := Q.out.cells h0
        exact ⟨b, off, e, fun j hj => (grown_setCell w W 1 _).cell (hc j hj) (by simpa using AP.out b off e h0)⟩
      have Q1 := hide hQ1
      have i2 : nv + m ≤ 65536 := by omega
      clear hQ1 H Q
      go_enter Try.func109, Try.ntmps109
      go_wp2_with fail
      refine CF.out.mono ?_
      rintro e w1 ⟨rfl, rfl⟩
      rw [hd]
      obtain ⟨w1, ew⟩ : ∃ w1, w1 = w.setCell ⟨W, 1, none⟩ (.bool false) := ⟨_, rfl⟩
      rw [Bool.or_false, ← ew]
      rw [← ew] at H1 ST Q1
      have c0' := H1.out.c0
      have f0' := H1.out.f0
      have HB1 : Hid (B ≤ w1.heap.size) := Nat.le_trans HB.out ST.out.size
      have ROW : Hid (w1.ownsRow B 5 1 (.slice av nv cv) nv (vals xs)) := by have := H1.out.row; rw [← HL.out] at this; exact this
      clear ew c0 c1 f0 f1 CF
      go_wp2_with (at_builtin; refine wp_append_home _ rfl (.tmp 18) (.tmp 19) rfl B (.slice av nv cv) nv xs rfl ROW.out a m c bs rfl Q1.out (by omega) HB1.out ?_; intro a2 cp2 w2 hown hgrow hho; have HO := hide hown; have HG := hide hgrow; have HH := hide hho; clear hown hgrow hho; have c2 : w2.cell? ⟨W, 0, none⟩ = some (.slice av nv cv) := HG.out.cell c0' (fun e => H1.out.apart e.symm); have f2 : w2.frozen? ⟨W, 0, none⟩ = false := (World.frozen?_of_block (w := w1) (HG.out.block W (World.block_lt_of_cell? _ _ c0') (fun e => H1.out.apart e.symm))).trans f0')
      go_wp2_with fail
      refine bodyPost_end (results_none rfl _ _ _) rfl ?_
      have d1 : w2.cell? ⟨W, 1, none⟩ = some (.bool false) := HG.out.cell H1.out.c1 (fun e => H1.out.apart e.symm)
      have g1 : w2.frozen? ⟨W, 1, none⟩ = false := (World.frozen?_of_block (w := w1) (HG.out.block W (World.block_lt_of_cell? _ _ c0') (fun e => H1.out.apart e.symm))).trans H1.out.f1
      have ap : (Value.slice a2 (nv + m) cp2).ownBlock ≠ some W := by
        rcases HH.out with e | e
        · rw [e]; exact H1.out.apart
        · rw [e]; intro e2; have := World.block_lt_of_cell? _ _ c0'; simp at e2; simp at this; omega
      refine ⟨rfl, ⟨.slice a2 (nv + m) cp2, xs ++ bs, false, World.cell?_setCell_same _ _ _ c2, ?_, by simpa using f2, by simpa using g1, ?_, wfs_append H1.out.wf Q1.out.wf, fun _ => ⟨rfl, ?_⟩, fun e => ?_, ap, ?_, H1.out.home⟩, ST.out.trans (wown_put c0' c2 HG.out HH.out)⟩
      · rw [World.cell?_setCell_other _ _ _ _ (by simp)]; exact d1
      · have := HO.out
        rw [List.length_append, LQ.out, ← HL.out]
        exact this.kept (grown_setCell w2 W 0 _) (.inr ap)
      · rw [bytesOf_append, bytesOf_one, EX.out]
      · rw [OKN.out] at e; cases e
      · rw [List.length_append, LQ.out, ← HL.out]; exact i2
  · have no : okAll fs = false := by
      cases e : okAll fs with
      | false => rfl
      | true => exact absurd (H.out.some_ok e).1 (by simp)
    have BAD := hide (wst_bad H.out (fs ++ [⟨bs, true⟩]) (okAll_left _ _ no))
    have ST := hide (wown_set c0 (.bool true))
    clear no
    go_enter Try.func109, Try.ntmps109
    go_wp2_with fail
    refine CF.out.mono ?_
    rintro e w1 ⟨rfl, rfl⟩
    go_wp2_with fail
    refine bodyPost_end (results_none rfl _ _ _) rfl ?_
    exact ⟨rfl, ⟨_, _, _, BAD.out⟩, ST.out⟩
end Go.Proofs.Ytfdejkfbjmkngab
