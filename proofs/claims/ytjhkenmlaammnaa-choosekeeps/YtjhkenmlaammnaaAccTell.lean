/- Votes gathered one by one into a list of the call's own; tell. No condition. -/
import Derived.Test.YtjhkenmlaammnaaAccSmall
import Derived.Test.YtjhkenmlaammnaaAppendWide
namespace Go.Proofs.Ytjhkenmlaammnaa
open Go.ChangeShapes Go.WideShapes Go.ChangeAt Go.RowKit B8 Am
set_option linter.unusedVariables false

theorem wp_append_run {ops : Array Oper} {rest : List Oper} {o : Oper} {act : Act} {Q : Exit → Act → World → Prop} (w : World) (hg : o.guard = none) (s x : Operand) (t : TypeId)
    (hop : o.op = Op.call { callee := Callee.builtin Builtin.append, args := #[s, x], argTypes := #[t, t] }) (v : Value) (w' : World) (hr : (Builtin.append_ #[t, t] o.type #[act.eval s, act.eval x]).run Try.prog w = .ok v w') (hK : wpList Try.prog ops Q rest (act.put o.dst v) w') : wpList Try.prog ops Q (o :: rest) act w := by
  refine wpList_plain hg fun K hK' => ?_
  unfold Oper.wp execOp
  simp only [hop, resolve, invoke, builtin, Sem.run_bind, Sem.run_pure, Result.andThen_ok, List.map_toArray, List.map_cons, List.map_nil, hr]
  exact hK' _ _ hK
/-- one vote more: an append by its run, behind the block of one vote that the walk makes -/
theorem vl_add {w : World} {B : Nat} {P : Nat → Prop} {a : Option Addr} {m c : Nat} {l : List Vv} (h : Vl w B P a m c l) (hm : m ≤ 4000000000000) (hB : B ≤ w.heap.size) {p : Vv} (hp : p.In w P) (ty : TypeId) :
    ∃ g cp w', (Builtin.append_ #[34, 34] ty #[.slice a m c, .slice (some ⟨w.heap.size, 0, none⟩) 1 1]).run Try.prog (w.alloc (.cells #[.int .i64 p.s, .int .i64 p.r, .int .i64 p.n, .slice p.a p.m p.cp] 45)) = .ok (.slice (some ⟨g, 0, none⟩) (m + 1) cp) w'
      ∧ w'.ownsRow B 45 4 (.slice (some ⟨g, 0, none⟩) (m + 1) cp) (m + 1) (vcells (l ++ [p])) ∧ Chg (fun k => (Value.slice a m c).ownBlock = some k) w w' ∧ Below B w w' ∧ ((Value.slice a m c).ownBlock = some g ∨ w.heap.size ≤ g) := by
  obtain ⟨i0, hi, hz0, hz1, hz2⟩ := info_parts voteinfo
  have hnew := heap_alloc_new w (.cells #[.int .i64 p.s, .int .i64 p.r, .int .i64 p.n, .slice p.a p.m p.cp] 45)
  have hrow := h.row.alloc (.cells #[.int .i64 p.s, .int .i64 p.r, .int .i64 p.n, .slice p.a p.m p.cp] 45)
  have hch := (Chg.refl (fun k => (Value.slice a m c).ownBlock = some k) w).alloc (.cells #[.int .i64 p.s, .int .i64 p.r, .int .i64 p.n, .slice p.a p.m p.cp] 45)
  generalize w.alloc (.cells #[.int .i64 p.s, .int .i64 p.r, .int .i64 p.n, .slice p.a p.m p.cp] 45) = w1 at hnew hrow hch ⊢
  have hcell : ∀ j u, p.cells[j]? = some u → w1.cell? ((⟨w.heap.size, 0, none⟩ : Addr).add j) = some u := fun j u hu => by
    rw [Addr.add_lit, Nat.zero_add, cell_of_row _ _ _ _ _ _ hnew]
    match j, hu with
    | 0, hu => exact hu
    | 1, hu => exact hu
    | 2, hu => exact hu
    | 3, hu => exact hu
  obtain ⟨g, cp, wn, hr, ho, hg, hloc⟩ := run_append_where (P := Try.prog) w1 B 34 ty 45 i0 zvote 4 48 Try.underlying34 hi hz0 hz1 hz2 rfl (by omega) a m c (vcells l) hrow
    ⟨w.heap.size, 0, none⟩ 1 1 p.cells rfl hcell (cells_one p) (by omega) (by unfold maxLen; omega) (by omega) (Nat.le_trans hB hch.size)
  have hc := hch.grown hg (fun k hk => .inl hk)
  refine ⟨g, cp, wn, hr, ?_, hc, hc.below hB (fun k hk => (h.row.lt k hk).1), ?_⟩
  · rw [vcells_append]
    simpa [vcells] using ho
  · rcases hloc with e | e
    · exact .inl e
    · exact .inr (by rw [e]; exact hch.size)
theorem vl_added {w w' : World} {B : Nat} {P : Nat → Prop} {a : Option Addr} {m c g cp : Nat} {l : List Vv} (h : Vl w B P a m c l) {p : Vv} (hp : p.In w P) (ho : w'.ownsRow B 45 4 (.slice (some ⟨g, 0, none⟩) (m + 1) cp) (m + 1) (vcells (l ++ [p]))) (hc : Chg (fun k => (Value.slice a m c).ownBlock = some k) w w')
    (hP : ∀ q, (q ∈ l ∨ q = p) → 0 < q.m → ∀ ad, q.a = some ad → (Value.slice a m c).ownBlock ≠ some ad.block) : Vl w' B P (some ⟨g, 0, none⟩) (m + 1) cp (l ++ [p]) := by
  refine ⟨ho, by simp [h.len], fun q hq => ?_⟩
  have hq' : q ∈ l ∨ q = p := by simpa using hq
  have hin : q.In w P := by
    rcases hq' with hq' | rfl
    · exact h.ins q hq'
    · exact hp
  exact hin.same (fun h0 ad e => hc.block _ (hin.lt h0 ad e) (hP q hq' h0 ad e))
/-- a list of votes with values of its own, all from block B on -/
structure Told (w : World) (B : Nat) (a : Option Addr) (m c : Nat) (l : List Vv) : Prop where
  vl : Vl w B (fun k => B ≤ k) a m c l
  fresh : Fresh w B l
theorem isU {w : World} {B n k : Nat} {v : Value} {xs : List Value} (h : w.ownsRow B 5 1 v n xs) (hk : v.ownBlock = some k) : ∃ cs, w.heap[k]? = some (.cells cs 5 (0, 0)) := by
  obtain ⟨_, ⟨e, _⟩ | ⟨g, cp, cur, e, _, hg, _⟩⟩ := h
  · rw [e] at hk; cases hk
  · rw [e] at hk
    have : g = k := by simpa [Value.ownBlock] using hk
    exact ⟨_, this ▸ hg⟩
theorem isV {w : World} {B n k : Nat} {v : Value} {xs : List Value} (h : w.ownsRow B 45 4 v n xs) (hk : v.ownBlock = some k) : ∃ cs, w.heap[k]? = some (.cells cs 45 (0, 0)) := by
  obtain ⟨_, ⟨e, _⟩ | ⟨g, cp, cur, e, _, hg, _⟩⟩ := h
  · rw [e] at hk; cases hk
  · rw [e] at hk
    have : g = k := by simpa [Value.ownBlock] using hk
    exact ⟨_, this ▸ hg⟩
theorem not_both {w : World} {B B' n n' k : Nat} {v v' : Value} {xs xs' : List Value} (h : w.ownsRow B 45 4 v n xs) (hk : v.ownBlock = some k) (h' : w.ownsRow B' 5 1 v' n' xs') (hk' : v'.ownBlock = some k) : False := by
  obtain ⟨cs, e⟩ := isV h hk
  obtain ⟨cs', e'⟩ := isU h' hk'
  rw [e] at e'
  simp at e'
theorem own_blk {a : Option Addr} {m c : Nat} {ad : Addr} {w : World} {B : Nat} {xs : List Value} {T sz : Nat} (h : w.ownsRow B T sz (.slice a m c) m xs) (e : a = some ad) : (Value.slice a m c).ownBlock = some ad.block := by
  subst e
  rfl
theorem Told.below {w w' : World} {B : Nat} {a : Option Addr} {m c : Nat} {l : List Vv} (h : Told w B a m c l) (hb : Below w.heap.size w w') : Told w' B a m c l := ⟨h.vl.below hb, h.fresh.below hb⟩
theorem told_nil (w : World) (B : Nat) : Told w B none 0 0 [] := ⟨vl_nil _ _ _, fun p hp => absurd hp (by simp)⟩
theorem told_add {w : World} {B : Nat} {a : Option Addr} {m c : Nat} {l : List Vv} (h : Told w B a m c l) (hm : m ≤ 4000000000000) (hB : B ≤ w.heap.size) {p : Vv} (hw : wfs p.b) (hl : p.b.length = p.m) (hf : w.ownsRow B 5 1 (.slice p.a p.m p.cp) p.m (B8.vals p.b)) (ty : TypeId) :
    ∃ g cp w', (Builtin.append_ #[34, 34] ty #[.slice a m c, .slice (some ⟨w.heap.size, 0, none⟩) 1 1]).run Try.prog (w.alloc (.cells #[.int .i64 p.s, .int .i64 p.r, .int .i64 p.n, .slice p.a p.m p.cp] 45)) = .ok (.slice (some ⟨g, 0, none⟩) (m + 1) cp) w'
      ∧ Told w' B (some ⟨g, 0, none⟩) (m + 1) cp (l ++ [p]) ∧ Below B w w' := by
  have hin : p.In w (fun k => B ≤ k) := by
    obtain ⟨a2, c2, e, hq⟩ := sq_of_row hl hw hf
    obtain ⟨rfl, rfl⟩ : p.a = a2 ∧ p.cp = c2 := by simpa using e
    exact ⟨hq, fun _ ad e => (hf.lt _ (own_blk hf e)).1⟩
  obtain ⟨g, cp, w', hr, ho, hc, hb, _⟩ := vl_add h.vl hm hB hin ty
  have fr : ∀ q, (q ∈ l ∨ q = p) → w.ownsRow B 5 1 (.slice q.a q.m q.cp) q.m (B8.vals q.b) := fun q hq => by
    rcases hq with hq | rfl
    · exact h.fresh q hq
    · exact hf
  refine ⟨g, cp, w', hr, ⟨vl_added h.vl hin ho hc (fun q hq h0 ad e e2 => ?_), fun q hq => ?_⟩, hb⟩
  · exact not_both h.vl.row e2 (fr q hq) (own_blk (fr q hq) e)
  · have hq' : q ∈ l ∨ q = p := by simpa using hq
    exact row_same (fr q hq') (fun k hk => hc.block k ((fr q hq').lt k hk).2 (fun e2 => not_both h.vl.row e2 (fr q hq') hk))
theorem atL_of {c : Vt} : ∀ {vs : List Vt}, vs.Pairwise (fun a b => a.s < b.s) → c ∈ vs → atL vs c.s = some c
  | v :: r, h, hc => by
    obtain ⟨h1, h2⟩ := List.pairwise_cons.1 h
    unfold atL
    rcases List.mem_cons.1 hc with rfl | hc
    · rw [List.find?_cons_of_pos (by simp)]
    · have := h1 c hc
      rw [List.find?_cons_of_neg (by simp; omega)]
      exact atL_of h2 hc
set_option maxRecDepth 100000 in
set_option maxHeartbeats 1000000 in
theorem tell_any {w : World} {P : Nat → Prop} {A mb : Nat} {s : As} (h : Ac w P A mb s) (f : Int) :
    Calls Try.prog 50 #[.pointer (some ⟨A, 0, none⟩), .int .i64 f] w fun e w' => ∃ a m c l, e = .returned (.slice a m c) ∧ Below w.heap.size w w' ∧ Told w' w.heap.size a m c l ∧ l.map Vv.vt = fromL s.vs f := by
  have H := hide h
  have c2 := h.c2
  have OK := hide h.ok
  have lo := h.ok.lo
  have hi := h.ok.hi
  obtain ⟨g0, eg⟩ : ∃ g0, g0 = max f s.first := ⟨_, rfl⟩
  have EG := hide eg
  clear h eg
  go_enter Try.func50, Try.ntmps50
  go_wp2_with fail
  all_goals
    go_loopw [5, 6] (fun t x wr => ∃ (c : Int) (a : Option Addr) (m cp : Nat) (l : List Vv), x = .int .i64 c ∧ t = .slice a m cp ∧ Hid (Below w.heap.size w wr) ∧ Hid (Told wr w.heap.size a m cp l) ∧ Hid (l.map Vv.vt = upto s.vs g0 c) ∧ Hid (g0 ≤ c)) (fun _ x _ => (s.first + 16 - intOf x).toNat)
    case atStart => exact ⟨_, none, 0, 0, [], rfl, rfl, Below.refl _ _, told_nil _ _, (upto_none _ _ _ (by rw [EG.out]; omega)).symm, by show _ ≤ _; rw [EG.out]; omega⟩
    case round =>
      obtain ⟨c, a, m, cp, l, rfl, rfl, HB, HT, HL, HG⟩ := hrel
      have HA := hide (H.out.below HB.out)
      clear c2
      have c2 := HA.out.c2
      have c3 := HA.out.c3
      have CE := hide (end_any c2 lo hi)
      clear h
      by_cases hlt : c < s.first + 16
      · have hc1 : 1 ≤ c := by have := HG.out; rw [EG.out] at this; omega
        have hw : (Lit.int .i64 c).wf = true := wf64 (by have := HG.out; rw [EG.out] at this; omega) (by omega)
        have ML : Hid (m ≤ 16) := by
          show m ≤ 16
          have h1 := HT.out.vl.len
          have h2 : l.length = (upto s.vs g0 c).length := by rw [← HL.out]; simp
          have h3 := List.length_filter_le (fun v : Vt => decide (g0 ≤ v.s ∧ v.s < c)) s.vs
          have h4 := length_le OK.out
          unfold upto at h2
          omega
        obtain ⟨lv, hmp, hvs, hins⟩ := HA.out.ex
        have US := hide (upto_step (f := g0) HG.out OK.out.sorted)
        rcases mp_look hmp hw with ⟨v, hv, hs, hlk⟩ | ⟨hno, hlk⟩
        · subst hs
          have hvt : v.vt ∈ s.vs := by rw [hvs]; exact List.mem_map.2 ⟨v, hv, rfl⟩
          have VM : Hid (v.m ≤ 2048) := by
            have h1 := fits_len (OK.out.each _ hvt)
            have h2 := (hins v hv).1.length
            show _ ≤ _
            rw [← h2]
            exact h1
          have VI := hide (hins v hv)
          have AT : Hid (atL s.vs v.s = some v.vt) := atL_of OK.out.sorted hvt
          unfold Vv.val at hlk
          clear hmp hvs hins hv hvt hw
          go_wp2_with fail
          refine CE.out.mono ?_
          rintro e w1 ⟨rfl, rfl⟩
          go_wp2_with fail
          have B1 : Hid (Below w1.heap.size w1 (w1.alloc (.cells #[.int .i64 v.s, .int .i64 v.r, .int .i64 v.n, .slice v.a v.m v.cp] 45))) := below_alloc (Below.refl _ _) _
          refine (own_any (p := v) (VI.out.below B1.out).1 VM.out).mono ?_
          rintro e w2 ⟨a', c', rfl, hb2, hr2⟩
          have B2 : Hid (Below w1.heap.size w1 w2) := below_step B1.out hb2
          have BW : Hid (Below w.heap.size w w2) := below_step HB.out B2.out
          have T2 := hide (HT.out.below B2.out)
          have R2 : Hid (w2.ownsRow w.heap.size 5 1 (.slice a' v.m c') v.m (B8.vals v.b)) := row_base hr2 (Nat.le_trans HB.out.size B1.out.size)
          obtain ⟨g, cq, w3, hr3, ht3, hb3⟩ := told_add (p := { v with a := a', cp := c' }) T2.out (by have := ML.out; omega) BW.out.size VI.out.1.wf VI.out.1.length R2.out 34
          have T3 := hide ht3
          have B3 : Hid (Below w.heap.size w w3) := BW.out.trans hb3
          have L3 : Hid ((l ++ [{ v with a := a', cp := c' }]).map Vv.vt = upto s.vs g0 (v.s + 1)) := by
            show _ = _
            rw [US.out, AT.out, List.map_append, HL.out]
            rfl
          unfold Vv.val
          clear hb2 hr2 hb3 ht3 hlk
          go_wp2_with (at_builtin; refine wp_append_run _ rfl _ _ 34 rfl _ _ hr3 ?_)
          go_roundw
          case rel => exact ⟨v.s + 1, _, _, _, _, by go_num, rfl, B3, T3, L3, by show _ ≤ _; have := HG.out; omega⟩
          case measure => simp [intOf]; omega
        · have AT : Hid (atL s.vs c = none) := by
            show _ = _
            unfold atL
            rw [List.find?_eq_none]
            intro u hu
            rw [hvs] at hu
            obtain ⟨v, hv, rfl⟩ := List.mem_map.1 hu
            exact fun e => hno v hv (of_decide_eq_true e)
          have L3 : Hid (l.map Vv.vt = upto s.vs g0 (c + 1)) := by
            show _ = _
            rw [US.out, AT.out, HL.out]
            simp
          unfold zvote at hlk
          clear hmp hvs hins hw hno
          go_wp2_with fail
          refine CE.out.mono ?_
          rintro e w1 ⟨rfl, rfl⟩
          go_wp2_with fail
          have B1 : Hid (Below w1.heap.size w1 (w1.alloc (.cells #[.int .i64 0, .int .i64 0, .int .i64 0, .slice none 0 0] 45))) := below_alloc (Below.refl _ _) _
          go_roundw
          case rel => exact ⟨c + 1, _, _, _, _, by go_num, rfl, below_step HB.out B1.out, HT.out.below B1.out, L3, by show _ ≤ _; have := HG.out; omega⟩
          case measure => simp [intOf]; omega
      · have FIN : Hid (l.map Vv.vt = fromL s.vs f) := by
          show _ = _
          rw [HL.out, upto_all (fun v hv => by have := OK.out.win v hv; omega)]
          refine List.filter_congr fun v hv => ?_
          have h1 := OK.out.win v hv
          rw [EG.out]
          simp
          omega
        go_wp2_with fail
        refine CE.out.mono ?_
        rintro e w1 ⟨rfl, rfl⟩
        go_wp2_with fail
        go_ret
        exact ⟨a, m, cp, l, rfl, HB.out, HT.out, FIN.out⟩
end Go.Proofs.Ytjhkenmlaammnaa
