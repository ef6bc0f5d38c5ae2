/- The document's clock: Tick. No condition but a size. -/
import Derived.Test.YtoganfdpaagomaaClockRefSet
import Derived.BigQuiet
namespace Go.Proofs.Ytoganfdpaagomaa
open Go.ChangeShapes Go.WideShapes Go.ChangeAt Go.RowKit Cm
set_option linter.unusedVariables false

def rest (n : Int) (l : List Tm) : List Tm := l.filter fun t => !nowDue n t
def dueL (n : Int) (l : List Tm) : List Tm := l.filter (nowDue n)
/-- between two rounds: what is told, and what stays, each in memory of its own -/
structure RkS (w wr : World) (r : List Tm) (n : Int) (i : Nat) (a1 : Option Addr) (c1 : Nat) (a2 : Option Addr) (c2 : Nat) : Prop where
  bel : Below w.heap.size w wr
  told : Told wr w.heap.size (.slice a1 (names (dueL n (r.take i))).length c1) (names (dueL n (r.take i)))
  row : wr.ownsRow w.heap.size 61 2 (.slice a2 (rest n (r.take i)).length c2) (rest n (r.take i)).length (rcells (rest n (r.take i)))
  dis : ∀ k, (Value.slice a1 (names (dueL n (r.take i))).length c1).ownBlock = some k → (Value.slice a2 (rest n (r.take i)).length c2).ownBlock ≠ some k
theorem RkS.drewN {w wr : World} {r : List Tm} {n : Int} {i : Nat} {a1 a2 : Option Addr} {c1 c2 : Nat} (h : RkS w wr r n i a1 c1 a2 c2) (q : Nat) : RkS w (wr.drewN q) r n i a1 c1 a2 c2 :=
  ⟨h.bel.trans (⟨rfl, rfl, rfl, Nat.le_refl _, fun _ _ => rfl⟩), h.told.same (fun _ _ => rfl), row_same h.row (fun _ _ => rfl), h.dis⟩
theorem take_due {r : List Tm} {n : Int} {i : Nat} (hi : i < r.length) (h : (g r i).due = n) : names (dueL n (r.take (i + 1))) = names (dueL n (r.take i)) ++ [(g r i).name] ∧ rest n (r.take (i + 1)) = rest n (r.take i) := by
  rw [List.take_succ_eq_append_getElem hi, ← g_at hi]
  constructor
  · rw [dueL, List.filter_append, List.filter_cons_of_pos (by simp [nowDue, h]), List.filter_nil, names, names, List.map_append]; rfl
  · rw [rest, List.filter_append, List.filter_cons_of_neg (by simp [nowDue, h]), List.filter_nil, List.append_nil]; rfl
theorem take_rest {r : List Tm} {n : Int} {i : Nat} (hi : i < r.length) (h : (g r i).due ≠ n) : dueL n (r.take (i + 1)) = dueL n (r.take i) ∧ rest n (r.take (i + 1)) = rest n (r.take i) ++ [g r i] := by
  rw [List.take_succ_eq_append_getElem hi, ← g_at hi]
  constructor
  · rw [dueL, List.filter_append, List.filter_cons_of_neg (by simp [nowDue, h]), List.filter_nil, List.append_nil]; rfl
  · rw [rest, List.filter_append, List.filter_cons_of_pos (by simp [nowDue, h]), List.filter_nil]; rfl
theorem dueL_le (r : List Tm) (n : Int) (i : Nat) : (names (dueL n (r.take i))).length ≤ r.length ∧ (rest n (r.take i)).length ≤ r.length := by
  rw [names_length]
  exact ⟨Nat.le_trans (List.length_filter_le _ _) (by simp; omega), Nat.le_trans (List.length_filter_le _ _) (by simp; omega)⟩
/-- one more is told -/
theorem rk_told {w wr : World} {r : List Tm} {n : Int} {i : Nat} {a1 a2 : Option Addr} {c1 c2 : Nat} (h : RkS w wr r n i a1 c1 a2 c2) (hi : i < r.length) (h64 : r.length ≤ 64) (hd : (g r i).due = n) (ty : TypeId) :
    ∃ b cp w', (Builtin.append_ #[35, 35] ty #[.slice a1 (names (dueL n (r.take i))).length c1, .slice (some ⟨wr.heap.size, 0, none⟩) 1 1]).run Try.prog (wr.alloc (.cells #[.string (g r i).name] 9)) = .ok (.slice (some ⟨b, 0, none⟩) ((names (dueL n (r.take i))).length + 1) cp) w' ∧ RkS w w' r n (i + 1) (some ⟨b, 0, none⟩) cp a2 c2 ∧ (names (dueL n (r.take (i + 1)))).length = (names (dueL n (r.take i))).length + 1 ∧ (rest n (r.take (i + 1))).length = (rest n (r.take i)).length := by
  have hl := (dueL_le r n i).1
  obtain ⟨b, cp, w', run, t1, g1, at1⟩ := told_add h.told (by omega) h.bel.size (g r i).name ty
  obtain ⟨e1, e2⟩ := take_due hi hd
  refine ⟨b, cp, w', run, ⟨?_, ?_, ?_, ?_⟩, by rw [e1]; simp, by rw [e2]⟩
  · exact h.bel.grown g1 h.bel.size (fun j hj => (h.told.lt j hj).1)
  · rw [e1]; exact t1
  · rw [e2]
    exact row_same h.row (fun k hk => g1.block k (h.row.lt k hk).2 (fun e => h.dis k e.symm hk))
  · intro k hk
    rw [e2]
    have ek : b = k := by simpa [Value.ownBlock] using hk
    subst ek
    rcases at1 with h1 | h1
    · exact h.dis _ h1
    · exact fun e => by have := (h.row.lt _ e).2; omega
/-- one more stays -/
theorem rk_rest {w wr : World} {r : List Tm} {n : Int} {i : Nat} {a1 a2 : Option Addr} {c1 c2 : Nat} (h : RkS w wr r n i a1 c1 a2 c2) (hi : i < r.length) (h64 : r.length ≤ 64) (hd : (g r i).due ≠ n) (ty : TypeId) :
    ∃ b cp w', (Builtin.append_ #[26, 26] ty #[.slice a2 (rest n (r.take i)).length c2, .slice (some ⟨wr.heap.size, 0, none⟩) 1 1]).run Try.prog (wr.alloc (.cells #[.string (g r i).name, .int .i64 (g r i).due] 61)) = .ok (.slice (some ⟨b, 0, none⟩) ((rest n (r.take i)).length + 1) cp) w' ∧ RkS w w' r n (i + 1) a1 c1 (some ⟨b, 0, none⟩) cp ∧ (rest n (r.take (i + 1))).length = (rest n (r.take i)).length + 1 ∧ (names (dueL n (r.take (i + 1)))).length = (names (dueL n (r.take i))).length := by
  have hl := (dueL_le r n i).2
  obtain ⟨i0, hinf, hz0, hz1, hz2⟩ := info_parts rtinfo
  have ra : (wr.alloc (.cells #[.string (g r i).name, .int .i64 (g r i).due] 61)).ownsRow w.heap.size 61 2 (.slice a2 (rest n (r.take i)).length c2) (rest n (r.take i)).length (rcells (rest n (r.take i))) := row_same h.row (fun k hk => Below.heap_alloc _ _ _ (h.row.lt k hk).2)
  obtain ⟨b, cp, w', run, o1, g1, at1⟩ := run_append_where (P := Try.prog) (wr.alloc (.cells #[.string (g r i).name, .int .i64 (g r i).due] 61)) w.heap.size 26 ty 61 i0 (.agg zrt) 2 24 Try.underlying26 hinf hz0 hz1 hz2 rfl (by omega) a2 _ c2 _ ra ⟨wr.heap.size, 0, none⟩ 1 1 [.string (g r i).name, .int .i64 (g r i).due] rfl cells2 (by intro u hu; simp at hu; rcases hu with rfl | rfl <;> rfl) (by omega) (by unfold maxLen; omega) (by omega) (Nat.le_trans h.bel.size (by simp))
  have gg : wr.grownBy w' (Value.slice a2 (rest n (r.take i)).length c2).ownBlock := (World.grownBy_alloc wr _ _).trans g1
  obtain ⟨e1, e2⟩ := take_rest hi hd
  refine ⟨b, cp, w', run, ⟨?_, ?_, ?_, ?_⟩, by rw [e2]; simp, by rw [e1]⟩
  · exact h.bel.grown gg h.bel.size (fun j hj => (h.row.lt j hj).1)
  · rw [e1]
    exact h.told.same (fun k hk => gg.block k (h.told.lt k hk).2 (fun e => h.dis k hk e.symm))
  · rw [e2, rcells_append, show rcells [g r i] = (g r i).pair by simp [rcells], show (rest n (r.take i) ++ [g r i]).length = (rest n (r.take i)).length + 1 by simp]
    exact o1
  · intro k hk
    rw [e1] at hk
    intro e
    have ek : b = k := by simpa [Value.ownBlock] using e
    subst ek
    rcases at1 with h1 | h1
    · exact h.dis _ hk h1
    · have h2 := (h.told.lt _ hk).2
      rw [h1] at h2
      simp at h2
      omega
def RTickP (w : World) (R : Nat) (a : Option Addr) (s : Cs) (e : Ending) (w' : World) : Prop := ∃ a1 c1, e = .returned (.slice a1 (tickN s).length c1) ∧ Told w' w.heap.size (.slice a1 (tickN s).length c1) (tickN s) ∧ RMv w R a (tickS s) w'
set_option maxRecDepth 100000 in
set_option maxHeartbeats 1000000 in
theorem rtick_any {w : World} {R : Nat} {a : Option Addr} {c : Nat} {s : Cs} {B : Int} (h : Rc w R a c s) (ok : Ok s B) (hB : B < 1000000000000000000) :
    Calls Try.prog 24 #[.pointer (some ⟨R, 0, none⟩)] w fun e w' => RTickP w R a s e w' := by
  have c0 := h.c0
  have f0 := h.f 0
  have n0 := ok.n0
  have nB := ok.nB
  have a1 : IntKind.i64.wrap (s.now + 1) = s.now + 1 := by rw [IntKind.wrap_i64]; omega
  obtain ⟨w1, e1⟩ : ∃ w1, w1 = w.setCell ⟨R, 0, none⟩ (.int .i64 (s.now + 1)) := ⟨_, rfl⟩
  have z1 : w1.heap.size = w.heap.size := by rw [e1]; simp [World.setCell]
  have o1 : ∀ k, k ≠ R → w1.heap[k]? = w.heap[k]? := fun k hk => by rw [e1]; exact Below.heap_setCell _ _ _ _ hk
  have ch1 : Chg (Rb R a) w w1 := by rw [e1]; exact (Chg.refl _ _).setCell (p := ⟨R, 0, none⟩) (.inl (.inl rfl)) _
  have H1 : Hid (Rc w1 R a c ⟨s.now + 1, s.sets, s.r⟩) := by
    refine ⟨?_, ?_, fun o => ?_, ?_, h.v1⟩
    · rw [e1]; exact World.cell?_setCell_same' _ _ _ (by rw [c0]; rfl)
    · rw [e1, World.cell?_setCell_other _ _ _ _ (by simp)]; exact h.c1
    · rw [e1, setCell_frozen]; exact h.f o
    · exact row_same h.row (fun k hk => o1 k (fun e => h.v1 (e ▸ hk)))
  have START : Hid (RkS w1 w1 s.r (s.now + 1) 0 none 0 none 0) := ⟨Below.refl _ _, by simpa [dueL, names] using told_nil w1 w1.heap.size, by simpa [rest, rcells] using World.ownsRow_nil w1 w1.heap.size 61 2, fun k hk => by simp [Value.ownBlock] at hk⟩
  have h64 := ok.len
  have LE : Hid (s.r.length ≤ 64) := h64
  have FI : Hid (∀ wr b1 d1 b2 d2, RkS w1 wr s.r (s.now + 1) s.r.length b1 d1 b2 d2 → wr.frozen? ⟨R, 1, none⟩ = false ∧ RTickP w R a s (.returned (.slice b1 (names (dueL (s.now + 1) (s.r.take s.r.length))).length d1)) (wr.setCell ⟨R, 1, none⟩ (.slice b2 (rest (s.now + 1) (s.r.take s.r.length)).length d2))) := fun wr b1 d1 b2 d2 hk => by
    have lR : R < w1.heap.size := H1.out.ltR
    have hRb := hk.bel.block R lR
    refine ⟨(World.frozen?_of_block (a := ⟨R, 1, none⟩) hRb).trans (H1.out.f 1), b1, d1, by rw [List.take_length]; rfl, ?_, ?_⟩
    · have ht := hk.told
      rw [List.take_length] at ht
      refine Told.same (by rw [z1] at ht; exact ht) (fun k hk2 => Below.heap_setCell _ _ _ _ (fun e => ?_))
      have := (ht.lt k hk2).1
      have e' : k = R := e
      omega
    · have hrow := hk.row
      rw [List.take_length] at hrow
      have row0 : wr.ownsRow 0 61 2 (.slice b2 (rest (s.now + 1) s.r).length d2) (rest (s.now + 1) s.r).length (rcells (rest (s.now + 1) s.r)) := by
        obtain ⟨y1, y2 | ⟨g', cp', cur', q1, q2, q3⟩⟩ := hrow
        · exact ⟨y1, .inl y2⟩
        · exact ⟨y1, .inr ⟨g', cp', cur', q1, Nat.zero_le _, q3⟩⟩
      have := H1.out.relist (r' := rest (s.now + 1) s.r) (a' := b2) (c' := d2) (Chg.of_below hk.bel _) hRb row0 (fun k hk2 hne => by
        rcases hk2 with hk2 | hk2
        · exact absurd hk2 hne
        · exact .inr (hrow.lt k (own_rb hk2)).1) (fun e => by have h1 := (hrow.lt R e).1; omega)
      rw [List.take_length]
      exact RMv.trans ch1 (fun k hk => .inl hk) this
  have E1 := hide e1
  clear h ok n0 nB e1 z1 o1 ch1 hB h64
  go_enter Try.func24, Try.ntmps24
  go_wp2_with fail
  rw [← E1.out]
  clear c0 f0 E1
  go_loopw [3, 4, 5] (fun dv lv iv wr => ∃ (i n1 n2 : Nat) (b1 b2 : Option Addr) (d1 d2 : Nat), i ≤ s.r.length ∧ iv = .int .i64 i ∧ dv = .slice b1 n1 d1 ∧ lv = .slice b2 n2 d2 ∧ Hid (n1 = (names (dueL (s.now + 1) (s.r.take i))).length) ∧ Hid (n2 = (rest (s.now + 1) (s.r.take i)).length) ∧ Hid (RkS w1 wr s.r (s.now + 1) i b1 d1 b2 d2)) (fun _ _ iv _ => s.r.length - (intOf iv).toNat)
  case atStart => exact ⟨0, 0, 0, none, none, 0, 0, Nat.zero_le _, rfl, rfl, rfl, rfl, rfl, START⟩
  case round =>
    obtain ⟨i, n1, n2, b1, b2, d1, d2, hi, rfl, rfl, rfl, N1, N2, RK⟩ := hrel
    have HR := hide (H1.out.below RK.out.bel)
    have h64 := LE.out
    have k1 := HR.out.c1
    have k0 := HR.out.c0
    by_cases hlt : i < s.r.length
    · obtain ⟨b, eb, p0, p1⟩ := HR.out.at (k := i) hlt
      subst eb
      have j1 : (i : Int) < (s.r.length : Int) := by omega
      have j2 : (0 : Int) ≤ (i : Int) := by omega
      by_cases hd : (g s.r i).due = s.now + 1
      · have RT : Hid (∀ q, ∃ b cp w', (Builtin.append_ #[35, 35] 35 #[.slice b1 n1 d1, .slice (some ⟨wr.heap.size, 0, none⟩) 1 1]).run Try.prog ((wr.alloc (.cells #[.string (g s.r i).name] 9)).drewN q) = .ok (.slice (some ⟨b, 0, none⟩) (n1 + 1) cp) w' ∧ RkS w1 w' s.r (s.now + 1) (i + 1) (some ⟨b, 0, none⟩) cp b2 d2 ∧ n1 + 1 = (names (dueL (s.now + 1) (s.r.take (i + 1)))).length ∧ n2 = (rest (s.now + 1) (s.r.take (i + 1))).length) := fun q => by
          obtain ⟨b, cp, w', run, x1, x2, x3⟩ := rk_told (RK.out.drewN q) hlt LE.out hd 35
          rw [← N1.out] at run x2
          rw [← N2.out] at x3
          exact ⟨b, cp, w', run, x1, x2.symm, x3.symm⟩
        rw [hd] at p1
        clear hd
        go_wp2_with fail
        go_quiet (fail)
        obtain ⟨b9, cp9, w9, run9, R9, l1, l2⟩ := RT.out nq
        have RN := hide run9
        have R9' := hide R9
        have L1 := hide l1
        have L2 := hide l2
        clear run9 R9 l1 l2 RT
        go_wp2_with (at_builtin; refine wp_append_run _ rfl (.tmp 35) (.tmp 44) 35 rfl _ _ RN.out ?_)
        go_roundw
        case rel => exact ⟨i + 1, n1 + 1, n2, _, b2, cp9, d2, by omega, by go_num, rfl, rfl, L1, L2, R9'⟩
        case measure => simp [intOf]; omega
      · have RT : Hid (∀ q, ∃ b cp w', (Builtin.append_ #[26, 26] 26 #[.slice b2 n2 d2, .slice (some ⟨wr.heap.size, 0, none⟩) 1 1]).run Try.prog ((wr.alloc (.cells #[.string (g s.r i).name, .int .i64 (g s.r i).due] 61)).drewN q) = .ok (.slice (some ⟨b, 0, none⟩) (n2 + 1) cp) w' ∧ RkS w1 w' s.r (s.now + 1) (i + 1) b1 d1 (some ⟨b, 0, none⟩) cp ∧ n2 + 1 = (rest (s.now + 1) (s.r.take (i + 1))).length ∧ n1 = (names (dueL (s.now + 1) (s.r.take (i + 1)))).length) := fun q => by
          obtain ⟨b, cp, w', run, x1, x2, x3⟩ := rk_rest (RK.out.drewN q) hlt LE.out hd 26
          rw [← N2.out] at run x2
          rw [← N1.out] at x3
          exact ⟨b, cp, w', run, x1, x2.symm, x3.symm⟩
        have z1 : ((g s.r i).due == s.now + 1) = false := by simpa using hd
        have z2 : ((g s.r i).due = s.now + 1) = False := by simpa using hd
        clear hd
        go_wp2_with fail
        go_quiet (fail)
        obtain ⟨b9, cp9, w9, run9, R9, l1, l2⟩ := RT.out nq
        have RN := hide run9
        have R9' := hide R9
        have L1 := hide l1
        have L2 := hide l2
        clear run9 R9 l1 l2 RT
        go_wp2_with (at_builtin; refine wp_append_run _ rfl (.tmp 46) (.tmp 54) 26 rfl _ _ RN.out ?_)
        go_roundw
        case rel => exact ⟨i + 1, n1, n2 + 1, b1, _, d1, cp9, by omega, by go_num, rfl, rfl, L2, L1, R9'⟩
        case measure => simp [intOf]; omega
    · obtain rfl : i = s.r.length := by omega
      obtain ⟨fz, fin⟩ := FI.out wr b1 d1 b2 d2 RK.out
      rw [← N1.out, ← N2.out] at fin
      have FIN := hide fin
      clear fin hlt hi
      go_wp2_with fail
      go_ret
      exact FIN.out
end Go.Proofs.Ytoganfdpaagomaa
