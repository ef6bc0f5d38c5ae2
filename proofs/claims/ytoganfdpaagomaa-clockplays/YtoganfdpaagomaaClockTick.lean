/- The landed clock's Tick. No condition but sizes. -/
import Derived.Test.YtoganfdpaagomaaClockState
import Derived.BigQuiet
namespace Go.Proofs.Ytoganfdpaagomaa
open Go.ChangeShapes Go.WideShapes Go.ChangeAt Go.RowKit Cm
set_option linter.unusedVariables false

theorem wp_append_run {ops : Array Oper} {rest : List Oper} {o : Oper} {act : Act} {Q : Exit → Act → World → Prop} (w : World) (hg : o.guard = none) (s x : Operand) (t : TypeId)
    (hop : o.op = Op.call { callee := Callee.builtin Builtin.append, args := #[s, x], argTypes := #[t, t] }) (v : Value) (w' : World) (hr : (Builtin.append_ #[t, t] o.type #[act.eval s, act.eval x]).run Try.prog w = .ok v w') (hK : wpList Try.prog ops Q rest (act.put o.dst v) w') : wpList Try.prog ops Q (o :: rest) act w := by
  refine wpList_plain hg fun K hK' => ?_
  unfold Oper.wp execOp
  simp only [hop, resolve, invoke, builtin, Sem.run_bind, Sem.run_pure, Result.andThen_ok, List.map_toArray, List.map_cons, List.map_nil, hr]
  exact hK' _ _ hK
/-- strings as cells -/
def strs (l : List ByteArray) : List Value := l.map Value.string
theorem strs_append (a b : List ByteArray) : strs (a ++ b) = strs a ++ strs b := by simp [strs]
theorem strs_length (a : List ByteArray) : (strs a).length = a.length := by simp [strs]
theorem strInfo : (Try.prog.info? 9).map (fun i => (i.zero, i.size, i.bytes)) = some (some (.string ⟨#[]⟩), 1, 16) := by kernel_rfl
/-- a list of strings in memory of its own, from block B on -/
def Told (w : World) (B : Nat) (v : Value) (l : List ByteArray) : Prop := w.ownsRow B 9 1 v l.length (strs l)
theorem told_nil (w : World) (B : Nat) : Told w B (.slice none 0 0) [] := ⟨rfl, .inl ⟨rfl, rfl⟩⟩
theorem told_add {w : World} {B : Nat} {a : Option Addr} {c : Nat} {l : List ByteArray} (h : Told w B (.slice a l.length c) l) (hl : l.length ≤ 1000) (hB : B ≤ w.heap.size) (x : ByteArray) (ty : TypeId) :
    ∃ b cp w', (Builtin.append_ #[35, 35] ty #[.slice a l.length c, .slice (some ⟨w.heap.size, 0, none⟩) 1 1]).run Try.prog (w.alloc (.cells #[.string x] 9)) = .ok (.slice (some ⟨b, 0, none⟩) (l.length + 1) cp) w' ∧ Told w' B (.slice (some ⟨b, 0, none⟩) (l ++ [x]).length cp) (l ++ [x]) ∧ w.grownBy w' (Value.slice a l.length c).ownBlock ∧ ((Value.slice a l.length c).ownBlock = some b ∨ w.heap.size ≤ b) := by
  obtain ⟨i0, hi, hz0, hz1, hz2⟩ := info_parts strInfo
  have ha : (w.alloc (.cells #[.string x] 9)).ownsRow B 9 1 (.slice a l.length c) l.length (strs l) := row_same h (fun k hk => Below.heap_alloc _ _ _ (h.lt k hk).2)
  obtain ⟨b, cp, w', h1, h2, h3, h4⟩ := run_append_where (P := Try.prog) (w.alloc (.cells #[.string x] 9)) B 35 ty 9 i0 (.string ⟨#[]⟩) 1 16 Try.underlying35 hi hz0 hz1 hz2 rfl (by omega) a l.length c (strs l) ha ⟨w.heap.size, 0, none⟩ 1 1 [.string x] rfl (fun j u hu => by
    rw [Addr.add_lit, Nat.zero_add, cell_of_row _ _ j _ _ _ (heap_alloc_new w _)]
    simpa using hu) (by intro u hu; simp at hu; subst hu; rfl) (by omega) (by unfold maxLen; omega) (by omega) (by simp; omega)
  refine ⟨b, cp, w', h1, ?_, (World.grownBy_alloc w _ _).trans h3, h4.imp id (fun e => by rw [e]; simp)⟩
  unfold Told
  rw [strs_append, show strs [x] = [.string x] from rfl, show (l ++ [x]).length = l.length + 1 by simp]
  exact h2
theorem Told.same {w w' : World} {B : Nat} {v : Value} {l : List ByteArray} (h : Told w B v l) (hb : ∀ k, v.ownBlock = some k → w'.heap[k]? = w.heap[k]?) : Told w' B v l := row_same h hb
/-- between two rounds of Tick's loop -/
structure TkR (w wr : World) (C : Nat) (L Lk : Ql) (s : Cs) (D R : List Tm) (i : Nat) (a : Option Addr) (c : Nat) : Prop where
  ex : ∃ lk, lk.Perm (D.drop i ++ R) ∧ HeapN lk lk.length ∧ Qu wr Lk lk (names lk)
  dis : ¬ Lk.M C
  chg : Chg (Cb C L) w wr
  m : ∀ k, Lk.M k → L.M k ∨ w.heap.size ≤ k
  eQ : Lk.Q = L.Q
  told : Told wr w.heap.size (.slice a (names (D.take i)).length c) (names (D.take i))
  off : ∀ k, (Value.slice a (names (D.take i)).length c).ownBlock = some k → ¬ Lk.M k ∧ k ≠ C
  c0 : wr.cell? ⟨C, 0, none⟩ = some (.int .i64 (s.now + 1))
  c1 : wr.cell? ⟨C, 1, none⟩ = some (.int .i64 s.sets)
  c2 : wr.cell? ⟨C, 2, none⟩ = some (.pointer (some ⟨L.Q, 0, none⟩))
  f : ∀ o, wr.frozen? ⟨C, o, none⟩ = false
/-- what Tick leaves: the names in memory of their own, and the clock -/
def TickP (w : World) (C : Nat) (L : Ql) (s : Cs) (B : Int) (e : Ending) (w' : World) : Prop :=
  ∃ a c, e = .returned (.slice a (tickN s).length c) ∧ Told w' w.heap.size (.slice a (tickN s).length c) (tickN s) ∧ Chg (Cb C L) w w' ∧ ∃ L', Cl w' C L' (tickS s) (B + 1) ∧ (∀ k, Cb C L' k → Cb C L k ∨ w.heap.size ≤ k) ∧ ∀ k, (Value.slice a (tickN s).length c).ownBlock = some k → ¬ Cb C L' k
theorem tk_end {w wr : World} {C : Nat} {L Lk : Ql} {s : Cs} {B : Int} {a : Option Addr} {c : Nat} (h : TkR w wr C L Lk s (s.r.filter (nowDue (s.now + 1))) (s.r.filter fun t => !nowDue (s.now + 1) t) (s.r.filter (nowDue (s.now + 1))).length a c) (ho : Ok s B) : TickP w C L s B (.returned (.slice a (tickN s).length c)) wr := by
  have e : (s.r.filter (nowDue (s.now + 1))).take (s.r.filter (nowDue (s.now + 1))).length = s.r.filter (nowDue (s.now + 1)) := List.take_length
  have ht := h.told
  have hf := h.off
  rw [e] at ht hf
  obtain ⟨lk, h1, h2, h3⟩ := h.ex
  rw [List.drop_length, List.nil_append] at h1
  refine ⟨a, c, rfl, ht, h.chg, Lk, ⟨h.c0, h.c1, by rw [h.eQ]; exact h.c2, h.f, ⟨lk, h1, h2, h3⟩, h.dis, ho.tick⟩, fun k hk => ?_, fun k hk hb => ?_⟩
  · rcases hk with rfl | hk
    · exact .inl (.inl rfl)
    · rcases h.m k hk with h4 | h4
      · exact .inl (.inr h4)
      · exact .inr h4
  · rcases hb with rfl | hb
    · exact (hf _ hk).2 rfl
    · exact (hf _ hk).1 hb
/-- one round: the first one is taken, its name is told -/
theorem tk_next {w wr w2 w3 : World} {C : Nat} {L Lk : Ql} {s : Cs} {D R : List Tm} {i : Nat} {a : Option Addr} {c b cp : Nat} {lk : List Tm} (h : TkR w wr C L Lk s D R i a c) (hi : i < D.length)
    (hlk : lk.Perm (D.drop i ++ R)) (hx : g lk 0 = D[i]) (hl : 0 < lk.length)
    (h2 : HP wr Lk (lk.eraseIdx 0) names w2)
    (h3 : Told w3 w.heap.size (.slice (some ⟨b, 0, none⟩) (names (D.take i) ++ [(g lk 0).name]).length cp) (names (D.take i) ++ [(g lk 0).name])) (h4 : w2.grownBy w3 (Value.slice a (names (D.take i)).length c).ownBlock) (h5 : (Value.slice a (names (D.take i)).length c).ownBlock = some b ∨ w2.heap.size ≤ b) :
    ∃ L3, TkR w w3 C L L3 s D R (i + 1) (some ⟨b, 0, none⟩) cp := by
  obtain ⟨l', p1, p2, hc2, L3, q3, eQ3, m3⟩ := h2
  have wC : C < wr.heap.size := World.block_lt_of_cell? wr _ h.c0
  have oldT : ∀ k, (Value.slice a (names (D.take i)).length c).ownBlock = some k → ¬ L3.M k ∧ k ≠ C := fun k hk => ⟨fun hm => by
    rcases m3 k hm with h6 | h6
    · exact (h.off k hk).1 h6
    · have := (h.told.lt k hk).2; omega, (h.off k hk).2⟩
  have hC3 : w3.heap[C]? = wr.heap[C]? := (h4.block C (Nat.lt_of_lt_of_le wC hc2.size) (fun e => (oldT C e.symm).2 rfl)).trans (hc2.block C wC h.dis)
  have cC : ∀ o, w3.cell? ⟨C, o, none⟩ = wr.cell? ⟨C, o, none⟩ := fun o => World.cell?_of_block (a := ⟨C, o, none⟩) hC3
  have q4 : Qu w3 L3 l' (names l') := q3.same (fun k hk => h4.block k (q3.lt k hk) (fun e => (oldT k e.symm).1 hk))
  have ed : D.drop i = D[i] :: D.drop (i + 1) := List.drop_eq_getElem_cons hi
  have et : names (D.take i) ++ [(g lk 0).name] = names (D.take (i + 1)) := by rw [hx, List.take_succ_eq_append_getElem hi, names, names, List.map_append]; rfl
  refine ⟨L3, ⟨⟨l', ?_, p2, q4⟩, fun hm => ?_, ?_, fun k hk => ?_, eQ3.trans h.eQ, ?_, fun k hk => ?_, (cC 0).trans h.c0, (cC 1).trans h.c1, (cC 2).trans h.c2, fun o => (World.frozen?_of_block (a := ⟨C, o, none⟩) hC3).trans (h.f o)⟩⟩
  · refine p1.trans ?_
    rw [ed] at hlk
    exact heap_rest hlk hx hl
  · rcases m3 C hm with h6 | h6
    · exact h.dis h6
    · omega
  · refine (h.chg.trans hc2 (fun k hk hm => ?_)).grown h4 (fun k hk => ?_)
    · rcases h.m k hm with h6 | h6
      · exact .inr h6
      · omega
    · exact .inr (h.told.lt k hk).1
  · rcases m3 k hk with h6 | h6
    · exact h.m k h6
    · exact .inr (Nat.le_trans h.chg.size h6)
  · rw [et] at h3; exact h3
  · have ek : b = k := by simpa [Value.ownBlock] using hk
    subst ek
    rcases h5 with h6 | h6
    · exact oldT _ h6
    · exact ⟨fun hm => by have := q3.lt _ hm; omega, fun e => by have := hc2.size; omega⟩
set_option maxRecDepth 100000 in
set_option maxHeartbeats 1000000 in
theorem tick_any {w : World} {C : Nat} {L : Ql} {s : Cs} {B : Int} (h : Cl w C L s B) (hB : B < 1000000000000000000) :
    Calls Try.prog 19 #[.pointer (some ⟨C, 0, none⟩)] w fun e w' => TickP w C L s B e w' := by
  have c0 := h.c0
  have f0 := h.f 0
  have ok := h.ok
  have n0 := ok.n0
  have nB := ok.nB
  have a1 : IntKind.i64.wrap (s.now + 1) = s.now + 1 := by rw [IntKind.wrap_i64]; omega
  obtain ⟨D, eD⟩ : ∃ D, D = s.r.filter (nowDue (s.now + 1)) := ⟨_, rfl⟩
  obtain ⟨R, eR⟩ : ∃ R, R = s.r.filter fun t => !nowDue (s.now + 1) t := ⟨_, rfl⟩
  have hDs : D.Pairwise fun a b => a.turn < b.turn := by rw [eD]; exact ok.srt.sublist List.filter_sublist
  have hDd : ∀ t ∈ D, t.due = s.now + 1 := fun t ht => by rw [eD] at ht; have := (List.mem_filter.1 ht).2; simpa [nowDue] using this
  have hRd : ∀ t ∈ R, s.now + 1 < t.due := fun t ht => by
    rw [eR] at ht
    have h1 := (List.mem_filter.1 ht).2
    have h2 := (ok.tm t (List.mem_filter.1 ht).1).1
    simp [nowDue] at h1
    omega
  have hDl : D.length ≤ 64 := by rw [eD]; exact Nat.le_trans (List.length_filter_le _ _) ok.len
  obtain ⟨w1, e1⟩ : ∃ w1, w1 = w.setCell ⟨C, 0, none⟩ (.int .i64 (s.now + 1)) := ⟨_, rfl⟩
  have START : Hid (TkR w w1 C L L s D R 0 none 0) := by
    have o1 : ∀ k, k ≠ C → w1.heap[k]? = w.heap[k]? := fun k hk => by rw [e1]; exact Below.heap_setCell _ _ _ _ hk
    obtain ⟨l, p1, p2, q⟩ := h.q
    refine ⟨⟨l, ?_, p2, q.same (fun k hk => o1 k (fun e => h.dis (e ▸ hk)))⟩, h.dis, ?_, fun k hk => .inl hk, rfl, told_nil _ _, fun k hk => by simp [Value.ownBlock] at hk, ?_, ?_, ?_, fun o => ?_⟩
    · rw [List.drop_zero, eD, eR]; exact p1.trans (parts_perm _ _)
    · rw [e1]; exact (Chg.refl _ _).setCell (p := ⟨C, 0, none⟩) (.inl (.inl rfl)) _
    · rw [e1]; exact World.cell?_setCell_same' _ _ _ (by rw [c0]; rfl)
    · rw [e1, World.cell?_setCell_other _ _ _ _ (by simp)]; exact h.c1
    · rw [e1, World.cell?_setCell_other _ _ _ _ (by simp)]; exact h.c2
    · rw [e1, setCell_frozen]; exact h.f o
  have FI : Hid (∀ wr Lk a c, TkR w wr C L Lk s D R D.length a c → TickP w C L s B (.returned (.slice a D.length c)) wr) := fun wr Lk a c hk => by
    have e2 : D.length = (tickN s).length := by rw [eD]; simp [tickN, names]
    rw [eD, eR] at hk
    rw [e2]
    exact tk_end hk ok
  have fld : ∀ (t : Tm) (W : World), (Instr.field 54 (tagg t) 0).run Try.prog W = .ok (.string t.name) W := fun t W => by kernel_rfl
  have E1 := hide e1
  have DD := hide (And.intro hDs (And.intro hDd (And.intro hRd hDl)))
  clear h ok n0 nB eD eR hDs hDd hRd hDl e1 hB
  go_enter Try.func19, Try.ntmps19
  go_wp2_with fail
  rw [← E1.out]
  clear c0 f0 E1
  go_loopw [3] (fun tv wr => ∃ (i : Nat) (Lk : Ql) (a : Option Addr) (c : Nat), i ≤ D.length ∧ tv = .slice a i c ∧ Hid (TkR w wr C L Lk s D R i a c)) (fun tv _ => match tv with | .slice _ n _ => D.length - n | _ => 0)
  case atStart => exact ⟨0, L, none, 0, Nat.zero_le _, rfl, START⟩
  case round =>
    obtain ⟨i, Lk, a, c, hi, rfl, TK⟩ := hrel
    obtain ⟨lk, p1, p2, q⟩ := TK.out.ex
    have CL : Hid (∀ n, Calls Try.prog 31 #[.pointer (some ⟨L.Q, 0, none⟩)] (wr.drewN n) fun e w' => e = .returned (.int .i64 lk.length) ∧ w' = wr.drewN n) := fun n => by rw [← TK.out.eQ]; exact len_any (q.drewN n)
    have c0 := TK.out.c0
    have c2 := TK.out.c2
    have nl : (names (D.take i)).length = i := by rw [names_length]; simp; omega
    by_cases hlt : i < D.length
    · have ed : D.drop i = D[i] :: D.drop (i + 1) := List.drop_eq_getElem_cons hlt
      have p1' := p1
      rw [ed] at p1'
      obtain ⟨gx, gl⟩ := heap_first p2 p1' (by rw [← ed]; exact DD.out.1.sublist (List.drop_sublist _ _)) (fun t ht => DD.out.2.1 t (by rw [← ed] at ht; exact List.mem_of_mem_drop ht)) DD.out.2.2.1
      obtain ⟨b, ea, eo, i0, i1, i2⟩ := q.at gl
      have hdue : (g lk 0).due = s.now + 1 := by rw [gx]; exact DD.out.2.1 _ (List.getElem_mem _)
      have d0 := q.c0
      rw [ea, TK.out.eQ] at d0
      simp only [Nat.zero_mul, Nat.zero_add] at i0 i1 i2
      rw [hdue] at i1
      have hm := q.len
      have l1 : (0 : Int) < (lk.length : Int) := by omega
      have l2 : (0 : Int) < (Lk.m : Int) := by omega
      have l3 : 0 < lk.length := gl
      obtain ⟨n, en⟩ : ∃ n, lk.length = n + 1 := ⟨lk.length - 1, by omega⟩
      have CT : Hid (∀ n, Calls Try.prog 35 #[.pointer (some ⟨L.Q, 0, none⟩), .int .i64 0] (wr.drewN n) fun e w' => e = .returned (tagg (g lk 0)) ∧ HP (wr.drewN n) Lk (lk.eraseIdx 0) names w') := fun n => by rw [← TK.out.eQ]; exact take_any (q.drewN n) en (k := 0) (Nat.zero_le _) p2
      have TA : Hid (∀ n w2, HP (wr.drewN n) Lk (lk.eraseIdx 0) names w2 → ∃ b cp w3, (Builtin.append_ #[35, 35] 35 #[.slice a i c, .slice (some ⟨w2.heap.size, 0, none⟩) 1 1]).run Try.prog (w2.alloc (.cells #[.string (g lk 0).name] 9)) = .ok (.slice (some ⟨b, 0, none⟩) (i + 1) cp) w3 ∧ ∃ L3, TkR w w3 C L L3 s D R (i + 1) (some ⟨b, 0, none⟩) cp) := fun n w2 hp => by
        have hp' : HP wr Lk (lk.eraseIdx 0) names w2 := HP.behind (L := Lk) (Chg.drewN _ _ n) rfl (fun k hk => .inl hk) hp
        obtain ⟨l', _, _, hc2, _⟩ := id hp'
        have told2 : Told w2 w.heap.size (.slice a (names (D.take i)).length c) (names (D.take i)) := TK.out.told.same (fun k hk => hc2.block k (TK.out.told.lt k hk).2 (TK.out.off k hk).1)
        obtain ⟨b, cp, w3, t1, t2, t3, t4⟩ := told_add told2 (by rw [nl]; have := DD.out.2.2.2; omega) (Nat.le_trans TK.out.chg.size hc2.size) (g lk 0).name 35
        rw [nl] at t1
        exact ⟨b, cp, w3, t1, tk_next TK.out hlt p1 gx gl hp' t2 t3 t4⟩
      have HL := hide hlt
      clear p1 p2 q nl ed p1' gx gl hdue hm en ea eo hlt hi i0 i2
      go_wp2_with fail
      go_quiet ((go_at_call 31; exact Calls.quiet_of_same (CL.out _)))
      go_wp2_with fail
      refine (CT.out _).mono ?_
      rintro e w2 ⟨rfl, hp⟩
      obtain ⟨b, cp, w3, run3, L3, TN⟩ := TA.out _ _ hp
      have TN' := hide TN
      have RN := hide run3
      clear hp TN run3
      go_wp2_with (at_builtin; refine wp_append_run _ rfl (.tmp 36) (.tmp 43) 35 rfl _ _ RN.out ?_)
      go_roundw
      case rel => exact ⟨i + 1, L3, some ⟨b, 0, none⟩, cp, HL.out, rfl, TN'⟩
      case measure => have := HL.out; simp; omega
    · obtain rfl : i = D.length := by omega
      have FIN : Hid (∀ n, TickP w C L s B (.returned (.slice a D.length c)) (wr.drewN n)) := fun n => by
        obtain ⟨lk, p1, p2, q⟩ := TK.out.ex
        have cw : ∀ o, (wr.drewN n).cell? ⟨C, o, none⟩ = wr.cell? ⟨C, o, none⟩ := fun o => rfl
        exact FI.out _ Lk a c ⟨⟨lk, p1, p2, q.drewN n⟩, TK.out.dis, TK.out.chg.trans (Chg.drewN (fun _ => False) _ n) (fun k _ h => h.elim), TK.out.m, TK.out.eQ, TK.out.told.same (fun _ _ => rfl), TK.out.off, TK.out.c0, TK.out.c1, TK.out.c2, TK.out.f⟩
      rw [List.drop_length, List.nil_append] at p1
      rcases Nat.eq_zero_or_pos lk.length with h0 | h0
      · rw [h0] at CL
        clear p1 p2 q nl hlt hi h0
        go_wp2_with fail
        go_quiet ((go_at_call 31; exact Calls.quiet_of_same (CL.out _)))
        go_wp2_with fail
        go_ret
        exact FIN.out _
      · obtain ⟨b, ea, eo, i0, i1, i2⟩ := q.at h0
        have d0 := q.c0
        rw [ea, TK.out.eQ] at d0
        simp only [Nat.zero_mul, Nat.zero_add] at i0 i1 i2
        have hm := q.len
        have hdue := DD.out.2.2.1 _ (p1.mem_iff.1 (g_mem h0))
        have l1 : (0 : Int) < (lk.length : Int) := by omega
        have l2 : (0 : Int) < (Lk.m : Int) := by omega
        have l4 : ¬ ((g lk 0).due ≤ s.now + 1) := by omega
        have l5 : decide ((g lk 0).due ≤ s.now + 1) = false := decide_eq_false l4
        clear p1 p2 q nl hlt hi ea eo hm hdue i0 i2
        go_wp2_with fail
        go_quiet ((go_at_call 31; exact Calls.quiet_of_same (CL.out _)))
        go_wp2_with fail
        go_ret
        exact FIN.out _
end Go.Proofs.Ytoganfdpaagomaa
