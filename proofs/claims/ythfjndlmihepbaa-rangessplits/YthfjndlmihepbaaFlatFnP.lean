/- Lists of one kind of flat structs: slices.Clone, and the law folder's Plain, Own and Kept. No condition but that the list's bytes are within reach. -/
import Derived.Test.YthfjndlmihepbaaRgMem
import Derived.Laws.AppendOwn
import Derived.Laws.AppendOwnNone
import Derived.OwnWalk
import Derived.Lib.SliceRun
import Derived.Shelf.Abstract
import Derived.BigQuiet
import Derived.Handy
namespace Go.Proofs.Ythfjndlmihepbaa
namespace FnP
open Go.ChangeShapes Go.WideShapes Go.ChangeAt Go.RowKit Rg
set_option linter.unusedVariables false

theorem info : (Try.prog.info? 39).map (fun i => (i.zero, i.size, i.bytes)) = some (some (.agg #[.int .i64 0, .string ⟨#[]⟩, .int .i64 0]), 3, 32) := by kernel_rfl
theorem below_made {w w1 : World} {T : TypeId} (hg : (w.alloc (.cells #[] T)).grownBy w1 (some w.heap.size)) : Below w.heap.size w w1 :=
  ⟨hg.os, hg.tape, hg.output, Nat.le_trans (by simp) hg.size, fun k hk => (hg.block k (by simp; omega) (by simp; omega)).trans (Below.heap_alloc _ _ _ hk)⟩
set_option maxRecDepth 100000 in
theorem clone_any {w : World} {a : Option Addr} {m cv : Nat} {l : List Pc} (h : Rl penc 3 32 w a m l) :
    Calls Try.prog 40 #[.slice a m cv] w fun e w' => ∃ a' c', e = .returned (.slice a' m c') ∧ Below w.heap.size w w' ∧ w'.ownsRow w.heap.size 39 3 (.slice a' m c') m (fcells penc l) := by
  obtain ⟨i0, hi, hz0, hz1, hz2⟩ := info_parts info
  have hlen := h.len
  have hroom := h.room
  cases a with
  | none =>
    obtain ⟨rfl, rfl⟩ := h.noAddr
    clear h hlen
    have qT : ∀ (w : World) (a : Option Addr) (n c n' c' : Nat), (binOp .eql 22 (.slice a n c) (.slice none n' c')).run Try.prog w = .ok (.bool a.isNone) w := fun w a n c n' c' => Lib.run_eql_slice_nil w _ _ a n c n' c' Try.underlying22
    go_enter Try.func40, Try.ntmps40
    go_wp2_with fail
    go_ret
    exact ⟨none, 0, rfl, Below.refl _ _, World.ownsRow_nil _ _ _ _⟩
  | some ad =>
    have HC : Hid (∀ j u, (fcells penc l)[j]? = some u → (w.alloc (.cells #[] 39)).cell? (ad.add j) = some u) := (h.below (Below.alloc (Below.refl _ _) (Nat.le_refl _) _)).news pflat ad rfl
    have HL : Hid ((fcells penc l).length = m * 3) := by show _ = _; rw [fcells_length pflat, hlen]
    have H1 := hide (fcells_one pflat l)
    clear h hlen
    have qT : ∀ (w : World) (a : Option Addr) (n c n' c' : Nat), (binOp .eql 22 (.slice a n c) (.slice none n' c')).run Try.prog w = .ok (.bool a.isNone) w := fun w a n c n' c' => Lib.run_eql_slice_nil w _ _ a n c n' c' Try.underlying22
    go_enter Try.func40, Try.ntmps40
    go_wp2_with (at_builtin; refine wpList_append_own _ rfl (.tmp 5) (.tmp 6) 22 rfl w.heap.size 39 i0 (.agg #[.int .i64 0, .string ⟨#[]⟩, .int .i64 0]) 3 32 Try.underlying22 hi hz0 hz1 hz2 (by rfl) (by omega) (.slice (some ⟨w.heap.size, 0, none⟩) 0 0) 0 [] rfl (World.ownsRow_made w #[] 0 (Nat.le_refl _) (by unfold maxLen; omega) (by simp)) ad m cv (fcells penc l) rfl HL.out HC.out H1.out (by unfold maxLen; omega) (by omega) (by simp) ?_; intro v' w1 ho hg _; have HO := hide ho; have HG := hide hg; clear ho hg)
    go_ret
    have ho := HO.out
    simp only [Nat.zero_add, List.nil_append] at ho
    have ho' := ho
    obtain ⟨_, ⟨rfl, e⟩ | ⟨G, C, cur, rfl, _⟩⟩ := ho
    · subst e
      exact ⟨none, 0, rfl, below_made HG.out, ho'⟩
    · exact ⟨_, _, rfl, below_made HG.out, ho'⟩
theorem tl_inj (a b : ByteArray) : (a.toList = b.toList) ↔ a = b := ⟨fun e => WideShapes.bytes_inj (by rwa [Lib.toList_data, Lib.toList_data] at e), fun e => by rw [e]⟩
set_option maxRecDepth 100000 in
theorem eql_run (x y : Pc) (w : World) : (binOp .eql 39 (pval x) (pval y)).run Try.prog w = .ok (.bool (decide (x = y))) w := by
  obtain ⟨xg, xk, xe⟩ := x
  obtain ⟨yg, yk, ye⟩ := y
  unfold pval
  go_simp
  (repeat' split) <;> first | (simp_all <;> done) | simp_all [tl_inj]
set_option maxRecDepth 100000 in
theorem neq_run (x y : Pc) (w : World) : (binOp .neq 39 (pval x) (pval y)).run Try.prog w = .ok (.bool (!decide (x = y))) w := by
  obtain ⟨xg, xk, xe⟩ := x
  obtain ⟨yg, yk, ye⟩ := y
  unfold pval
  go_simp
  (repeat' split) <;> first | (simp_all <;> done) | simp_all [tl_inj]
theorem plain_none (a a' : Option Addr) (cap cap' : Nat) (w : World) :
    Calls Try.prog 25 #[.slice a 0 cap, .slice a' 0 cap'] w fun e w' => e = .returned (.bool true) ∧ ∃ n, w' = w.drewN n := by
  go_enter Try.func25, Try.ntmps25
  go_wp2_with fail
  refine wp_loop_rounds 1 ?_
  rw [rounds_succ]
  go_wp2_with fail
  go_ret
  exact ⟨rfl, 0, rfl⟩
theorem plain_far (a a' : Option Addr) (len cap len' cap' : Nat) (w : World) (h : ¬ len = len') :
    Calls Try.prog 25 #[.slice a len cap, .slice a' len' cap'] w fun e w' => e = .returned (.bool false) ∧ ∃ n, w' = w.drewN n := by
  have h1 : ((len : Int) != (len' : Int)) = true := by simp; omega
  go_enter Try.func25, Try.ntmps25
  go_wp2_with fail
  go_ret
  exact ⟨rfl, 0, rfl⟩
set_option maxRecDepth 100000 in
set_option maxHeartbeats 1000000 in
theorem plain_any {a a' : Option Addr} {n n' cap cap' : Nat} {l l' : List Pc} {w : World} (h : Rl penc 3 32 w a n l) (h' : Rl penc 3 32 w a' n' l') :
    Calls Try.prog 25 #[.slice a n cap, .slice a' n' cap'] w fun e w' => e = .returned (.bool (decide (l = l'))) ∧ ∃ n, w' = w.drewN n := by
  by_cases hn : n = n'
  · subst hn
    by_cases h0 : n = 0
    · subst h0
      obtain rfl : l = [] := List.eq_nil_of_length_eq_zero h.len
      obtain rfl : l' = [] := List.eq_nil_of_length_eq_zero h'.len
      exact plain_none a a' cap cap' w
    · have hroom := h.room
      have HLL : Hid (l.length = n ∧ l'.length = n) := ⟨h.len, h'.len⟩
      have H := hide h
      have H' := hide h'
      clear h h'
      go_enter Try.func25, Try.ntmps25
      go_wp2_with fail
      go_loopw [5] (fun i wr => ∃ k q : Nat, k ≤ n ∧ i = .int .i64 k ∧ wr = w.drewN q ∧ Hid (∀ j, j < k → l[j]? = l'[j]?)) (fun i _ => n - (intOf i).toNat)
      case atStart => exact ⟨0, 0, Nat.zero_le _, rfl, rfl, fun j hj => absurd hj (by omega)⟩
      case round =>
        obtain ⟨k, q, hk, rfl, rfl, HE⟩ := hrel
        by_cases hlt : k < n
        · have A := H.out.at_ hlt
          have A' := H'.out.at_ hlt
          have hi : (k : Int) < (n : Int) := by omega
          obtain ⟨b, off, x, rfl, hx, hb, M⟩ := A
          obtain ⟨b', off', y, rfl, hy, hb', M'⟩ := A'
          have HX := hide hx
          have HY := hide hy
          clear hx hy hb hb'
          obtain ⟨c0, c1, c2⟩ := pc_at M
          obtain ⟨d0, d1, d2⟩ := pc_at M'
          clear M M'
          by_cases hxy : x = y
          · subst hxy
            have E2 : Hid (∀ j, j < k + 1 → l[j]? = l'[j]?) := fun j hj => by
              by_cases e : j = k
              · rw [e]
                exact HX.out.trans HY.out.symm
              · exact HE.out j (by omega)
            go_wp2_with fail
            go_quiet (fail)
            go_wp2_with fail
            go_roundw
            case rel => exact ⟨k + 1, _, by omega, by go_num, rfl, E2⟩
            case measure => simp [intOf]; omega
          · have qN : ∀ w, (binOp .neq 39 (pval x) (pval y)).run Try.prog w = .ok (.bool true) w := fun w => by rw [neq_run, decide_eq_false hxy]; rfl
            unfold pval at qN
            have HNE := hide hxy
            have HD : Hid (decide (l = l') = false) := by
              show _ = _
              rw [decide_eq_false]
              intro e
              have h1 := HX.out
              rw [e, HY.out] at h1
              exact HNE.out (Option.some.inj h1).symm
            clear hxy HX HY
            go_wp2_with fail
            go_quiet (fail)
            go_wp2_with fail
            go_ret
            exact ⟨by rw [HD.out]; rfl, _, World.drewN_drewN _ _ _⟩
        · obtain rfl : k = n := by omega
          have HD : Hid (decide (l = l') = true) := by
            show _ = _
            rw [decide_eq_true]
            apply List.ext_getElem?
            intro j
            by_cases hj : j < k
            · exact HE.out j hj
            · rw [List.getElem?_eq_none (by rw [HLL.out.1]; omega), List.getElem?_eq_none (by rw [HLL.out.2]; omega)]
          go_wp2_with fail
          go_ret
          exact ⟨by rw [HD.out]; rfl, q, rfl⟩
  · have hd : decide (l = l') = false := by
      rw [decide_eq_false]
      intro e
      subst e
      exact hn (h.len.symm.trans h'.len)
    rw [hd]
    exact plain_far a a' n cap n' cap' w hn
/-- append(s, x...) where s, a row of the call's own, has room -/
theorem wp_fits {ops : Array Oper} {rest : List Oper} {o : Oper} {act : Act} {Q : Exit → Act → World → Prop} (w : World) (hg : o.guard = none) (s x : Operand)
    (hop : o.op = Op.call { callee := Callee.builtin Builtin.append, args := #[s, x], argTypes := #[22, 22] })
    (B g k cp : Nat) (xs : List Value) (hs : act.eval s = .slice (some ⟨g, 0, none⟩) k cp) (hown : w.ownsRow B 39 3 (.slice (some ⟨g, 0, none⟩) k cp) k xs)
    (a : Option Addr) (m c : Nat) (l : List Pc) (hx : act.eval x = .slice a m c) (h : Rl penc 3 32 w a m l) (hno : a = none → c = 0) (hr : k + m ≤ cp)
    (hK : ∀ w', w'.ownsRow B 39 3 (.slice (some ⟨g, 0, none⟩) (k + m) cp) (k + m) (xs ++ fcells penc l) → w.grownBy w' (some g) → wpList Try.prog ops Q rest (act.put o.dst (.slice (some ⟨g, 0, none⟩) (k + m) cp)) w') :
    wpList Try.prog ops Q (o :: rest) act w := by
  obtain ⟨i0, hi, hz0, hz1, hz2⟩ := info_parts info
  cases a with
  | none =>
    obtain ⟨rfl, rfl⟩ := h.noAddr
    obtain rfl := hno rfl
    refine wpList_append_own_none hg s x 22 hop B 39 i0 3 Try.underlying22 hi _ k xs hs hown hx ?_
    have := hK w (by rw [show fcells penc [] = [] from rfl, List.append_nil]; exact hown) (World.grownBy.refl _ _)
    exact this
  | some ad =>
    exact wpList_append_fits w hg s x 22 hop B 39 i0 3 Try.underlying22 hi hz1 g k cp xs hs hown ad m c (fcells penc l) hx (by rw [fcells_length pflat, h.len]) (h.news pflat ad rfl) (fcells_one pflat l) hr hK
set_option maxRecDepth 100000 in
set_option maxHeartbeats 1000000 in
theorem own_any {a : Option Addr} {len cap : Nat} {l : List Pc} {w : World} (mk : Pc) (h : Rl penc 3 32 w a len l) (hno : a = none → cap = 0) :
    Calls Try.prog 30 #[.slice a len cap, pval mk] w fun e w' => ∃ g, e = .returned (.slice (some ⟨g, 0, none⟩) len (len + 2)) ∧ Below w.heap.size w w' ∧ w'.ownsRow w.heap.size 39 3 (.slice (some ⟨g, 0, none⟩) (len + 2) (len + 2)) (len + 2) (fcells penc (l ++ [mk, mk])) := by
  obtain ⟨i0, hi, hz0, hz1, hz2⟩ := info_parts info
  have hroom := h.room
  have H := hide h
  have HN := hide hno
  clear h hno
  unfold pval
  go_enter Try.func30, Try.ntmps30
  go_wp2_with (at_make; refine wpList_make_own _ rfl _ _ 22 rfl w.heap.size 39 i0 (.agg #[.int .i64 0, .string ⟨#[]⟩, .int .i64 0]) 3 Try.underlying22 hi hz0 hz1 _ _ _ (len + 2) rfl rfl (by omega) ?b2 ?b3 (by simp) ?_)
  case b2 => rw [hz2]; omega
  case b3 => unfold maxLen; omega
  intro w0 hown0 hgrow0
  have HB0 : Hid (Below w.heap.size w w0) := ((Below.refl _ _).alloc (Nat.le_refl _) _).grown hgrow0 (by simp) (fun k h => by cases h)
  have H0 := hide (H.out.below HB0.out)
  have HR0 : Hid (w0.heap[w.heap.size]? = some (.cells #[.int .i64 mk.g, .string mk.k, .int .i64 mk.ep] 39 (0, 0))) := (hgrow0.block w.heap.size (by simp) (by simp)).trans (heap_alloc_new w _)
  obtain ⟨g, eg⟩ : ∃ g, g = w.heap.size + 1 := ⟨_, rfl⟩
  have hgl : w.heap.size < g := by omega
  have hO := hown0
  rw [← eg] at hO
  have HO := hide hO
  clear hown0 hgrow0 hO
  rw [← eg]
  have HE := hide eg
  clear eg
  go_wp2_with (first
    | (at_builtin; refine wp_fits _ rfl (.tmp 10) (.tmp 11) rfl w.heap.size g 0 (len + 2) [] rfl HO.out a len cap l rfl H0.out HN.out (by omega) ?_; intro w1 hown1 hgrow1; simp only [Nat.zero_add, List.nil_append] at hown1; have HB1 : Hid (Below w.heap.size w w1) := HB0.out.grown hgrow1 HB0.out.size (fun k h => by cases h; omega); have HR1 : Hid (w1.heap[w.heap.size]? = some (.cells #[.int .i64 mk.g, .string mk.k, .int .i64 mk.ep] 39 (0, 0))) := (hgrow1.block w.heap.size (Array.getElem?_eq_some_iff.1 HR0.out).1 (by simp; omega)).trans HR0.out; have HO1 := hide hown1; clear hown1 hgrow1 HO; obtain ⟨c0, c1, c2⟩ := pc_row mk HR1.out)
    | (at_builtin; refine wpList_append_fits _ rfl (.tmp 13) (.tmp 16) 22 rfl w.heap.size 39 i0 3 Try.underlying22 hi hz1 g len (len + 2) (fcells penc l) rfl (HO1.out.alloc _) ⟨w1.heap.size, 0, none⟩ 2 2 (penc mk ++ penc mk) rfl (by simp [pflat.size]) (fun j u hj => by rw [Addr.add_lit, Nat.zero_add, cell_of_row _ _ _ _ _ _ (heap_alloc_new w1 _)]; simpa [penc] using hj) (fun u hu => by rcases List.mem_append.1 hu with h | h <;> exact pflat.one mk u h) (by omega) ?_; intro w2 hown2 hgrow2))
  go_ret
  refine ⟨g, rfl, ?_, ?_⟩
  · exact (HB1.out.alloc HB1.out.size _).grown hgrow2 (Nat.le_trans HB1.out.size (by simp)) (fun k hk => by cases hk; omega)
  · rw [fcells_append, show fcells penc [mk, mk] = penc mk ++ penc mk by simp [fcells]]
    exact hown2
/-- what Own has made, as a list, and what stands behind it -/
theorem own_row {w : World} {B g len : Nat} {l : List Pc} {mk : Pc} (hl : l.length = len) (hr : len * 32 ≤ 140737488355328)
    (h : w.ownsRow B 39 3 (.slice (some ⟨g, 0, none⟩) (len + 2) (len + 2)) (len + 2) (fcells penc (l ++ [mk, mk]))) :
    Rl penc 3 32 w (some ⟨g, 0, none⟩) len l ∧ w.rangeAt g (len * 3) (penc mk) ∧ w.rangeAt g ((len + 1) * 3) (penc mk) := by
  have hgl : g < w.heap.size := (h.lt g rfl).2
  have at_ : ∀ j x, (l ++ [mk, mk])[j]? = some x → w.rangeAt g (j * 3) (penc x) := fun j x hj o v hv => by
    have hjl := (List.getElem?_eq_some_iff.1 hj).1
    simp only [List.length_append, List.length_cons, List.length_nil, hl] at hjl
    have ho : o < 3 := by
      have := (List.getElem?_eq_some_iff.1 hv).1
      rw [pflat.size] at this
      exact this
    rw [h.cellAt (j * 3 + o) (by omega), fcells_at pflat _ _ _ hj o ho]
    exact hv
  refine ⟨⟨hl, fun h0 => ⟨g, 0, rfl, hgl, fun j x hj => ?_⟩, hr⟩, at_ len mk ?_, at_ (len + 1) mk ?_⟩
  · rw [Nat.zero_add]
    exact at_ j x (by rw [List.getElem?_append_left (List.getElem?_eq_some_iff.1 hj).1]; exact hj)
  · rw [List.getElem?_append_right (by omega), hl]; simp
  · rw [List.getElem?_append_right (by omega), hl]; simp
end FnP
end Go.Proofs.Ythfjndlmihepbaa
