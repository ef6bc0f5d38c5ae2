/- Forget of a landed acceptor. No condition. -/
import Derived.Test.YtdnniokpkamjjabAccCalls
namespace Go.Proofs.Ytdnniokpkamjjab
open Go.ChangeShapes Go.WideShapes Go.ChangeAt Go.RowKit B8 Am
set_option linter.unusedVariables false

/-- what is left of the votes while the range goes on: those from b on, and those that are still to come -/
def lf (l : List Vv) (b : Int) (left : Lit → Bool) : List Vv := l.filter (fun v => decide (b ≤ v.s) || left (ikey v.s))
theorem lf_sorted {l : List Vv} (h : l.Pairwise (fun a b => a.s < b.s)) (b : Int) (left : Lit → Bool) : (lf l b left).Pairwise (fun a b => a.s < b.s) := h.filter _
theorem lf_start {l : List Vv} {D : DataW Value} (h : Has D l) (b : Int) : lf l b (Maps.has D) = l := by
  refine List.filter_eq_self.2 fun v hv => ?_
  rw [(h.keys _).2 ⟨v, hv, rfl⟩]
  simp
theorem lf_end {l : List Vv} {b : Int} {left : Lit → Bool} (h : ∀ kl, left kl = false) : (lf l b left).map Vv.vt = fromL (l.map Vv.vt) b := by
  unfold lf fromL
  rw [List.filter_map]
  congr 1
  refine List.filter_congr fun v _ => ?_
  show (decide (b ≤ v.s) || left (ikey v.s)) = decide (b ≤ v.s)
  rw [h, Bool.or_false]
theorem key_same (a b : Int) : (ikey a).sameKey (ikey b) = decide (a = b) := by
  by_cases e : a = b
  · subst e
    rw [WideAt.sameKey_self (show WideAt.IsKeyLit (ikey a) from trivial)]
    simp
  · rw [Maps.sameKey_ne (fun h => e (ikey_inj h))]
    simp [e]
theorem lf_stay {l : List Vv} {b x : Int} (left : Lit → Bool) (h : b ≤ x) : lf l b (fun z => left z && !z.sameKey (ikey x)) = lf l b left := by
  refine List.filter_congr fun v _ => ?_
  simp only [key_same]
  by_cases e : v.s = x
  · subst e
    simp [h]
  · simp [e]
theorem lf_del {l : List Vv} {D : DataW Value} {b x : Int} {left : Lit → Bool} (hD : Has D (lf l b left)) (h : x < b) : Has (D.del (ikey x)) (lf l b (fun z => left z && !z.sameKey (ikey x))) := by
  have hm : ∀ v, v ∈ lf l b (fun z => left z && !z.sameKey (ikey x)) ↔ v ∈ lf l b left ∧ v.s ≠ x := fun v => by
    unfold lf
    simp only [List.mem_filter, key_same]
    by_cases e : v.s = x
    · subst e
      simp
      omega
    · simp [e]
  refine ⟨fun kl => ?_, fun v hv zd => ?_⟩
  · by_cases e : kl = ikey x
    · subst e
      rw [Maps.has_del_same]
      simp only [Bool.false_eq_true, false_iff, not_exists, not_and]
      intro v hv e2
      exact ((hm v).1 hv).2 (ikey_inj e2).symm
    · rw [Maps.has_del_other e, hD.keys]
      constructor
      · rintro ⟨v, hv, rfl⟩
        exact ⟨v, (hm v).2 ⟨hv, fun e2 => e (by rw [e2])⟩, rfl⟩
      · rintro ⟨v, hv, rfl⟩
        exact ⟨v, ((hm v).1 hv).1, rfl⟩
  · obtain ⟨h1, h2⟩ := (hm v).1 hv
    rw [Maps.atKey_del_other (fun e => h2 (ikey_inj e))]
    exact hD.vals v h1 zd
/-- the first slot is written -/
theorem ac_first {w : World} {P : Nat → Prop} {A mb : Nat} {s s' : As} (row : w.heap[A]? = some (.cells (arow s mb) 46 (0, 0))) (b : Int) (hs : s' = { s with first := b, vs := s'.vs }) {l : List Vv} (hm : Mp w mb l) (hv : s'.vs = l.map Vv.vt) (hp : ∀ p ∈ l, p.In w P) (hok : Ok s') :
    Ac (w.setCell ⟨A, 2, none⟩ (.int .i64 b)) P A mb s' := by
  have hne : mb ≠ A := fun e => by
    obtain ⟨es, clock, hb⟩ := hm.isMap
    rw [← e, hb] at row
    cases row
  have hc : Chg (fun k => k = A) w (w.setCell ⟨A, 2, none⟩ (.int .i64 b)) := (Chg.refl (fun k => k = A) _).setCell (p := ⟨A, 2, none⟩) (.inl rfl) _
  have hB : NoB w A := NoB.of_row row (fun v hv x e => by subst e; simp [arow] at hv)
  refine ⟨?_, ⟨l, hm.same (hc.block _ hm.lt hne), hv, fun p hp' => (hp p hp').chg hc (fun k hk => .inr (by rw [hk]; exact hB))⟩, hok⟩
  have := put_row (o := 2) (u := .int .i64 b) row
  rw [this, hs]
  rfl
set_option maxRecDepth 100000 in
set_option maxHeartbeats 1000000 in
theorem forget_any {w : World} {P : Nat → Prop} {A mb : Nat} {s : As} (h : Ac w P A mb s) (b : Int) :
    Calls Try.prog 7 #[.pointer (some ⟨A, 0, none⟩), .int .i64 b] w fun e w' => e = .returned (.int .i64 (forgN s b)) ∧ Mv w P A mb (forgS s b) w' := by
  have c2 := h.c2
  have c3 := h.c3
  have H := hide h
  by_cases h1 : b ≤ s.first
  · have e0 : forgB s b = false := by simp [forgB]; omega
    have e1 : forgN s b = 0 := by simp [forgN, e0]
    have e2 : forgS s b = s := by simp [forgS, e0]
    rw [e1, e2]
    clear h e0 e1 e2
    go_enter Try.func7, Try.ntmps7
    go_wp2_with fail
    go_ret
    exact ⟨rfl, Mv.stay H.out (Below.refl _ _)⟩
  · by_cases h2 : 1099511627776 < b
    · have e0 : forgB s b = false := by simp [forgB]; omega
      have e1 : forgN s b = 0 := by simp [forgN, e0]
      have e2 : forgS s b = s := by simp [forgS, e0]
      rw [e1, e2]
      clear h e0 e1 e2
      go_enter Try.func7, Try.ntmps7
      go_wp2_with fail
      go_ret
      exact ⟨rfl, Mv.stay H.out (Below.refl _ _)⟩
    · have e0 : forgB s b = true := by simp [forgB]; omega
      have e1 : forgN s b = (s.vs.length : Int) - ((fromL s.vs b).length : Int) := by simp [forgN, e0]
      have e2 : forgS s b = { s with first := b, vs := fromL s.vs b } := by simp [forgS, e0]
      have OK2 := hide (ok_forg h.ok b)
      rw [e2] at OK2
      rw [e1, e2]
      have LEN := hide (length_le h.ok)
      obtain ⟨l, hmp, hvs, hins⟩ := h.ex
      obtain ⟨D, hown, hsz, hD, hsort⟩ := hmp
      have HS := hide hsz
      have HD := hide hD
      have SO := hide hsort
      have IN := hide hins
      have VS := hide hvs
      have ln := hown.len Try.underlying44 3
      rw [hsz] at ln
      obtain ⟨L, eL⟩ : ∃ L, L = l.length := ⟨_, rfl⟩
      rw [← eL] at ln hown
      have EL := hide eL
      have HL : Hid (L ≤ 16) := by show L ≤ 16; have := LEN.out; rw [hvs] at this; simp at this; omega
      clear h e0 e1 e2 hsz hD hsort hins hvs eL
      go_enter Try.func7, Try.ntmps7
      go_wp2_with (first
        | (at_range; refine wpList_range_own _ rfl _ 44 rfl 3 38 intKeyed Try.underlying44 _ mb L _ rfl hown ?_; intro w0 hrg0 hg0 hs0)
        | go_in)
      try go_frame
      have G0 : Hid (Chg (fun k => k = mb) w w0) := (Chg.refl _ _).grown hg0 (fun k e => by cases e)
      have R0 : Hid (w0.ranges Try.prog 3 held mb w.heap.size L D (Maps.has D) (Maps.size D)) := hrg0
      clear hg0 hs0 hrg0 hown
      go_loopw [6] (fun _ wr => ∃ (left : Lit → Bool) (cnt : Nat) (D' : DataW Value), Hid (wr.ranges Try.prog 3 held mb w.heap.size L D' left cnt) ∧ Hid (Has D' (lf l b left)) ∧ Hid (Chg (fun k => k = mb) w wr)) (fun _ wr => wr.rangeLeft mb w.heap.size)
      case atStart => exact ⟨_, _, _, R0, by show Has _ _; rw [lf_start HD.out]; exact HD.out, G0⟩
      case round =>
        obtain ⟨left, cnt, D', RG, HH, CG⟩ := hrel
        have MA := hide H.out.mA
        have EA : Hid (wr.heap[A]? = w.heap[A]?) := CG.out.block _ H.out.ltA (fun e => MA.out e.symm)
        have EC : ∀ o, wr.cell? ⟨A, o, none⟩ = w.cell? ⟨A, o, none⟩ := fun o => World.cell?_of_block (a := ⟨A, o, none⟩) EA.out
        have d2 := (EC 2).trans c2
        have d3 := (EC 3).trans c3
        have FZ : ∀ o, wr.frozen? ⟨A, o, none⟩ = false := fun o => by simp [World.frozen?, EA.out, H.out.row]
        clear R0 G0 EC c2 c3
        go_wp2_with (first
          | (at_next; refine wpList_next_ranges _ rfl _ rfl 3 intKeyed held (Value.int .i64) id (fun key kl hkey => by obtain ⟨x, rfl, _⟩ := Maps.keyOf_int_inv Try.underlying3 hkey; exact ⟨x, rfl⟩) (fun v y hv => ⟨v, rfl⟩) mb w.heap.size L _ _ _ rfl RG.out ?_ ?_)
          | go_in)
        · intro _ hl0
          have MP : Hid (Mp wr mb (lf l b left)) := mp_of RG.out.owns HH.out (lf_sorted SO.out b left)
          have VE : Hid ((lf l b left).map Vv.vt = fromL s.vs b) := by show _ = _; rw [lf_end hl0, VS.out]
          have PI : Hid (∀ p ∈ lf l b left, p.In wr P) := fun p hp => (IN.out p (List.mem_filter.1 hp).1).chg CG.out (fun k hk => .inr (H.out.noB k (.inr hk)))
          have AC := hide (ac_first (s := s) (s' := { s with first := b, vs := fromL s.vs b }) (EA.out.trans H.out.row) b rfl MP.out VE.out.symm PI.out OK2.out)
          have LN : Hid ((lf l b left).length = (fromL s.vs b).length) := by show _ = _; rw [← VE.out]; simp
          obtain ⟨l2, ⟨D2, ho2, hz2, _⟩, hv2, _⟩ := AC.out.ex
          have ln2 := ho2.len Try.underlying44 3
          have L2 : l2.length = (fromL s.vs b).length := by
            have : (fromL s.vs b).length = (l2.map Vv.vt).length := by rw [← hv2]
            simpa using this.symm
          rw [hz2, L2] at ln2
          have LL : Hid ((fromL s.vs b).length ≤ s.vs.length) := List.length_filter_le _ _
          have E0 : Hid (L = s.vs.length) := by show L = _; rw [EL.out, VS.out]; simp
          have L16 := HL.out
          obtain ⟨K, eK⟩ : ∃ K, K = (fromL s.vs b).length := ⟨_, rfl⟩
          rw [← eK] at ln2 LL LN
          have EK := hide eK
          clear eK
          clear hl0 ho2 hz2 hv2 L2
          go_wp2_with fail
          go_ret
          refine ⟨?_, (CG.out.mono (fun k _ hk => .inr hk)).setCell (p := ⟨A, 2, none⟩) (.inl (.inl rfl)) _, AC.out⟩
          have := LL.out
          have := E0.out
          refine ret1 ?_
          rw [← E0.out, ← EK.out]
          unfold wrap64
          omega
        · intro x c kl y1 y2 w1 cnt1 hkx hlx hv hat hrg1 hlt hg1 hs1 hen
          obtain ⟨x', ex, rfl, hwx⟩ := Maps.keyOf_int_inv Try.underlying3 hkx
          cases ex
          have NA : Hid (A ≠ w.heap.size) := fun e => by have := H.out.ltA; omega
          have C1 : Hid (Chg (fun k => k = mb) w w1) := CG.out.grown hg1 (fun k e => .inr (by cases e; exact Nat.le_refl _))
          have RG1 : Hid (w1.ranges Try.prog 3 held mb w.heap.size L D' (fun z => left z && !z.sameKey (ikey x)) cnt1) := hrg1
          have q3 : w1.cell? ⟨A, 3, none⟩ = some (.map (some mb)) := (World.cell?_of_block (a := ⟨A, 3, none⟩) (hg1.block A (by have := H.out.ltA; have := CG.out.size; omega) (fun e => NA.out (Option.some.inj e)))).trans d3
          have LT : Hid (cnt1 < cnt) := hlt
          have KX : Hid (keyOf Try.prog 3 (.int .i64 x) = some (ikey x)) := hkx
          clear hrg1 hg1 hs1 hlt hat hv hlx hkx hwx d2 d3 FZ
          by_cases hxb : x < b
          · have HD2 := hide (lf_del HH.out hxb)
            go_wp2_with (first
              | (at_delete; refine wpList_delete_ranges _ rfl _ _ 44 3 rfl 38 intKeyed Try.underlying44 _ mb w.heap.size L _ _ _ rfl RG1.out _ _ rfl KX.out ?_; intro w2 cnt2 hrg2 hle hturn)
              | go_in)
            try go_frame
            rw [Maps.strike_twice] at hrg2
            have C2 : Hid (Chg (fun k => k = mb) w w2) := C1.out.grown hturn.grown (fun k e => .inl (Option.some.inj e).symm)
            go_roundw
            case rel => exact ⟨_, cnt2, _, hrg2, HD2, C2⟩
            case measure => rw [hrg2.left_eq, RG.out.left_eq]; have := LT.out; omega
          · have hxb' : b ≤ x := by omega
            have HD2 : Hid (Has D' (lf l b (fun z => left z && !z.sameKey (ikey x)))) := by show Has _ _; rw [lf_stay left hxb']; exact HH.out
            go_wp2_with fail
            go_roundw
            case rel => exact ⟨_, cnt1, _, RG1, HD2, C1⟩
            case measure => rw [RG1.out.left_eq, RG.out.left_eq]; exact LT.out
end Go.Proofs.Ytdnniokpkamjjab
