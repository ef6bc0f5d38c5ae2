/- What the law folder's step does with two readers that are asked for a count or a text. No condition but that most is an int. -/
import Derived.Test.YtadjdiocipahhabCodecStep
namespace Go.Proofs.Ytadjdiocipahhab
open Go.ChangeShapes Go.WideShapes Go.ChangeAt Go.RowKit B8 Cm
set_option linter.unusedVariables false

theorem step_count {w0 w : World} {R : Nat} {a : Option Addr} {n cp : Nat} {bs : List Int} {s : St} {R' : Nat} {a' : Option Addr} {n' cp' : Nat} {bs' : List Int} {s' : St} (most : Int) (h9 : most < 9223372036854775808) (h : Two w0 w R a n cp bs s R' a' n' cp' bs' s') :
    Calls Try.prog 9 #[.pointer (some ⟨R, 0, none⟩), .pointer (some ⟨R', 0, none⟩), .agg #[.int .i64 5, .int .i64 most]] w (Stepped w0 R a n cp bs s R' a' n' cp' bs' s' 5 most) := by
  have HV : Hid (∀ (c : List Int) (t : St), ansV c 5 most t = [((countA c most t).v : Int)] ∧ ansS c 5 most t = (countA c most t).s) := fun c t => ⟨rfl, rfl⟩
  have lR := World.block_lt_of_cell? w _ h.one.c0
  have lR' := World.block_lt_of_cell? w _ h.two.c0
  have H := hide ((h.alloc (.cells #[.int .i64 5, .int .i64 most] 37)).drewN 1)
  have d1 : (w.alloc (.cells #[.int .i64 5, .int .i64 most] 37)).cell? ⟨w.heap.size, 1, none⟩ = some (.int .i64 most) := by simp
  have KD := hide d1
  have NR : Hid (some w.heap.size ≠ some R) := fun e => by cases e; exact absurd lR (Nat.lt_irrefl _)
  have NR' : Hid (some w.heap.size ≠ some R') := fun e => by cases e; exact absurd lR' (Nat.lt_irrefl _)
  clear h d1
  have C1 := hide (ccount_any most h9 H.out.one)
  obtain ⟨A1, E1⟩ : ∃ A1, A1 = countA bs most s := ⟨_, rfl⟩
  obtain ⟨A2, E2⟩ : ∃ A2, A2 = countA bs' most s' := ⟨_, rfl⟩
  have CC : Hid (∀ {W : World} {sa : St}, Rd W R' a' n' cp' bs' s'.pl s'.err → Calls Try.prog 24 #[.pointer (some ⟨R', 0, none⟩), .int .i64 most] W fun e w' => e = .returned (.int .i64 (A2.v : Nat)) ∧ Rd w' R' a' n' cp' bs' A2.s.pl A2.s.err ∧ W.grownBy w' (some R')) := by
    intro W sa hW
    rw [E2]
    exact count_any most h9 hW
  rw [← E1] at C1
  have HE1 := hide E1
  have HE2 := hide E2
  clear E1 E2
  go_enter Try.func9, Try.ntmps9
  go_wp2_with fail
  go_region_held3 (fun w' => w'.cell? ⟨w.heap.size, 1, none⟩ = some (.int .i64 most)) (first | go_keep | exact g1.cell KD.out NR.out | exact g2.cell K1.out NR'.out) ((first
    | (go_at_call 23; refine C1.out.mono ?_; rintro e w1 ⟨rfl, r1, g1⟩; have H1 := hide (H.out.first r1 g1); have K1 := hide (g1.cell KD.out NR.out))
    | (go_at_call 24; refine (CC.out (sa := s) H1.out.two).mono ?_; rintro e w2 ⟨rfl, r2, g2⟩; have H2 := hide (H1.out.second r2 g2))))
  go_wp2_with fail
  go_ret
  refine ⟨_, rfl, ?_, ?_⟩
  · intro hv
    rw [(HV.out bs s).1, (HV.out bs' s').1, ← HE1.out, ← HE2.out] at hv
    simpa using hv
  · rw [(HV.out bs s).2, (HV.out bs' s').2, ← HE1.out, ← HE2.out]
    exact H2.out

theorem text_len (bs : List Int) (most : Int) (s : St) : (textA bs most s).v.length ≤ bs.length := by
  by_cases h : (countA bs most s).s.err = 0
  · by_cases h2 : bs.length - (countA bs most s).s.pl < (countA bs most s).v
    · rw [textA_short _ _ _ h h2]; exact Nat.zero_le _
    · rw [textA_good _ _ _ h h2]
      show (List.take _ (List.drop _ bs)).length ≤ _
      simp; omega
  · rw [textA_fault _ _ _ h]; exact Nat.zero_le _

theorem wfs_text {bs : List Int} (h : wfs bs) (most : Int) (s : St) : wfs (textA bs most s).v := by
  by_cases h1 : (countA bs most s).s.err = 0
  · by_cases h2 : bs.length - (countA bs most s).s.pl < (countA bs most s).v
    · rw [textA_short _ _ _ h1 h2]; exact wfs_nil
    · rw [textA_good _ _ _ h1 h2]; exact wfs_take (wfs_drop h _) _
  · rw [textA_fault _ _ _ h1]; exact wfs_nil

theorem Mine.grown {w w' : World} {B : Nat} {a : Option Addr} {n cp : Nat} {bs : List Int} {row : Option Nat} (h : Mine w B a n cp bs) (hg : w.grownBy w' row) (hne : ∀ g, B ≤ g → some g ≠ row) : Mine w' B a n cp bs := by
  refine ⟨Sq.grown h.1 hg (fun b off e => ?_), fun ad e => ?_⟩
  · obtain ⟨g, cur, e1, e2, _⟩ := h.2 _ e
    obtain ⟨rfl, _⟩ : b = g ∧ off = 0 := by simpa using e1
    exact hne b e2
  · obtain ⟨g, cur, e1, e2, e3, e4⟩ := h.2 ad e
    refine ⟨g, cur, e1, e2, ?_, e4⟩
    rw [hg.block g (by rcases Nat.lt_or_ge g w.heap.size with h | h; exact h; rw [Array.getElem?_eq_none h] at e3; cases e3) (hne g e2)]
    exact e3
/-- cells that may be written -/
def Open (w : World) (g L : Nat) : Prop := ∀ j, j < L → (∃ z, w.cell? ⟨g, j, none⟩ = some z) ∧ w.frozen? ⟨g, j, none⟩ = false
theorem Open.set {w : World} {g L : Nat} (h : Open w g L) (k : Nat) (v : Value) (hk : k < L) : Open (w.setCell ⟨g, k, none⟩ v) g L := by
  intro j hj
  refine ⟨?_, by simpa using (h j hj).2⟩
  by_cases e : j = k
  · subst e
    obtain ⟨z, hz⟩ := (h j hj).1
    exact ⟨v, World.cell?_setCell_same _ _ _ hz⟩
  · obtain ⟨z, hz⟩ := (h j hj).1
    exact ⟨z, by rw [World.cell?_setCell_other _ _ _ _ (by simp)]; exact hz⟩
theorem Mine.opened {w : World} {B L cp : Nat} {ad : Addr} {bs : List Int} (h : Mine w B (some ad) L cp bs) : ∃ g, ad = ⟨g, 0, none⟩ ∧ B ≤ g ∧ Open w g L := by
  obtain ⟨g, cur, e1, e2, e3, e4⟩ := h.2 ad rfl
  refine ⟨g, e1, e2, fun j hj => ⟨?_, ?_⟩⟩
  · obtain ⟨b, off, e, hc⟩ := h.1.cells (by omega)
    rw [e1] at e
    obtain ⟨rfl, rfl⟩ : g = b ∧ 0 = off := by simpa using e
    have := hc j hj
    rw [Nat.zero_add] at this
    exact ⟨_, this⟩
  · simp [World.frozen?, e3]

set_option maxHeartbeats 1000000 in
theorem step_text {w0 w : World} {R : Nat} {a : Option Addr} {n cp : Nat} {bs : List Int} {s : St} {R' : Nat} {a' : Option Addr} {n' cp' : Nat} {bs' : List Int} {s' : St} (most : Int) (h9 : most < 9223372036854775808) (home : ∃ b off, a' = some ⟨b, off, none⟩) (h : Two w0 w R a n cp bs s R' a' n' cp' bs' s') :
    Calls Try.prog 9 #[.pointer (some ⟨R, 0, none⟩), .pointer (some ⟨R', 0, none⟩), .agg #[.int .i64 4, .int .i64 most]] w (Stepped w0 R a n cp bs s R' a' n' cp' bs' s' 4 most) := by
  have HV : Hid (∀ (c : List Int) (t : St), ansV c 4 most t = (textA c most t).v ∧ ansS c 4 most t = (textA c most t).s) := fun c t => ⟨rfl, rfl⟩
  have lR := World.block_lt_of_cell? w _ h.one.c0
  have lR' := World.block_lt_of_cell? w _ h.two.c0
  have hsz : w.heap.size < (w.alloc (.cells #[.int .i64 4, .int .i64 most] 37)).heap.size := by simp
  have hB0 : w0.heap.size ≤ w.heap.size := h.bel.size
  have A1 := hide h.a1
  have A2 := hide h.a2
  have TL := text_len bs most s
  have hroom := h.one.room
  have hln := h.one.sq.length
  have h2w := h.two.sq.wf
  have H := hide (h.alloc (.cells #[.int .i64 4, .int .i64 most] 37))
  have d1 : (w.alloc (.cells #[.int .i64 4, .int .i64 most] 37)).cell? ⟨w.heap.size, 1, none⟩ = some (.int .i64 most) := by simp
  have KD := hide d1
  have NR : Hid (some w.heap.size ≠ some R) := fun e => by cases e; exact absurd lR (Nat.lt_irrefl _)
  clear h d1
  have C1 := hide (ctext_any most h9 H.out.one)
  obtain ⟨X1, E1⟩ : ∃ X1, X1 = textA bs most s := ⟨_, rfl⟩
  obtain ⟨X2, E2⟩ : ∃ X2, X2 = textA bs' most s' := ⟨_, rfl⟩
  rw [← E1] at C1 TL
  have CC : Hid (∀ {W : World}, Rd W R' a' n' cp' bs' s'.pl s'.err → Calls Try.prog 22 #[.pointer (some ⟨R', 0, none⟩), .int .i64 most] W fun e w' => ∃ v, e = .returned v ∧ w'.ownsRow W.heap.size 5 1 v X2.v.length (vals X2.v) ∧ Rd w' R' a' n' cp' bs' X2.s.pl X2.s.err ∧ W.grownBy w' (some R')) := by
    intro W hW
    rw [E2]
    exact text_any most h9 home hW
  have WX : Hid (wfs X2.v) := by
    rw [E2]
    exact wfs_text h2w most s'
  have HE1 := hide E1
  have HE2 := hide E2
  clear E1 E2
  obtain ⟨T1, s1⟩ := X1
  obtain ⟨T2, s2⟩ := X2
  have TL' : T1.length ≤ 140737488355328 := by have : T1.length ≤ bs.length := TL; omega
  clear TL
  go_enter Try.func9, Try.ntmps9
  go_wp2_with fail
  refine C1.out.mono ?_
  rintro e w1 ⟨V1, rfl, ⟨x1, c1, rfl, m1⟩, r1, g1⟩
  have H1 := hide (H.out.first (t := s1) r1 g1)
  have K1 := g1.cell KD.out NR.out
  have M1 := hide m1
  have hs1 := g1.size
  clear r1 g1 m1 C1
  go_wp2_with fail
  refine (CC.out H1.out.two).mono ?_
  rintro e w2 ⟨V2, rfl, o2, r2, g2⟩
  have H2 := hide (H1.out.second (t := s2) r2 g2)
  have M2 := hide (M1.out.grown g2 (fun g hg e => by cases e; omega))
  obtain ⟨x2, c2, rfl, q2⟩ := sq_of_row rfl WX.out o2
  have Q2 := hide q2
  clear r2 g2 o2 q2 CC H1 M1
  go_wp2_with fail
  refine (bytes_gen M2.out.sq Q2.out TL').mono ?_
  rintro e w3 ⟨r, rfl, hr, m3, e3⟩
  have H3 := hide (H2.out.drewN m3)
  have M3 := hide (M2.out.grown (grown_drewN w2 m3 none) (fun g _ e => by cases e))
  rw [← e3] at H3 M3
  have HR := hide hr
  clear hr e3 H2 M2 Q2
  by_cases h0 : 0 < T1.length
  · obtain ⟨b, off, e1, _⟩ := M3.out.sq.cells h0
    subst e1
    obtain ⟨g, eg, hg, hop⟩ := M3.out.opened
    obtain ⟨rfl, rfl⟩ : b = g ∧ off = 0 := by simpa using eg
    have OP := hide hop
    have HG : Hid (∀ g', some b = some g' → w0.heap.size ≤ g' ∧ g' ≠ R ∧ g' ≠ R' ∧ (∀ x o, a = some ⟨x, o, none⟩ → x ≠ g') ∧ (∀ x o, a' = some ⟨x, o, none⟩ → x ≠ g')) := by
      intro g' e
      cases e
      exact ⟨by omega, by omega, by omega, fun x o e => by have := (A1.out x o e).2; omega, fun x o e => by have := (A2.out x o e).2; omega⟩
    obtain ⟨L, eL⟩ : ∃ L, L = T1.length := ⟨_, rfl⟩
    rw [← eL] at OP TL' ⊢
    clear hop eg hg M3 K1 eL h0
    go_wp2_with fail
    go_loopw [9] (fun i wr => ∃ k : Nat, k ≤ L ∧ i = .int .i64 k ∧ Hid (Two w0 wr R a n cp bs s1 R' a' n' cp' bs' s2) ∧ Hid (Open wr b L)) (fun i _ => L - (intOf i).toNat)
    case atStart => exact ⟨0, Nat.zero_le _, rfl, H3, OP⟩
    case round =>
      obtain ⟨k, hk, rfl, HT, HO⟩ := hrel
      by_cases hlt : k < L
      · obtain ⟨⟨z, hz⟩, hf⟩ := HO.out k hlt
        have hi : (k : Int) < (L : Int) := by omega
        have i0 : (0 : Int) ≤ (k : Int) := by omega
        go_wp2_with fail
        go_roundw
        case rel =>
          refine ⟨k + 1, by omega, by go_num, ?_, HO.out.set k _ hlt⟩
          exact HT.out.other (grown_setCell _ b k _) (fun g' e => HG.out g' e)
        case measure => simp [intOf]; omega
      · go_wp2_with fail
        go_ret
        refine ⟨r, rfl, ?_, ?_⟩
        · intro hv
          rw [(HV.out bs s).1, (HV.out bs' s').1, ← HE1.out, ← HE2.out] at hv
          exact HR.out hv
        · rw [(HV.out bs s).2, (HV.out bs' s').2, ← HE1.out, ← HE2.out]
          exact HT.out
  · have hz0 : T1.length = 0 := by omega
    rw [hz0]
    clear K1
    go_wp2_with fail
    refine wp_loop_rounds 1 ?_
    rw [rounds_succ]
    go_wp2_with fail
    go_ret
    refine ⟨r, rfl, ?_, ?_⟩
    · intro hv
      rw [(HV.out bs s).1, (HV.out bs' s').1, ← HE1.out, ← HE2.out] at hv
      exact HR.out hv
    · rw [(HV.out bs s).2, (HV.out bs' s').2, ← HE1.out, ← HE2.out]
      exact H3.out

theorem step_any {w0 w : World} {R : Nat} {a : Option Addr} {n cp : Nat} {bs : List Int} {s : St} {R' : Nat} {a' : Option Addr} {n' cp' : Nat} {bs' : List Int} {s' : St} (k most : Int) (h9 : most < 9223372036854775808) (home : ∃ b off, a' = some ⟨b, off, none⟩) (h : Two w0 w R a n cp bs s R' a' n' cp' bs' s') :
    Calls Try.prog 9 #[.pointer (some ⟨R, 0, none⟩), .pointer (some ⟨R', 0, none⟩), .agg #[.int .i64 k, .int .i64 most]] w (Stepped w0 R a n cp bs s R' a' n' cp' bs' s' k most) := by
  by_cases h1 : k = 1
  · subst h1; exact step_int most h
  by_cases h2 : k = 2
  · subst h2; exact step_byte most h
  by_cases h3 : k = 3
  · subst h3; exact step_flag most h
  by_cases h4 : k = 4
  · subst h4; exact step_text most h9 home h
  by_cases h5 : k = 5
  · subst h5; exact step_count most h9 h
  exact step_num k most ⟨h1, h2, h3, h4, h5⟩ h
end Go.Proofs.Ytadjdiocipahhab
