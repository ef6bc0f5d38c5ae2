/- What is read without a fault, written again, is these bytes. As plain functions: no Go in sight. -/
import Derived.Test.YtiafohpigkkgbaaFWireBackMath
import Derived.Test.YtiafohpigkkgbaaFWireStateVal
import Derived.Test.YtiafohpigkkgbaaFWireChartVal
import Derived.Test.YtiafohpigkkgbaaJA
namespace Go.Proofs.Ytiafohpigkkgbaa
open Go.ChangeShapes Go.WideShapes Go.ChangeAt Go.RowKit B8 Cm Wm
set_option linter.unusedVariables false

theorem take_more (bs : List Int) (p n : Nat) : bs.take (p + n) = bs.take p ++ (bs.drop p).take n := List.take_add
/-- bytes are bytes -/
def Byt (bs : List Int) : Prop := ∀ x ∈ bs, 0 ≤ x ∧ x ≤ 255
theorem num_back {bs : List Int} (hb : Byt bs) {s : St} (h : (numA bs s).s.err = 0) : bs.take (numA bs s).s.pl = bs.take s.pl ++ numB (numA bs s).v := by
  by_cases h0 : s.err = 0
  · by_cases he : (numG (bs.drop s.pl) 0 0).e = 0
    · rw [numA_good _ _ h0 he]
      show bs.take (s.pl + _) = _
      rw [take_more, numB_numG (bs.drop s.pl) (fun x hx => hb x (List.mem_of_mem_drop hx)) he]
    · rw [numA_bad _ _ h0 he] at h; exact absurd h he
  · rw [numA_fault _ _ h0] at h; exact absurd h h0
theorem count_back {bs : List Int} (hb : Byt bs) (most : Nat) {s : St} (h : (countA bs most s).s.err = 0) : bs.take (countA bs most s).s.pl = bs.take s.pl ++ numB (countA bs most s).v ∧ (countA bs most s).v ≤ most := by
  by_cases h1 : max 0 (most : Int) < ((numA bs s).v : Int)
  · rw [countA_long _ _ _ h1] at h; exact absurd (show (22 : Int) = 0 from h) (by decide)
  · rw [countA_good _ _ _ h1] at h ⊢
    exact ⟨num_back hb h, by omega⟩
theorem text_back {bs : List Int} (hb : Byt bs) {s : St} (h : (textA bs 65535 s).s.err = 0) : bs.take (textA bs 65535 s).s.pl = bs.take s.pl ++ (numB (textA bs 65535 s).v.length ++ (textA bs 65535 s).v) ∧ (textA bs 65535 s).v.length ≤ 65535 := by
  by_cases h1 : (countA bs 65535 s).s.err = 0
  · by_cases h2 : bs.length - (countA bs 65535 s).s.pl < (countA bs 65535 s).v
    · rw [textA_short _ _ _ h1 h2] at h; exact absurd (show (20 : Int) = 0 from h) (by decide)
    · obtain ⟨c1, c2⟩ := count_back hb 65535 h1
      rw [textA_good _ _ _ h1 h2]
      have hl : ((bs.drop (countA bs 65535 s).s.pl).take (countA bs 65535 s).v).length = (countA bs 65535 s).v := by
        rw [List.length_take, List.length_drop]
        omega
      show bs.take ((countA bs 65535 s).s.pl + (countA bs 65535 s).v) = bs.take s.pl ++ (numB ((bs.drop (countA bs 65535 s).s.pl).take (countA bs 65535 s).v).length ++ (bs.drop (countA bs 65535 s).s.pl).take (countA bs 65535 s).v) ∧ ((bs.drop (countA bs 65535 s).s.pl).take (countA bs 65535 s).v).length ≤ 65535
      rw [hl, take_more]
      refine ⟨?_, c2⟩
      have c1' : bs.take (countA bs 65535 s).s.pl = bs.take s.pl ++ numB (countA bs 65535 s).v := c1
      rw [c1', List.append_assoc]
  · rw [textA_fault _ _ _ h1] at h; exact absurd h h1
theorem flag_back {bs : List Int} (hb : Byt bs) {s : St} (hp : s.pl ≤ bs.length) (h : (flagA bs s).s.err = 0) : bs.take (flagA bs s).s.pl = bs.take s.pl ++ [if (flagA bs s).v then 1 else 0] := by
  by_cases h1 : 1 < (byteA bs s).v
  · rw [flagA_bad _ _ h1] at h; exact absurd (show (21 : Int) = 0 from h) (by decide)
  · rw [flagA_good _ _ h1] at h ⊢
    by_cases h0 : s.err = 0
    · by_cases h2 : s.pl < bs.length
      · rw [byteA_good _ _ h0 h2] at h1 ⊢
        have hg : bs[s.pl]?.getD 0 = bs[s.pl] := by rw [List.getElem?_eq_getElem h2]; rfl
        rw [hg] at h1 ⊢
        have hr := hb bs[s.pl] (List.getElem_mem h2)
        show bs.take (s.pl + 1) = _
        rw [take_more, List.drop_eq_getElem_cons h2]
        show bs.take s.pl ++ [bs[s.pl]] = _
        congr 1
        have h1' : ¬ 1 < bs[s.pl] := h1
        by_cases e : bs[s.pl] = 1
        · simp [e]
        · have : bs[s.pl] = 0 := by omega
          simp [this]
      · rw [byteA_short _ _ h0 h2] at h; exact absurd (show (20 : Int) = 0 from h) (by decide)
    · rw [byteA_fault _ _ h0] at h; exact absurd h h0
theorem atom_back {bs : List Int} (hb : Byt bs) {k : Nat} (hk : k ≤ 4) {s : St} (hp : s.pl ≤ bs.length) (h : (atomA bs k s).s.err = 0) : bs.take (atomA bs k s).s.pl = bs.take s.pl ++ atomB (atomA bs k s).v ∧ atomFit (atomA bs k s).v = true := by
  have hk' : k = 0 ∨ k = 1 ∨ k = 2 ∨ k = 3 ∨ k = 4 := by omega
  rcases hk' with rfl | rfl | rfl | rfl | rfl
  · have h' : (numA bs s).s.err = 0 := h
    refine ⟨?_, rfl⟩
    show bs.take (numA bs s).s.pl = bs.take s.pl ++ numB (zig (zag (numA bs s).v))
    rw [zig_zag]
    exact num_back hb h'
  · by_cases h1 : 4294967295 < (numA bs s).v
    · have e : atomA bs 1 s = ⟨⟨1, 0, []⟩, ⟨s.pl, 21⟩⟩ := if_pos h1
      rw [e] at h; exact absurd (show (21 : Int) = 0 from h) (by decide)
    · have e : atomA bs 1 s = ⟨⟨1, ((numA bs s).v : Int), []⟩, (numA bs s).s⟩ := if_neg h1
      rw [e] at h ⊢
      refine ⟨?_, rfl⟩
      show bs.take (numA bs s).s.pl = bs.take s.pl ++ numB (((numA bs s).v : Int)).toNat
      rw [Int.toNat_natCast]
      exact num_back hb h
  · have h' : (flagA bs s).s.err = 0 := h
    exact ⟨flag_back hb hp h', rfl⟩
  · have h' : (textA bs 65535 s).s.err = 0 := h
    obtain ⟨t1, t2⟩ := text_back hb h'
    refine ⟨t1, ?_⟩
    show (decide ((3 : Nat) ≤ 2) || decide ((textA bs 65535 s).v.length ≤ 65535)) = true
    simp [t2]
  · have h' : (textA bs 65535 s).s.err = 0 := h
    obtain ⟨t1, t2⟩ := text_back hb h'
    refine ⟨t1, ?_⟩
    show (decide ((4 : Nat) ≤ 2) || decide ((textA bs 65535 s).v.length ≤ 65535)) = true
    simp [t2]
/-- what a part that was read says of the bytes -/
def Bk (bs : List Int) (s s' : St) (fs : List Fld) : Prop := s'.pl ≤ bs.length ∧ bs.take s'.pl = bs.take s.pl ++ bytesOf fs ∧ fs.all Fld.fit = true
theorem Bk.trans {bs : List Int} {s s' s'' : St} {fs gs : List Fld} (h : Bk bs s s' fs) (g : Bk bs s' s'' gs) : Bk bs s s'' (fs ++ gs) :=
  ⟨g.1, by rw [g.2.1, h.2.1, bytesOf_append, List.append_assoc], by rw [List.all_append, h.2.2, g.2.2]; rfl⟩
theorem flat_bk {bs : List Int} (hb : Byt bs) : ∀ (ks : List Nat) (s : St), (∀ k ∈ ks, k ≤ 4) → s.pl ≤ bs.length → (flatA bs ks s).s.err = 0 → Bk bs s (flatA bs ks s).s (flds (flatA bs ks s).v)
  | [], s, _, hp, _ => ⟨hp, by simp [flatA, flds, bytesOf], rfl⟩
  | k :: ks, s, hk, hp, h => by
    have h' : (flatA bs ks (atomA bs k s).s).s.err = 0 := h
    have h1 : (atomA bs k s).s.err = 0 := err_back (flatA bs ks) (fun s hs => flatA_stuck bs ks s hs) (atomA bs k s).s h'
    obtain ⟨a1, a2⟩ := atom_back hb (hk k (by simp)) hp h1
    have hp1 := atomA_place bs k s hp
    have ih := flat_bk hb ks (atomA bs k s).s (fun q hq => hk q (by simp [hq])) hp1 h'
    have g : Bk bs s (atomA bs k s).s [fldA (atomA bs k s).v] := ⟨hp1, by rw [bytesOf_one]; exact a1, by simp [fldA, a2]⟩
    exact g.trans ih
theorem times_bk {α : Type} {bs : List Int} {item : St → Ans α} {f : α → List Fld} (hst : ∀ s, ¬ s.err = 0 → (item s).s = s) (hi : ∀ s, s.pl ≤ bs.length → (item s).s.err = 0 → Bk bs s (item s).s (f (item s).v)) : ∀ (n : Nat) (s : St), s.pl ≤ bs.length → (timesA item n s).s.err = 0 → Bk bs s (timesA item n s).s (((timesA item n s).v.map f).flatten)
  | 0, s, hp, _ => ⟨hp, by simp [timesA, bytesOf], rfl⟩
  | n + 1, s, hp, h => by
    have h' : (timesA item n (item s).s).s.err = 0 := h
    have h1 : (item s).s.err = 0 := err_back (timesA item n) (fun s hs => timesA_stuck item hst n s hs) (item s).s h'
    have g := hi s hp h1
    exact g.trans (times_bk hst hi n (item s).s g.1 h')
theorem list_bk {α : Type} {bs : List Int} (hb : Byt bs) {item : St → Ans α} {f : α → List Fld} (hst : ∀ s, ¬ s.err = 0 → (item s).s = s) (hi : ∀ s, s.pl ≤ bs.length → (item s).s.err = 0 → Bk bs s (item s).s (f (item s).v)) (s : St) (hp : s.pl ≤ bs.length) (h : (listA bs item s).s.err = 0) : Bk bs s (listA bs item s).s (listF f (listA bs item s).v) := by
  have h' : (timesA item (countA bs 1024 s).v (countA bs 1024 s).s).s.err = 0 := h
  have h1 : (countA bs 1024 s).s.err = 0 := err_back (timesA item (countA bs 1024 s).v) (fun s hs => timesA_stuck item hst _ s hs) (countA bs 1024 s).s h'
  obtain ⟨c1, c2⟩ := count_back hb 1024 h1
  have hp1 := countA_place bs 1024 s hp
  have g : Bk bs s (countA bs 1024 s).s [fldN (countA bs 1024 s).v] := ⟨hp1, by rw [bytesOf_one]; exact c1, by simp [fldN]; exact c2⟩
  have t := times_bk hst hi (countA bs 1024 s).v (countA bs 1024 s).s hp1 h'
  have := g.trans t
  unfold listF
  rw [show (listA bs item s).v.length = (countA bs 1024 s).v from timesA_length _ _ _]
  exact this
theorem rows_bk {bs : List Int} (hb : Byt bs) (ks : List Nat) (hk : ∀ k ∈ ks, k ≤ 4) (s : St) (hp : s.pl ≤ bs.length) (h : (listA bs (flatA bs ks) s).s.err = 0) : Bk bs s (listA bs (flatA bs ks) s).s (listF flds (listA bs (flatA bs ks) s).v) :=
  list_bk hb (fun s hs => flatA_stuck bs ks s hs) (fun s hp h => flat_bk hb ks s hk hp h) s hp h
/-- the whole of it -/
theorem end_bk {bs : List Int} {s' : St} {fs : List Fld} (h : Bk bs ⟨0, 0⟩ s' fs) (he : endA bs s' = 0) (hl : ¬ 65536 < bs.length) : bytesOf fs = bs ∧ okAll fs = true := by
  unfold endA at he
  have h1 : s'.err = 0 := by
    cases Decidable.em (s'.err = 0) with
    | inl h1 => exact h1
    | inr h1 => rw [if_neg h1] at he; exact he
  rw [if_pos h1] at he
  have h2 : ¬ s'.pl < bs.length := fun h2 => by rw [if_pos h2] at he; exact absurd he (by decide)
  have h3 : s'.pl = bs.length := Nat.le_antisymm h.1 (Nat.le_of_not_lt h2)
  have e : bytesOf fs = bs := by
    have := h.2.1
    rw [h3, List.take_length] at this
    simpa using this.symm
  refine ⟨e, ?_⟩
  unfold okAll
  rw [e, h.2.2]
  simp
  omega
theorem short_of {bs : List Int} {P : Prop} [Decidable P] {x : Int} (hP : P) (hx : ¬ x = 0) {y : Int} (h : (if P then x else y) = 0) : False := by rw [if_pos hP] at h; exact hx h
theorem one_flat {bs : List Int} (hb : Byt bs) (ks : List Nat) (hk : ∀ k ∈ ks, k ≤ 4) (h : tErr ks bs = 0) : wBytes (flds (tVal ks bs)) = bs ∧ wErr (flds (tVal ks bs)) = 0 := by
  have hl : ¬ 65536 < bs.length := fun hl => by rw [tErr_long hl] at h; exact absurd h (by decide)
  have h' := h
  rw [tErr_short hl] at h'
  have he : (flatA bs ks ⟨0, 0⟩).s.err = 0 := endA_zero h'
  obtain ⟨e1, e2⟩ := end_bk (flat_bk hb ks ⟨0, 0⟩ hk (Nat.zero_le _) he) h' hl
  rw [tVal_good h]
  exact ⟨by rw [wBytes_ok e2, e1], wErr_ok e2⟩
theorem one_chart {bs : List Int} (hb : Byt bs) (h : cErr bs = 0) : wBytes (cVal bs).flds = bs ∧ wErr (cVal bs).flds = 0 := by
  have hl : ¬ 65536 < bs.length := fun hl => by rw [cErr_long hl] at h; exact absurd h (by decide)
  have h' := h
  rw [cErr_short hl] at h'
  have he : (chtA bs ⟨0, 0⟩).s.err = 0 := endA_zero h'
  rw [cVal_good h]
  obtain ⟨r0, e0⟩ : ∃ r, r = flatA bs [0] ⟨0, 0⟩ := ⟨_, rfl⟩
  obtain ⟨rp, ep⟩ : ∃ r, r = listA bs (flatA bs [0, 3, 0]) r0.s := ⟨_, rfl⟩
  obtain ⟨r1, e1⟩ : ∃ r, r = flatA bs [0, 0, 0, 0, 0, 3, 3, 0, 0] rp.s := ⟨_, rfl⟩
  obtain ⟨rm, em⟩ : ∃ r, r = listA bs (flatA bs [0, 0, 2, 0, 0, 0, 0]) r1.s := ⟨_, rfl⟩
  have ec : chtA bs ⟨0, 0⟩ = ⟨⟨r0.v, rp.v, r1.v, rm.v⟩, rm.s⟩ := by unfold chtA; rw [← e0, ← ep, ← e1, ← em]
  rw [ec] at he h' ⊢
  have hm : rm.s.err = 0 := he
  have h1 : r1.s.err = 0 := err_back (listA bs (flatA bs [0, 0, 2, 0, 0, 0, 0])) (fun s hs => listA_stuck bs _ s hs) _ (by rw [← em]; exact hm)
  have hp : rp.s.err = 0 := err_back (flatA bs [0, 0, 0, 0, 0, 3, 3, 0, 0]) (fun s hs => flatA_stuck bs _ s hs) _ (by rw [← e1]; exact h1)
  have h0 : r0.s.err = 0 := err_back (listA bs (flatA bs [0, 3, 0])) (fun s hs => listA_stuck bs _ s hs) _ (by rw [← ep]; exact hp)
  have g0 : Bk bs ⟨0, 0⟩ r0.s (flds r0.v) := by rw [e0] at h0 ⊢; exact flat_bk hb _ _ (by decide) (Nat.zero_le _) h0
  have gp : Bk bs r0.s rp.s (listF flds rp.v) := by rw [ep] at hp ⊢; exact rows_bk hb _ (by decide) _ g0.1 hp
  have g1 : Bk bs rp.s r1.s (flds r1.v) := by rw [e1] at h1 ⊢; exact flat_bk hb _ _ (by decide) gp.1 h1
  have gm : Bk bs r1.s rm.s (listF flds rm.v) := by rw [em] at hm ⊢; exact rows_bk hb _ (by decide) _ g1.1 hm
  obtain ⟨a1, a2⟩ := end_bk (((g0.trans gp).trans g1).trans gm) h' hl
  exact ⟨by show wBytes (Cht.flds ⟨r0.v, rp.v, r1.v, rm.v⟩) = bs; unfold Cht.flds; rw [wBytes_ok a2, a1], by show wErr (Cht.flds ⟨r0.v, rp.v, r1.v, rm.v⟩) = 0; unfold Cht.flds; exact wErr_ok a2⟩
theorem acc_bk {bs : List Int} (hb : Byt bs) (s : St) (hp : s.pl ≤ bs.length) (h : (accA bs s).s.err = 0) : Bk bs s (accA bs s).s (accA bs s).v.flds := by
  obtain ⟨r0, e0⟩ : ∃ r, r = flatA bs [3, 0, 0, 0, 0] s := ⟨_, rfl⟩
  obtain ⟨rv, ev⟩ : ∃ r, r = listA bs (flatA bs [0, 0, 0, 0]) r0.s := ⟨_, rfl⟩
  obtain ⟨r1, e1⟩ : ∃ r, r = flatA bs [0, 0, 0, 0] rv.s := ⟨_, rfl⟩
  have ec : accA bs s = ⟨⟨r0.v, rv.v, r1.v⟩, r1.s⟩ := by unfold accA; rw [← e0, ← ev, ← e1]
  rw [ec] at h ⊢
  have h1 : r1.s.err = 0 := h
  have hv : rv.s.err = 0 := err_back (flatA bs [0, 0, 0, 0]) (fun s hs => flatA_stuck bs _ s hs) _ (by rw [← e1]; exact h1)
  have h0 : r0.s.err = 0 := err_back (listA bs (flatA bs [0, 0, 0, 0])) (fun s hs => listA_stuck bs _ s hs) _ (by rw [← ev]; exact hv)
  have g0 : Bk bs s r0.s (flds r0.v) := by rw [e0] at h0 ⊢; exact flat_bk hb _ _ (by decide) hp h0
  have gv : Bk bs r0.s rv.s (listF flds rv.v) := by rw [ev] at hv ⊢; exact rows_bk hb _ (by decide) _ g0.1 hv
  have g1 : Bk bs rv.s r1.s (flds r1.v) := by rw [e1] at h1 ⊢; exact flat_bk hb _ _ (by decide) gv.1 h1
  exact (g0.trans gv).trans g1
theorem one_state {bs : List Int} (hb : Byt bs) (h : sErr bs = 0) : wBytes (sVal bs).flds = bs ∧ wErr (sVal bs).flds = 0 := by
  have hl : ¬ 65536 < bs.length := fun hl => by rw [sErr_long hl] at h; exact absurd h (by decide)
  have h' := h
  rw [sErr_short hl] at h'
  have he : (stateA bs ⟨0, 0⟩).s.err = 0 := endA_zero h'
  rw [sVal_good h]
  obtain ⟨r0, e0⟩ : ∃ r, r = sta0 bs ⟨0, 0⟩ := ⟨_, rfl⟩
  obtain ⟨ra, ea⟩ : ∃ r, r = staA bs ⟨0, 0⟩ := ⟨_, rfl⟩
  obtain ⟨rm, em⟩ : ∃ r, r = staM bs ⟨0, 0⟩ := ⟨_, rfl⟩
  obtain ⟨rw_, ew⟩ : ∃ r, r = staW bs ⟨0, 0⟩ := ⟨_, rfl⟩
  obtain ⟨rd, ed⟩ : ∃ r, r = staD bs ⟨0, 0⟩ := ⟨_, rfl⟩
  obtain ⟨re, ee⟩ : ∃ r, r = staE bs ⟨0, 0⟩ := ⟨_, rfl⟩
  obtain ⟨r1, e1⟩ : ∃ r, r = sta1 bs ⟨0, 0⟩ := ⟨_, rfl⟩
  have ec : stateA bs ⟨0, 0⟩ = ⟨⟨r0.v, ra.v, rm.v, rw_.v, rd.v, re.v, r1.v⟩, r1.s⟩ := by unfold stateA; rw [← e0, ← ea, ← em, ← ew, ← ed, ← ee, ← e1]
  have f0 : r0 = flatA bs [0, 0, 2, 3, 3, 0] ⟨0, 0⟩ := e0
  have fa : ra = listA bs (accA bs) r0.s := by rw [ea, e0]; rfl
  have fm : rm = listA bs (flatA bs [0, 0, 2, 0, 0, 0, 0]) ra.s := by rw [em, ea]; rfl
  have fw : rw_ = listA bs (flatA bs [0, 0, 0, 0, 0, 0, 3, 3, 0, 0, 0]) rm.s := by rw [ew, em]; rfl
  have fd : rd = listA bs (flatA bs [0, 0, 3, 3, 0, 0, 0, 0]) rw_.s := by rw [ed, ew]; rfl
  have fe : re = listA bs (flatA bs [0, 0]) rd.s := by rw [ee, ed]; rfl
  have f1 : r1 = flatA bs [0, 0, 0, 3, 3, 0, 0, 0, 0, 0, 3, 3, 0, 0, 4, 0, 0, 0] re.s := by rw [e1, ee]; rfl
  rw [ec] at he h' ⊢
  clear ec e0 ea em ew ed ee e1
  have h1 : r1.s.err = 0 := he
  have he' : re.s.err = 0 := err_back (flatA bs [0, 0, 0, 3, 3, 0, 0, 0, 0, 0, 3, 3, 0, 0, 4, 0, 0, 0]) (fun s hs => flatA_stuck bs _ s hs) _ (by rw [← f1]; exact h1)
  have hd : rd.s.err = 0 := err_back (listA bs (flatA bs [0, 0])) (fun s hs => listA_stuck bs _ s hs) _ (by rw [← fe]; exact he')
  have hw : rw_.s.err = 0 := err_back (listA bs (flatA bs [0, 0, 3, 3, 0, 0, 0, 0])) (fun s hs => listA_stuck bs _ s hs) _ (by rw [← fd]; exact hd)
  have hm : rm.s.err = 0 := err_back (listA bs (flatA bs [0, 0, 0, 0, 0, 0, 3, 3, 0, 0, 0])) (fun s hs => listA_stuck bs _ s hs) _ (by rw [← fw]; exact hw)
  have ha : ra.s.err = 0 := err_back (listA bs (flatA bs [0, 0, 2, 0, 0, 0, 0])) (fun s hs => listA_stuck bs _ s hs) _ (by rw [← fm]; exact hm)
  have h0 : r0.s.err = 0 := err_back (listA bs (accA bs)) (fun s hs => listA_stuck bs _ s hs) _ (by rw [← fa]; exact ha)
  have g0 : Bk bs ⟨0, 0⟩ r0.s (flds r0.v) := by rw [f0] at h0 ⊢; exact flat_bk hb _ _ (by decide) (Nat.zero_le _) h0
  have ga : Bk bs r0.s ra.s (listF Acc.flds ra.v) := by rw [fa] at ha ⊢; exact list_bk hb (fun s hs => accA_stuck bs s hs) (fun s hp h => acc_bk hb s hp h) _ g0.1 ha
  have gm : Bk bs ra.s rm.s (listF flds rm.v) := by rw [fm] at hm ⊢; exact rows_bk hb _ (by decide) _ ga.1 hm
  have gw : Bk bs rm.s rw_.s (listF flds rw_.v) := by rw [fw] at hw ⊢; exact rows_bk hb _ (by decide) _ gm.1 hw
  have gd : Bk bs rw_.s rd.s (listF flds rd.v) := by rw [fd] at hd ⊢; exact rows_bk hb _ (by decide) _ gw.1 hd
  have ge : Bk bs rd.s re.s (listF flds re.v) := by rw [fe] at he' ⊢; exact rows_bk hb _ (by decide) _ gd.1 he'
  have g1 : Bk bs re.s r1.s (flds r1.v) := by rw [f1] at h1 ⊢; exact flat_bk hb _ _ (by decide) ge.1 h1
  obtain ⟨a1, a2⟩ := end_bk ((((((g0.trans ga).trans gm).trans gw).trans gd).trans ge).trans g1) h' hl
  exact ⟨by show wBytes (Sta.flds ⟨r0.v, ra.v, rm.v, rw_.v, rd.v, re.v, r1.v⟩) = bs; unfold Sta.flds; rw [wBytes_ok a2, a1], by show wErr (Sta.flds ⟨r0.v, ra.v, rm.v, rw_.v, rd.v, re.v, r1.v⟩) = 0; unfold Sta.flds; exact wErr_ok a2⟩
end Go.Proofs.Ytiafohpigkkgbaa
