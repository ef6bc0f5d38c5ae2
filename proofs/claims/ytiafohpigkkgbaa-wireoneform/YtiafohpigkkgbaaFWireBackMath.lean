/- What is written of a thing's fields is read as the same fields, whatever stands behind them; what is read stays so with more bytes behind. As plain functions: no Go in sight. -/
import Derived.Test.YtiafohpigkkgbaaJA
namespace Go.Proofs.Ytiafohpigkkgbaa
namespace Wm
open Go.ChangeShapes Go.WideShapes Go.ChangeAt Go.RowKit B8 Cm
set_option linter.unusedVariables false

/-- a field with nothing in it that its kind doesn't have -/
def norm (x : Atom) : Atom := if x.k ≤ 2 then ⟨x.k, x.z, []⟩ else ⟨x.k, 0, x.bs⟩
/-- a field as its kind has it -/
def AtomOk (x : Atom) : Prop := (x.k = 0 ∧ -9223372036854775808 ≤ x.z ∧ x.z ≤ 9223372036854775807) ∨ (x.k = 1 ∧ 0 ≤ x.z ∧ x.z ≤ 4294967295) ∨ (x.k = 2 ∧ (x.z = 1 ∨ x.z = 0)) ∨ x.k = 3 ∨ x.k = 4
theorem norm_k (x : Atom) : (norm x).k = x.k := by unfold norm; split <;> rfl
theorem norms_k (xs : List Atom) : (xs.map norm).map Atom.k = xs.map Atom.k := by
  rw [List.map_map]
  exact List.map_congr_left fun x _ => norm_k x
theorem fldA_norm (x : Atom) : fldA (norm x) = fldA x := by
  unfold norm
  split
  · rename_i h
    unfold fldA atomB atomFit
    have : x.k = 0 ∨ x.k = 1 ∨ x.k = 2 := by omega
    rcases this with h | h | h <;> simp [h]
  · rename_i h
    unfold fldA atomB atomFit
    simp [show ¬ x.k = 0 by omega, show ¬ x.k = 1 by omega, show ¬ x.k = 2 by omega]
theorem flds_norm (xs : List Atom) : flds (xs.map norm) = flds xs := by
  unfold flds
  rw [List.map_map]
  exact List.map_congr_left fun x _ => fldA_norm x
theorem flagA_atr (pre rest : List Int) (z : Int) (hz : z = 1 ∨ z = 0) : flagA (pre ++ [z] ++ rest) ⟨pre.length, 0⟩ = ⟨decide (z = 1), ⟨pre.length + 1, 0⟩⟩ := by
  have hb : byteA (pre ++ [z] ++ rest) ⟨pre.length, 0⟩ = ⟨z, ⟨pre.length + 1, 0⟩⟩ := by
    rw [byteA_good _ _ rfl (by simp)]
    simp
  rw [flagA_good _ _ (by rw [hb]; show ¬ 1 < z; omega), hb]
/-- one field that was written is read as itself -/
theorem atomA_at (pre rest : List Int) (x : Atom) (hx : AtomOk x) (hf : atomFit x = true) : atomA (pre ++ atomB x ++ rest) x.k ⟨pre.length, 0⟩ = ⟨norm x, ⟨pre.length + (atomB x).length, 0⟩⟩ := by
  obtain ⟨k, z, bs⟩ := x
  rcases hx with ⟨rfl, h1, h2⟩ | ⟨rfl, h1, h2⟩ | ⟨rfl, h1⟩ | rfl | rfl
  · have := intA_at pre rest z h1 h2
    show (⟨⟨0, (intA (pre ++ numB (zig z) ++ rest) _).v, []⟩, (intA (pre ++ numB (zig z) ++ rest) _).s⟩ : Ans Atom) = _
    rw [this]
    rfl
  · have h1' : (0 : Int) ≤ z := h1
    have h2' : z ≤ 4294967295 := h2
    have := numA_at pre rest z.toNat (by omega)
    show (if 4294967295 < (numA (pre ++ numB z.toNat ++ rest) ⟨pre.length, 0⟩).v then (⟨⟨1, 0, []⟩, ⟨pre.length, 21⟩⟩ : Ans Atom) else ⟨⟨1, ((numA (pre ++ numB z.toNat ++ rest) ⟨pre.length, 0⟩).v : Int), []⟩, (numA (pre ++ numB z.toNat ++ rest) ⟨pre.length, 0⟩).s⟩) = _
    rw [this, if_neg (by show ¬ 4294967295 < z.toNat; omega)]
    show (⟨⟨1, (z.toNat : Int), []⟩, _⟩ : Ans Atom) = ⟨⟨1, z, []⟩, _⟩
    rw [Int.toNat_of_nonneg h1']
    rfl
  · have := flagA_atr pre rest z h1
    show (⟨⟨2, if (flagA (pre ++ [z] ++ rest) ⟨pre.length, 0⟩).v then 1 else 0, []⟩, (flagA (pre ++ [z] ++ rest) ⟨pre.length, 0⟩).s⟩ : Ans Atom) = _
    rw [this]
    rcases h1 with h | h
    · have h' : z = 1 := h
      subst h'
      rfl
    · have h' : z = 0 := h
      subst h'
      rfl
  · have hl : bs.length ≤ 65535 := by simpa [atomFit] using hf
    have := textA_at pre rest bs 65535 (by omega) (by omega)
    show (⟨⟨3, 0, (textA (pre ++ (numB bs.length ++ bs) ++ rest) 65535 _).v⟩, (textA (pre ++ (numB bs.length ++ bs) ++ rest) 65535 _).s⟩ : Ans Atom) = _
    rw [this]
    show (⟨⟨3, 0, bs⟩, ⟨_, 0⟩⟩ : Ans Atom) = ⟨⟨3, 0, bs⟩, ⟨pre.length + (numB bs.length ++ bs).length, 0⟩⟩
    rw [List.length_append, Nat.add_assoc]
  · have hl : bs.length ≤ 65535 := by simpa [atomFit] using hf
    have := textA_at pre rest bs 65535 (by omega) (by omega)
    show (⟨⟨4, 0, (textA (pre ++ (numB bs.length ++ bs) ++ rest) 65535 _).v⟩, (textA (pre ++ (numB bs.length ++ bs) ++ rest) 65535 _).s⟩ : Ans Atom) = _
    rw [this]
    show (⟨⟨4, 0, bs⟩, ⟨_, 0⟩⟩ : Ans Atom) = ⟨⟨4, 0, bs⟩, ⟨pre.length + (numB bs.length ++ bs).length, 0⟩⟩
    rw [List.length_append, Nat.add_assoc]
theorem bytesOf_cons (f : Fld) (fs : List Fld) : bytesOf (f :: fs) = f.bytes ++ bytesOf fs := by simp [bytesOf]
/-- fields that were written are read as themselves -/
theorem flatA_at : ∀ (xs : List Atom) (pre rest : List Int), (∀ x ∈ xs, AtomOk x) → (flds xs).all Fld.fit = true → flatA (pre ++ bytesOf (flds xs) ++ rest) (xs.map Atom.k) ⟨pre.length, 0⟩ = ⟨xs.map norm, ⟨pre.length + (bytesOf (flds xs)).length, 0⟩⟩
  | [], pre, rest, _, _ => by simp [flatA, flds, bytesOf]
  | x :: xs, pre, rest, h, hf => by
    have hf' : atomFit x = true ∧ (flds xs).all Fld.fit = true := by
      have : (fldA x :: flds xs).all Fld.fit = true := hf
      simpa [fldA] using this
    have e : pre ++ bytesOf (flds (x :: xs)) ++ rest = pre ++ atomB x ++ (bytesOf (flds xs) ++ rest) := by
      show pre ++ bytesOf (fldA x :: flds xs) ++ rest = _
      rw [bytesOf_cons]
      simp [fldA]
    have e2 : pre ++ atomB x ++ (bytesOf (flds xs) ++ rest) = (pre ++ atomB x) ++ bytesOf (flds xs) ++ rest := by simp
    have a1 := atomA_at pre (bytesOf (flds xs) ++ rest) x (h x (by simp)) hf'.1
    have a2 := flatA_at xs (pre ++ atomB x) rest (fun y hy => h y (by simp [hy])) hf'.2
    rw [List.length_append] at a2
    rw [e]
    show (⟨(atomA _ x.k _).v :: (flatA _ (xs.map Atom.k) (atomA _ x.k _).s).v, (flatA _ (xs.map Atom.k) (atomA _ x.k _).s).s⟩ : Ans (List Atom)) = _
    rw [a1, e2, a2]
    show (⟨norm x :: xs.map norm, ⟨_, 0⟩⟩ : Ans (List Atom)) = ⟨norm x :: xs.map norm, ⟨_, 0⟩⟩
    have : (bytesOf (flds (x :: xs))).length = (atomB x).length + (bytesOf (flds xs)).length := by
      show (bytesOf (fldA x :: flds xs)).length = _
      rw [bytesOf_cons, List.length_append]
      rfl
    rw [this, Nat.add_assoc]
/-- rows that were written are read as themselves -/
theorem timesA_at (ks : List Nat) : ∀ (xss : List (List Atom)) (pre rest : List Int), (∀ xs ∈ xss, xs.map Atom.k = ks ∧ (∀ x ∈ xs, AtomOk x) ∧ (flds xs).all Fld.fit = true) →
    timesA (flatA (pre ++ bytesOf ((xss.map flds).flatten) ++ rest) ks) xss.length ⟨pre.length, 0⟩ = ⟨xss.map (List.map norm), ⟨pre.length + (bytesOf ((xss.map flds).flatten)).length, 0⟩⟩
  | [], pre, rest, _ => by simp [timesA, bytesOf]
  | xs :: xss, pre, rest, h => by
    obtain ⟨h1, h2, h3⟩ := h xs (by simp)
    have e : pre ++ bytesOf (((xs :: xss).map flds).flatten) ++ rest = pre ++ bytesOf (flds xs) ++ (bytesOf ((xss.map flds).flatten) ++ rest) := by
      rw [List.map_cons, List.flatten_cons, bytesOf_append]
      simp
    have e2 : pre ++ bytesOf (flds xs) ++ (bytesOf ((xss.map flds).flatten) ++ rest) = (pre ++ bytesOf (flds xs)) ++ bytesOf ((xss.map flds).flatten) ++ rest := by simp
    have a1 := flatA_at xs pre (bytesOf ((xss.map flds).flatten) ++ rest) h2 h3
    rw [h1] at a1
    have a2 := timesA_at ks xss (pre ++ bytesOf (flds xs)) rest (fun y hy => h y (by simp [hy]))
    rw [List.length_append] at a2
    rw [e]
    show (⟨(flatA _ ks _).v :: (timesA (flatA _ ks) xss.length (flatA _ ks _).s).v, (timesA (flatA _ ks) xss.length (flatA _ ks _).s).s⟩ : Ans (List (List Atom))) = _
    rw [a1, e2, a2]
    show (⟨xs.map norm :: xss.map (List.map norm), ⟨_, 0⟩⟩ : Ans (List (List Atom))) = ⟨xs.map norm :: xss.map (List.map norm), ⟨_, 0⟩⟩
    rw [List.map_cons, List.flatten_cons, bytesOf_append, List.length_append, Nat.add_assoc]
/-- a list that was written is read as itself -/
theorem listA_at (ks : List Nat) (xss : List (List Atom)) (pre rest : List Int) (h : ∀ xs ∈ xss, xs.map Atom.k = ks ∧ (∀ x ∈ xs, AtomOk x) ∧ (flds xs).all Fld.fit = true) (hl : xss.length ≤ 1024) :
    listA (pre ++ bytesOf (listF flds xss) ++ rest) (flatA (pre ++ bytesOf (listF flds xss) ++ rest) ks) ⟨pre.length, 0⟩ = ⟨xss.map (List.map norm), ⟨pre.length + (bytesOf (listF flds xss)).length, 0⟩⟩ := by
  have e : pre ++ bytesOf (listF flds xss) ++ rest = pre ++ numB xss.length ++ (bytesOf ((xss.map flds).flatten) ++ rest) := by
    unfold listF
    rw [bytesOf_cons]
    simp [fldN]
  have e2 : pre ++ numB xss.length ++ (bytesOf ((xss.map flds).flatten) ++ rest) = (pre ++ numB xss.length) ++ bytesOf ((xss.map flds).flatten) ++ rest := by simp
  have hn := numA_at pre (bytesOf ((xss.map flds).flatten) ++ rest) xss.length (by omega)
  have hc : countA (pre ++ numB xss.length ++ (bytesOf ((xss.map flds).flatten) ++ rest)) 1024 ⟨pre.length, 0⟩ = ⟨xss.length, ⟨pre.length + (numB xss.length).length, 0⟩⟩ := by
    rw [countA_good _ _ _ (by rw [hn]; show ¬ max 0 1024 < ((xss.length : Nat) : Int); omega), hn]
  have ht := timesA_at ks xss (pre ++ numB xss.length) rest h
  rw [List.length_append] at ht
  unfold listA
  rw [e, hc, e2]
  show timesA _ xss.length ⟨pre.length + (numB xss.length).length, 0⟩ = _
  rw [ht]
  have : (bytesOf (listF flds xss)).length = (numB xss.length).length + (bytesOf ((xss.map flds).flatten)).length := by
    unfold listF
    rw [bytesOf_cons, List.length_append]
    rfl
  rw [this, Nat.add_assoc]

/-- what was read without a fault is read so with more bytes behind -/
theorem numG_more_ : ∀ (r rest : List Int) (k acc : Nat), (numG r k acc).e = 0 → numG (r ++ rest) k acc = numG r k acc
  | [], rest, k, acc, h => absurd (show (20 : Int) = 0 from h) (by decide)
  | c :: r, rest, k, acc, h => by
    by_cases h1 : (k = 9 ∧ 1 < c) ∨ (0 < k ∧ c = 0)
    · rw [numG_form _ _ _ _ h1] at h; exact absurd h (by decide)
    · by_cases h2 : c < 128
      · show numG (c :: (r ++ rest)) k acc = _
        rw [numG_done _ _ _ _ h1 h2, numG_done _ _ _ _ h1 h2]
      · rw [numG_more _ _ _ _ h1 h2] at h
        show numG (c :: (r ++ rest)) k acc = _
        rw [numG_more _ _ _ _ h1 h2, numG_more _ _ _ _ h1 h2]
        exact numG_more_ r rest (k + 1) _ h
theorem numA_more (bs rest : List Int) (s : St) (hp : s.pl ≤ bs.length) (h : (numA bs s).s.err = 0) : numA (bs ++ rest) s = numA bs s := by
  by_cases h0 : s.err = 0
  · have he : (numG (bs.drop s.pl) 0 0).e = 0 := by
      cases Decidable.em ((numG (bs.drop s.pl) 0 0).e = 0) with
      | inl h1 => exact h1
      | inr h1 => rw [numA_bad _ _ h0 h1] at h; exact h
    have hd : (bs ++ rest).drop s.pl = bs.drop s.pl ++ rest := List.drop_append_of_le_length hp
    have hg := numG_more_ (bs.drop s.pl) rest 0 0 he
    rw [numA_good _ _ h0 he, numA_good _ _ h0 (by rw [hd, hg]; exact he), hd, hg]
  · rw [numA_fault _ _ h0, numA_fault _ _ h0]
theorem byteA_more (bs rest : List Int) (s : St) (h : (byteA bs s).s.err = 0) : byteA (bs ++ rest) s = byteA bs s := by
  by_cases h0 : s.err = 0
  · by_cases h1 : s.pl < bs.length
    · rw [byteA_good _ _ h0 h1, byteA_good _ _ h0 (by rw [List.length_append]; omega), List.getElem?_append_left h1]
    · rw [byteA_short _ _ h0 h1] at h; exact absurd (show (20 : Int) = 0 from h) (by decide)
  · rw [byteA_fault _ _ h0, byteA_fault _ _ h0]
theorem countA_more (bs rest : List Int) (most : Int) (s : St) (hp : s.pl ≤ bs.length) (h : (countA bs most s).s.err = 0) : countA (bs ++ rest) most s = countA bs most s := by
  by_cases h1 : max 0 most < ((numA bs s).v : Int)
  · rw [countA_long _ _ _ h1] at h; exact absurd (show (22 : Int) = 0 from h) (by decide)
  · rw [countA_good _ _ _ h1] at h
    have hm := numA_more bs rest s hp h
    rw [countA_good _ _ _ h1, countA_good _ _ _ (by rw [hm]; exact h1), hm]
theorem textA_more (bs rest : List Int) (most : Int) (s : St) (hp : s.pl ≤ bs.length) (h : (textA bs most s).s.err = 0) : textA (bs ++ rest) most s = textA bs most s := by
  by_cases h1 : (countA bs most s).s.err = 0
  · have hm := countA_more bs rest most s hp h1
    have hpl := countA_place bs most s hp
    by_cases h2 : bs.length - (countA bs most s).s.pl < (countA bs most s).v
    · rw [textA_short _ _ _ h1 h2] at h; exact absurd (show (20 : Int) = 0 from h) (by decide)
    · rw [textA_good _ _ _ h1 h2, textA_good _ _ _ (by rw [hm]; exact h1) (by rw [hm, List.length_append]; omega), hm]
      congr 1
      rw [List.drop_append_of_le_length hpl, List.take_append_of_le_length (by rw [List.length_drop]; omega)]
  · rw [textA_fault _ _ _ h1] at h; exact absurd h h1
theorem textA_place' (bs : List Int) (most : Int) (s : St) (hp : s.pl ≤ bs.length) : (textA bs most s).s.pl ≤ bs.length := by
  have hpl := countA_place bs most s hp
  by_cases h1 : (countA bs most s).s.err = 0
  · by_cases h2 : bs.length - (countA bs most s).s.pl < (countA bs most s).v
    · rw [textA_short _ _ _ h1 h2]; exact hp
    · rw [textA_good _ _ _ h1 h2]; show _ + _ ≤ _; omega
  · rw [textA_fault _ _ _ h1]; exact hpl
theorem atomA_more (bs rest : List Int) (k : Nat) (s : St) (hp : s.pl ≤ bs.length) (h : (atomA bs k s).s.err = 0) : atomA (bs ++ rest) k s = atomA bs k s := by
  unfold atomA at h ⊢
  by_cases k0 : k = 0
  · rw [if_pos k0] at h
    rw [if_pos k0, if_pos k0]
    have := numA_more bs rest s hp h
    unfold intA
    rw [this]
  · rw [if_neg k0] at h
    rw [if_neg k0, if_neg k0]
    by_cases k1 : k = 1
    · rw [if_pos k1] at h
      rw [if_pos k1, if_pos k1]
      by_cases h1 : 4294967295 < (numA bs s).v
      · rw [if_pos h1] at h; exact absurd (show (21 : Int) = 0 from h) (by decide)
      · rw [if_neg h1] at h
        rw [numA_more bs rest s hp h]
    · rw [if_neg k1] at h
      rw [if_neg k1, if_neg k1]
      by_cases k2 : k = 2
      · rw [if_pos k2] at h
        rw [if_pos k2, if_pos k2]
        have hf : flagA (bs ++ rest) s = flagA bs s := by
          by_cases h1 : 1 < (byteA bs s).v
          · rw [flagA_bad _ _ h1] at h; exact absurd (show (21 : Int) = 0 from h) (by decide)
          · rw [flagA_good _ _ h1] at h
            have := byteA_more bs rest s h
            rw [flagA_good _ _ h1, flagA_good _ _ (by rw [this]; exact h1), this]
        rw [hf]
      · rw [if_neg k2] at h
        rw [if_neg k2, if_neg k2, textA_more bs rest 65535 s hp h]
theorem atomA_place (bs : List Int) (k : Nat) (s : St) (hp : s.pl ≤ bs.length) : (atomA bs k s).s.pl ≤ bs.length := by
  unfold atomA
  split
  · exact numA_place bs s hp
  · split
    · split
      · exact hp
      · exact numA_place bs s hp
    · split
      · exact flagA_place bs s hp
      · exact textA_place' bs 65535 s hp
theorem flatA_more (bs rest : List Int) : ∀ (ks : List Nat) (s : St), s.pl ≤ bs.length → (flatA bs ks s).s.err = 0 → flatA (bs ++ rest) ks s = flatA bs ks s
  | [], s, _, _ => rfl
  | k :: ks, s, hp, h => by
    have h' : (flatA bs ks (atomA bs k s).s).s.err = 0 := h
    have h1 : (atomA bs k s).s.err = 0 := err_back (flatA bs ks) (fun s hs => flatA_stuck bs ks s hs) _ h'
    have e1 := atomA_more bs rest k s hp h1
    have e2 := flatA_more bs rest ks (atomA bs k s).s (atomA_place bs k s hp) h'
    show (⟨(atomA (bs ++ rest) k s).v :: (flatA (bs ++ rest) ks (atomA (bs ++ rest) k s).s).v, (flatA (bs ++ rest) ks (atomA (bs ++ rest) k s).s).s⟩ : Ans (List Atom)) = ⟨(atomA bs k s).v :: (flatA bs ks (atomA bs k s).s).v, (flatA bs ks (atomA bs k s).s).s⟩
    rw [e1, e2]
theorem flatA_place (bs : List Int) : ∀ (ks : List Nat) (s : St), s.pl ≤ bs.length → (flatA bs ks s).s.pl ≤ bs.length
  | [], s, hp => hp
  | k :: ks, s, hp => flatA_place bs ks _ (atomA_place bs k s hp)
end Wm
end Go.Proofs.Ytiafohpigkkgbaa
