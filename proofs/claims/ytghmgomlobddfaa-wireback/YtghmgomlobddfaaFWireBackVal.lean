/- What is written of a thing is read as the same thing; with a byte more, or one less, it is refused. Of things by value. No condition. -/
import Derived.Test.YtghmgomlobddfaaFWireBackMath
import Derived.Test.YtghmgomlobddfaaFWireLetterVal
import Derived.Test.YtghmgomlobddfaaJA
namespace Go.Proofs.Ytghmgomlobddfaa
open Go.ChangeShapes Go.WideShapes Go.ChangeAt Go.RowKit B8 Cm Wm
set_option linter.unusedVariables false

theorem AtomV.ok {w : World} {P : Nat → Prop} {v : Value} {x : Atom} (h : AtomV w P v x) : AtomOk x := by
  rcases h with h | h | h | h | h
  · exact .inl ⟨h.1, h.2.2⟩
  · exact .inr (.inl ⟨h.1, h.2.2⟩)
  · refine .inr (.inr (.inl ⟨h.1, ?_⟩))
    rcases h.2 with h | h
    · exact .inl h.2
    · exact .inr h.2
  · exact .inr (.inr (.inr (.inl h.1)))
  · exact .inr (.inr (.inr (.inr h.1)))
theorem AtomV.norm {w : World} {P : Nat → Prop} {v : Value} {x : Atom} (h : AtomV w P v x) : AtomV w P v (Wm.norm x) := by
  unfold Wm.norm
  split
  · rename_i hk
    rcases h with h | h | h | h | h
    · exact .inl h
    · exact .inr (.inl h)
    · exact .inr (.inr (.inl h))
    · exact absurd h.1 (by omega)
    · exact absurd h.1 (by omega)
  · rename_i hk
    rcases h with h | h | h | h | h
    · exact absurd h.1 (by omega)
    · exact absurd h.1 (by omega)
    · exact absurd h.1 (by omega)
    · exact .inr (.inr (.inr (.inl h)))
    · exact .inr (.inr (.inr (.inr h)))
theorem norm_get {xs : List Atom} {j : Nat} {y : Atom} (h : (xs.map Wm.norm)[j]? = some y) : ∃ x, xs[j]? = some x ∧ y = Wm.norm x := by
  rw [List.getElem?_map] at h
  cases hx : xs[j]? with
  | none => rw [hx] at h; cases h
  | some x => rw [hx] at h; exact ⟨x, rfl, (Option.some.inj h).symm⟩
theorem Vals.norm {w : World} {P : Nat → Prop} {cs : Array Value} {xs : List Atom} (h : Vals w P cs xs) : Vals w P cs (xs.map Wm.norm) := ⟨by rw [List.length_map]; exact h.1, fun j y hy => by
  obtain ⟨x, hx, rfl⟩ := norm_get hy
  obtain ⟨v, h1, h2⟩ := h.2 j x hx
  exact ⟨v, h1, h2.norm⟩⟩
theorem Vals.oks {w : World} {P : Nat → Prop} {cs : Array Value} {xs : List Atom} (h : Vals w P cs xs) : ∀ x ∈ xs, AtomOk x := fun x hx => by
  obtain ⟨j, hj, e⟩ := List.getElem_of_mem hx
  obtain ⟨v, _, h2⟩ := h.2 j x (by rw [List.getElem?_eq_getElem hj, e])
  exact h2.ok
theorem okAll_all {fs : List Fld} (h : okAll fs = true) : fs.all Fld.fit = true := by
  unfold okAll at h
  simp at h
  simpa using h.1
/-- a thing whose fields are plain -/
theorem back_flat {xs : List Atom} {ks : List Nat} (hk : xs.map Atom.k = ks) (hx : ∀ x ∈ xs, AtomOk x) (ho : okAll (flds xs) = true) (rest : List Int) :
    flatA (bytesOf (flds xs) ++ rest) ks ⟨0, 0⟩ = ⟨xs.map Wm.norm, ⟨(bytesOf (flds xs)).length, 0⟩⟩ := by
  have := flatA_at xs [] rest hx (okAll_all ho)
  rw [hk] at this
  simpa using this
theorem back_ok {xs : List Atom} {ks : List Nat} (hk : xs.map Atom.k = ks) (hx : ∀ x ∈ xs, AtomOk x) (ho : okAll (flds xs) = true) : tErr ks (bytesOf (flds xs)) = 0 ∧ tVal ks (bytesOf (flds xs)) = xs.map Wm.norm := by
  have e := back_flat hk hx ho []
  rw [List.append_nil] at e
  have h0 : tErr ks (bytesOf (flds xs)) = 0 := by
    rw [tErr_short (by have := okAll_le ho; omega), e]
    unfold endA
    simp
  exact ⟨h0, by rw [tVal_good h0, e]⟩
theorem back_more {xs : List Atom} {ks : List Nat} (hk : xs.map Atom.k = ks) (hx : ∀ x ∈ xs, AtomOk x) (ho : okAll (flds xs) = true) : tErr ks (bytesOf (flds xs) ++ [0]) = 24 ∨ tErr ks (bytesOf (flds xs) ++ [0]) = 22 := by
  by_cases hl : 65536 < (bytesOf (flds xs) ++ [0]).length
  · exact .inr (tErr_long hl)
  · refine .inl ?_
    rw [tErr_short hl, back_flat hk hx ho [0]]
    unfold endA
    simp
theorem back_less {xs : List Atom} {ks : List Nat} (hk : xs.map Atom.k = ks) (hx : ∀ x ∈ xs, AtomOk x) (ho : okAll (flds xs) = true) (h0 : 0 < (bytesOf (flds xs)).length) : ¬ tErr ks ((bytesOf (flds xs)).take ((bytesOf (flds xs)).length - 1)) = 0 := by
  intro h
  obtain ⟨F, eF⟩ : ∃ F, F = bytesOf (flds xs) := ⟨_, rfl⟩
  have hle := okAll_le ho
  rw [← eF] at h h0 hle
  have hlt : (F.take (F.length - 1)).length = F.length - 1 := by rw [List.length_take]; omega
  rw [tErr_short (by rw [hlt]; omega)] at h
  unfold endA at h
  have he : (flatA (F.take (F.length - 1)) ks ⟨0, 0⟩).s.err = 0 := by
    cases Decidable.em ((flatA (F.take (F.length - 1)) ks ⟨0, 0⟩).s.err = 0) with
    | inl h1 => exact h1
    | inr h1 => rw [if_neg h1] at h; exact h
  have hm := flatA_more (F.take (F.length - 1)) (F.drop (F.length - 1)) ks ⟨0, 0⟩ (Nat.zero_le _) he
  rw [List.take_append_drop] at hm
  have e := back_flat hk hx ho []
  rw [List.append_nil, ← eF, hm] at e
  have hp := flatA_place (F.take (F.length - 1)) ks ⟨0, 0⟩ (Nat.zero_le _)
  rw [e, hlt] at hp
  have : F.length ≤ F.length - 1 := hp
  omega

/-- a letter -/
def normL (x : Let) : Let := ⟨x.x0.map Wm.norm, x.vs.map (List.map Wm.norm), x.es.map (List.map Wm.norm), x.x1.map Wm.norm⟩
theorem Ls.norm {w : World} {P : Nat → Prop} {a : Option Addr} {n cp d : Nat} {xss : List (List Atom)} (h : Ls w P a n cp d xss) : Ls w P a n cp d (xss.map (List.map Wm.norm)) := ⟨by rw [List.length_map]; exact h.length, h.lecap, h.nil, fun h0 => by
  obtain ⟨b, off, e, hp, hr⟩ := h.rows h0
  refine ⟨b, off, e, hp, fun i ys hy => ?_⟩
  rw [List.getElem?_map] at hy
  cases hx : xss[i]? with
  | none => rw [hx] at hy; cases hy
  | some xs =>
    rw [hx] at hy
    obtain rfl : xs.map Wm.norm = ys := Option.some.inj hy
    obtain ⟨h1, h2⟩ := hr i xs hx
    exact ⟨by rw [List.length_map]; exact h1, fun j y hy => by
      obtain ⟨x, hx, rfl⟩ := norm_get hy
      obtain ⟨v, h3, h4⟩ := h2 j x hx
      exact ⟨v, h3, h4.norm⟩⟩⟩
theorem Ls.oks {w : World} {P : Nat → Prop} {a : Option Addr} {n cp d : Nat} {xss : List (List Atom)} (h : Ls w P a n cp d xss) : ∀ xs ∈ xss, ∀ x ∈ xs, AtomOk x := fun xs hxs x hx => by
  obtain ⟨i, hi, e⟩ := List.getElem_of_mem hxs
  obtain ⟨b, off, _, _, hr⟩ := h.rows (by rw [← h.length]; omega)
  obtain ⟨_, hf⟩ := hr i xs (by rw [List.getElem?_eq_getElem hi, e])
  obtain ⟨j, hj, e2⟩ := List.getElem_of_mem hx
  obtain ⟨v, _, h4⟩ := hf j x (by rw [List.getElem?_eq_getElem hj, e2])
  exact h4.ok
theorem LetV.norm {m : Nat} {w : World} {P : Nat → Prop} {cs : Array Value} {x : Let} (h : LetV m w P cs x) : LetV m w P cs (normL x) := by
  obtain ⟨a, n, cp, p1, p2⟩ := h.vs
  obtain ⟨a', n', cp', m1, m2⟩ := h.es
  exact ⟨h.size, by show (x.x0.map _).length = m; rw [List.length_map]; exact h.l0, by show (x.x1.map _).length = 4; rw [List.length_map]; exact h.l1,
    fun j y hy => by
      obtain ⟨z, hz, rfl⟩ := norm_get hy
      obtain ⟨v, h1, h2⟩ := h.f0 j z hz
      exact ⟨v, h1, h2.norm⟩,
    ⟨a, n, cp, p1, p2.norm⟩, ⟨a', n', cp', m1, m2.norm⟩,
    fun j y hy => by
      obtain ⟨z, hz, rfl⟩ := norm_get hy
      obtain ⟨v, h1, h2⟩ := h.f1 j z hz
      exact ⟨v, h1, h2.norm⟩⟩
theorem all_rows {f : List Atom → List Fld} {xss : List (List Atom)} (h : (listF f xss).all Fld.fit = true) : xss.length ≤ 1024 ∧ ∀ xs ∈ xss, (f xs).all Fld.fit = true := by
  unfold listF at h
  rw [List.all_cons] at h
  simp only [Bool.and_eq_true] at h
  refine ⟨by simpa [fldN] using h.1, fun xs hx => ?_⟩
  rw [List.all_eq_true]
  intro y hy
  have h2 := List.all_eq_true.1 h.2
  exact h2 y (List.mem_flatten.2 ⟨f xs, List.mem_map_of_mem hx, hy⟩)
theorem normL_kinds {m : Nat} {x : Let} (h : LetK m x) : LetK m (normL x) :=
  ⟨by show (x.x0.map _).map _ = _; rw [norms_k]; exact h.k0,
   fun ys hy => by obtain ⟨xs, hx, rfl⟩ := List.mem_map.1 hy; rw [norms_k]; exact h.kv xs hx,
   fun ys hy => by obtain ⟨xs, hx, rfl⟩ := List.mem_map.1 hy; rw [norms_k]; exact h.ke xs hx,
   by show (x.x1.map _).map _ = _; rw [norms_k]; exact h.k1⟩
theorem back_letA {m : Nat} {x : Let} (hk : LetK m x) (h0 : ∀ y ∈ x.x0, AtomOk y) (hv : ∀ xs ∈ x.vs, ∀ y ∈ xs, AtomOk y) (he : ∀ xs ∈ x.es, ∀ y ∈ xs, AtomOk y) (h1 : ∀ y ∈ x.x1, AtomOk y) (ho : okAll x.flds = true) :
    letA m (bytesOf x.flds) ⟨0, 0⟩ = ⟨normL x, ⟨(bytesOf x.flds).length, 0⟩⟩ := by
  have hall := okAll_all ho
  unfold Let.flds at hall
  rw [List.all_append, List.all_append, List.all_append] at hall
  simp only [Bool.and_eq_true] at hall
  obtain ⟨⟨⟨a0, av⟩, ae⟩, a1⟩ := hall
  have eF : bytesOf x.flds = bytesOf (flds x.x0) ++ bytesOf (listF flds x.vs) ++ bytesOf (listF flds x.es) ++ bytesOf (flds x.x1) := by
    unfold Let.flds
    rw [bytesOf_append, bytesOf_append, bytesOf_append]
  obtain ⟨F, hF⟩ : ∃ F, F = bytesOf x.flds := ⟨_, rfl⟩
  have f0 := flatA_at x.x0 [] (bytesOf (listF flds x.vs) ++ bytesOf (listF flds x.es) ++ bytesOf (flds x.x1)) h0 a0
  rw [hk.k0, show [] ++ bytesOf (flds x.x0) ++ (bytesOf (listF flds x.vs) ++ bytesOf (listF flds x.es) ++ bytesOf (flds x.x1)) = F by rw [hF, eF]; simp] at f0
  have f1 := listA_at [0, 0, 0, 4] x.vs (bytesOf (flds x.x0)) (bytesOf (listF flds x.es) ++ bytesOf (flds x.x1)) (fun xs hx => ⟨hk.kv xs hx, hv xs hx, (all_rows av).2 xs hx⟩) (all_rows av).1
  rw [show bytesOf (flds x.x0) ++ bytesOf (listF flds x.vs) ++ (bytesOf (listF flds x.es) ++ bytesOf (flds x.x1)) = F by rw [hF, eF]; simp] at f1
  have f2 := listA_at [0, 4] x.es (bytesOf (flds x.x0) ++ bytesOf (listF flds x.vs)) (bytesOf (flds x.x1)) (fun xs hx => ⟨hk.ke xs hx, he xs hx, (all_rows ae).2 xs hx⟩) (all_rows ae).1
  rw [show bytesOf (flds x.x0) ++ bytesOf (listF flds x.vs) ++ bytesOf (listF flds x.es) ++ bytesOf (flds x.x1) = F by rw [hF, eF]] at f2
  have f3 := flatA_at x.x1 (bytesOf (flds x.x0) ++ bytesOf (listF flds x.vs) ++ bytesOf (listF flds x.es)) [] h1 a1
  rw [hk.k1, show bytesOf (flds x.x0) ++ bytesOf (listF flds x.vs) ++ bytesOf (listF flds x.es) ++ bytesOf (flds x.x1) ++ [] = F by rw [hF, eF]; simp] at f3
  have l1 : ([] : List Int).length + (bytesOf (flds x.x0)).length = (bytesOf (flds x.x0)).length := by simp
  have f0 : flatA F (List.replicate m 0) ⟨0, 0⟩ = ⟨x.x0.map Wm.norm, ⟨(bytesOf (flds x.x0)).length, 0⟩⟩ := by rw [← l1]; exact f0
  rw [List.length_append] at f2
  rw [List.length_append, List.length_append] at f3
  rw [← hF]
  unfold letA letB
  rw [f0]
  show (⟨⟨_, (listA F (flatA F [0, 0, 0, 4]) ⟨(bytesOf (flds x.x0)).length, 0⟩).v, (listA F (flatA F [0, 4]) (listA F (flatA F [0, 0, 0, 4]) ⟨(bytesOf (flds x.x0)).length, 0⟩).s).v, (flatA F [0, 0, 1, 4] (listA F (flatA F [0, 4]) (listA F (flatA F [0, 0, 0, 4]) ⟨(bytesOf (flds x.x0)).length, 0⟩).s).s).v⟩, (flatA F [0, 0, 1, 4] (listA F (flatA F [0, 4]) (listA F (flatA F [0, 0, 0, 4]) ⟨(bytesOf (flds x.x0)).length, 0⟩).s).s).s⟩ : Ans Let) = _
  rw [f1]
  show (⟨⟨_, _, (listA F (flatA F [0, 4]) ⟨(bytesOf (flds x.x0)).length + (bytesOf (listF flds x.vs)).length, 0⟩).v, (flatA F [0, 0, 1, 4] (listA F (flatA F [0, 4]) ⟨(bytesOf (flds x.x0)).length + (bytesOf (listF flds x.vs)).length, 0⟩).s).v⟩, (flatA F [0, 0, 1, 4] (listA F (flatA F [0, 4]) ⟨(bytesOf (flds x.x0)).length + (bytesOf (listF flds x.vs)).length, 0⟩).s).s⟩ : Ans Let) = _
  rw [f2]
  show (⟨⟨_, _, _, (flatA F [0, 0, 1, 4] ⟨(bytesOf (flds x.x0)).length + (bytesOf (listF flds x.vs)).length + (bytesOf (listF flds x.es)).length, 0⟩).v⟩, (flatA F [0, 0, 1, 4] ⟨(bytesOf (flds x.x0)).length + (bytesOf (listF flds x.vs)).length + (bytesOf (listF flds x.es)).length, 0⟩).s⟩ : Ans Let) = _
  rw [f3]
  have lF : F.length = (bytesOf (flds x.x0)).length + (bytesOf (listF flds x.vs)).length + (bytesOf (listF flds x.es)).length + (bytesOf (flds x.x1)).length := by
    rw [hF, eF, List.length_append, List.length_append, List.length_append]
  rw [lF]
  rfl
theorem back_letter {w : World} {P : Nat → Prop} {cs : Array Value} {x : Let} (h : LetV 8 w P cs x) (hk : LetK 8 x) (ho : okAll x.flds = true) : lErr (bytesOf x.flds) = 0 ∧ lVal (bytesOf x.flds) = normL x := by
  obtain ⟨a, n, cp, _, p2⟩ := h.vs
  obtain ⟨a', n', cp', _, m2⟩ := h.es
  have e := back_letA hk (fun y hy => by
      obtain ⟨j, hj, e⟩ := List.getElem_of_mem hy
      obtain ⟨v, _, h2⟩ := h.f0 j y (by rw [List.getElem?_eq_getElem hj, e])
      exact h2.ok) p2.oks m2.oks (fun y hy => by
      obtain ⟨j, hj, e⟩ := List.getElem_of_mem hy
      obtain ⟨v, _, h2⟩ := h.f1 j y (by rw [List.getElem?_eq_getElem hj, e])
      exact h2.ok) ho
  have h0 : lErr (bytesOf x.flds) = 0 := by
    rw [lErr_short (by have := okAll_le ho; omega), e]
    unfold endA
    simp
  exact ⟨h0, by rw [lVal_good h0, e]⟩
end Go.Proofs.Ytghmgomlobddfaa
