/- Logs of two kinds of things, filled alike: what their calls answer is the same. No condition. -/
import Derived.Test.YtpaciknmmceehaaSlotsMath
import Derived.Test.YtpaciknmmceehaaSlotsWinMath
namespace Go.Proofs.Ytpaciknmmceehaa.Sx
variable {α β : Type} {r : α → β → Prop}
/-- the same places are filled, with things that belong together -/
inductive A2 (r : α → β → Prop) : List (Option α) → List (Option β) → Prop
  | nil : A2 r [] []
  | hole {l m} : A2 r l m → A2 r (none :: l) (none :: m)
  | full {l m x y} : r x y → A2 r l m → A2 r (some x :: l) (some y :: m)
theorem A2.nxt {l : List (Option α)} {m : List (Option β)} (h : A2 r l m) : nxt l = nxt m := by
  induction h with
  | nil => rfl
  | hole _ _ => rfl
  | full _ _ ih => simp only [Sx.nxt]; rw [ih]
theorem A2.cnt {l : List (Option α)} {m : List (Option β)} (h : A2 r l m) : cnt l = cnt m := by
  induction h with
  | nil => rfl
  | hole _ ih => simp only [Sx.cnt]; exact ih
  | full _ _ ih => simp only [Sx.cnt]; rw [ih]
theorem A2.len {l : List (Option α)} {m : List (Option β)} (h : A2 r l m) : l.length = m.length := by
  induction h with
  | nil => rfl
  | hole _ ih => simp [ih]
  | full _ _ ih => simp [ih]
theorem A2.take {l : List (Option α)} {m : List (Option β)} (h : A2 r l m) : ∀ k, A2 r (l.take k) (m.take k) := by
  induction h with
  | nil => intro k; simp; exact .nil
  | hole _ ih => intro k; cases k with | zero => exact .nil | succ k => exact .hole (ih k)
  | full hx _ ih => intro k; cases k with | zero => exact .nil | succ k => exact .full hx (ih k)
theorem A2.drop {l : List (Option α)} {m : List (Option β)} (h : A2 r l m) : ∀ k, A2 r (l.drop k) (m.drop k) := by
  induction h with
  | nil => intro k; simp; exact .nil
  | hole h ih => intro k; cases k with | zero => exact .hole h | succ k => exact ih k
  | full hx h ih => intro k; cases k with | zero => exact .full hx h | succ k => exact ih k
theorem A2.holes (n : Nat) : A2 r (List.replicate n none) (List.replicate n none) := by
  induction n with
  | zero => exact .nil
  | succ n ih => exact .hole ih
theorem A2.append {l l' : List (Option α)} {m m' : List (Option β)} (h : A2 r l m) (h' : A2 r l' m') : A2 r (l ++ l') (m ++ m') := by
  induction h with
  | nil => exact h'
  | hole _ ih => exact .hole ih
  | full hx _ ih => exact .full hx ih
theorem A2.set {l : List (Option α)} {m : List (Option β)} {x : α} {y : β} (h : A2 r l m) (hx : r x y) : ∀ k, A2 r (l.set k (some x)) (m.set k (some y)) := by
  induction h with
  | nil => intro k; exact .nil
  | hole h ih => intro k; cases k with | zero => exact .full hx h | succ k => exact .hole (ih k)
  | full hx' h ih => intro k; cases k with | zero => exact .full hx h | succ k => exact .full hx' (ih k)
theorem A2.mono {r' : α → β → Prop} {l : List (Option α)} {m : List (Option β)} (h : A2 r l m) (hm : ∀ x y, some y ∈ m → r x y → r' x y) : A2 r' l m := by
  induction h with
  | nil => exact .nil
  | hole _ ih => exact .hole (ih (fun x y hy => hm x y (List.mem_cons_of_mem _ hy)))
  | full hx _ ih => exact .full (hm _ _ (List.mem_cons_self ..) hx) (ih (fun x y hy => hm x y (List.mem_cons_of_mem _ hy)))
theorem A2.at {l : List (Option α)} {m : List (Option β)} (h : A2 r l m) : ∀ k : Nat, ((l[k]?).join = none ∧ (m[k]?).join = none) ∨ ∃ x y, (l[k]?).join = some x ∧ (m[k]?).join = some y ∧ r x y := by
  induction h with
  | nil => intro k; exact .inl ⟨by simp, by simp⟩
  | hole _ ih => intro k; cases k with | zero => exact .inl ⟨rfl, rfl⟩ | succ k => simpa using ih k
  | full hx _ ih => intro k; cases k with | zero => exact .inr ⟨_, _, rfl, rfl, hx⟩ | succ k => simpa using ih k
/-- two logs that are filled alike -/
structure S2 (r : α → β → Prop) (s : Ss α) (t : Ss β) : Prop where
  first : s.first = t.first
  most : s.most = t.most
  ps : A2 r s.ps t.ps
section
variable {s : Ss α} {t : Ss β}
theorem s2_new (f m : Int) : S2 r (newS α f m) (newS β f m) := ⟨rfl, rfl, .nil⟩
theorem S2.next (h : S2 r s t) : nextV s = nextV t := by unfold nextV; rw [h.first, h.ps.nxt]
theorem S2.top (h : S2 r s t) : topV s = topV t := by unfold topV; rw [h.first, h.ps.len]
theorem S2.putE (h : S2 r s t) (i : Int) : putE s i = putE t i := by unfold Sx.putE; rw [h.first, h.most]
theorem S2.get (h : S2 r s t) (i : Int) : (getV s i = none ∧ getV t i = none) ∨ ∃ x y, getV s i = some x ∧ getV t i = some y ∧ r x y := by
  unfold getV
  rw [h.first]
  split
  · exact .inl ⟨rfl, rfl⟩
  · exact h.ps.at _
theorem S2.put (h : S2 r s t) (i : Int) {x : α} {y : β} (hx : r x y) : S2 r (putS s i x) (putS t i y) := by
  unfold putS
  rw [h.first, h.most]
  split
  · exact h
  · exact ⟨rfl, rfl, by
      show A2 r (putL s.ps _ x) (putL t.ps _ y)
      unfold putL
      rw [h.ps.len]
      exact (h.ps.append (A2.holes _)).set hx _⟩
theorem S2.cutB (h : S2 r s t) (i : Int) : cutB s i = cutB t i := by unfold Sx.cutB; rw [h.first, h.ps.len]
theorem S2.stays (h : S2 r s t) (i : Int) : stays s i ↔ stays t i := by unfold Sx.stays; rw [h.first]
theorem S2.cutN (h : S2 r s t) (i : Int) : cutN s i = cutN t i := by
  by_cases hs : Sx.stays s i
  · simp [Sx.cutN, hs, (h.stays i).1 hs]
  · have hn : ¬ Sx.stays t i := fun x => hs ((h.stays i).2 x)
    simp [Sx.cutN, hs, hn, h.cutB i, (h.ps.take (Sx.cutB t i)).cnt]
theorem S2.cut (h : S2 r s t) (i : Int) : S2 r (cutS s i) (cutS t i) := by
  by_cases hs : Sx.stays s i
  · simp only [cutS, hs, (h.stays i).1 hs, if_true]
    exact h
  · have hn : ¬ Sx.stays t i := fun x => hs ((h.stays i).2 x)
    simp only [cutS, hs, hn, if_false]
    exact ⟨rfl, h.most, by show A2 r (s.ps.drop _) (t.ps.drop _); rw [h.cutB i]; exact h.ps.drop _⟩
end
end Go.Proofs.Ytpaciknmmceehaa.Sx
