/- A landed log of places in memory, of one kind of things; First, Top, New. No condition. -/
import Derived.Test.YtpaciknmmceehaaSlotsMath
import Derived.Test.YtpaciknmmceehaaSlotsRow
import Derived.BigQuiet
import Derived.Deep.RegionHeld3
namespace Go.Proofs.Ytpaciknmmceehaa.Lp
open Go.ChangeShapes Go.WideShapes Go.ChangeAt Go.RowKit Sx
set_option linter.unusedVariables false

abbrev Al : Type := (ByteArray × Int)
def enc (x : Al) : Array Value := #[.string x.1, .int .i64 x.2]
/-- what a place holds -/
def Pl (w : World) : Option Nat → Option Al → Prop
  | none, none => True
  | some b, some x => w.heap[b]? = some (.cells (enc x) 26 (0, 0))
  | _, _ => False
structure Lg (w : World) (P : Nat) (L : Lay) (s : Ss Al) : Prop where
  hd : w.heap[P]? = some (.cells #[.int .i64 s.first, .int .i64 s.most, L.v] 45 (0, 0))
  row : w.ownsRow 0 56 1 L.v L.bs.length (L.bs.map pv)
  len : L.bs.length = s.ps.length
  pl : ∀ (j : Nat) (b : Option Nat) (o : Option Al), L.bs[j]? = some b → s.ps[j]? = some o → Pl w b o
  ok : Ok s
/-- what a call leaves -/
def LMv (w : World) (P : Nat) (L : Lay) (s : Ss Al) (w' : World) : Prop := Chg (L.M P) w w' ∧ ∃ L', Lg w' P L' s ∧ ∀ k, L'.M P k → L.M P k ∨ w.heap.size ≤ k
theorem ptrinfo : (Try.prog.info? 56).map (fun i => (i.zero, i.size, i.bytes)) = some (some (.pointer none), 1, 8) := by kernel_rfl
theorem Pl.shape {w : World} {b : Option Nat} {o : Option Al} (h : Pl w b o) : (b = none ∧ o = none) ∨ ∃ k x, b = some k ∧ o = some x ∧ w.heap[k]? = some (.cells (enc x) 26 (0, 0)) := by
  cases b <;> cases o
  · exact .inl ⟨rfl, rfl⟩
  · exact h.elim
  · exact h.elim
  · exact .inr ⟨_, _, rfl, rfl, h⟩
section
variable {w w' : World} {P : Nat} {L : Lay} {s : Ss Al}
theorem Lg.place (h : Lg w P L s) {j : Nat} (hj : j < s.ps.length) : ∃ b o, L.bs[j]? = some b ∧ s.ps[j]? = some o ∧ Pl w b o := by
  have h1 : L.bs[j]? = some (L.bs[j]'(by rw [h.len]; exact hj)) := List.getElem?_eq_getElem _
  have h2 : s.ps[j]? = some s.ps[j] := List.getElem?_eq_getElem hj
  exact ⟨_, _, h1, h2, h.pl j _ _ h1 h2⟩
theorem Lg.val (h : Lg w P L s) {b : Nat} (hb : some b ∈ L.bs) : ∃ x, w.heap[b]? = some (.cells (enc x) 26 (0, 0)) := by
  obtain ⟨j, hj⟩ := List.getElem?_of_mem hb
  have hl := (List.getElem?_eq_some_iff.1 hj).1
  obtain ⟨b', o, e1, e2, hp⟩ := h.place (j := j) (by rw [← h.len]; exact hl)
  rw [hj] at e1
  cases e1
  rcases hp.shape with ⟨e, _⟩ | ⟨k, x, e, _, h3⟩
  · cases e
  · cases e
    exact ⟨x, h3⟩
theorem Lg.own (h : Lg w P L s) {k : Nat} (hk : L.v.ownBlock = some k) : ∃ cs, w.heap[k]? = some (.cells cs 56 (0, 0)) ∧ L.a = some ⟨k, 0, none⟩ := by
  obtain ⟨_, ⟨e, _⟩ | ⟨g, cp, cur, e, _, h3, _⟩⟩ := h.row
  · rw [e] at hk; simp [Value.ownBlock] at hk
  · rw [e] at hk
    simp [Value.ownBlock] at hk
    subst hk
    simp only [Lay.v, Value.slice.injEq] at e
    exact ⟨cur, h3, e.1⟩
theorem Lg.ltP (h : Lg w P L s) : P < w.heap.size := (Array.getElem?_eq_some_iff.1 h.hd).1
theorem Lg.lt (h : Lg w P L s) : ∀ k, L.M P k → k < w.heap.size := fun k hk => by
  rcases hk with rfl | hk
  · exact h.ltP
  · obtain ⟨cs, h1, _⟩ := h.own hk
    exact (Array.getElem?_eq_some_iff.1 h1).1
theorem Lg.vlt (h : Lg w P L s) : ∀ b, some b ∈ L.bs → b < w.heap.size := fun b hb => by
  obtain ⟨x, h1⟩ := h.val hb
  exact (Array.getElem?_eq_some_iff.1 h1).1
/-- a block that holds a value is none that a log writes -/
theorem Lg.vm {P' : Nat} {L' : Lay} {s' : Ss Al} (h : Lg w P L s) {b : Nat} {cs : Array Value} (hb : w.heap[b]? = some (.cells cs 26 (0, 0))) : ¬ L.M P b := fun hk => by
  rcases hk with rfl | hk
  · have := h.hd; rw [hb] at this; simp at this
  · obtain ⟨cs', h1, _⟩ := h.own hk
    rw [hb] at h1; simp at h1
theorem Lg.apart (h : Lg w P L s) : L.v.ownBlock ≠ some P := fun hk => by
  obtain ⟨cs, h1, _⟩ := h.own hk
  have := h.hd; rw [h1] at this; simp at this
theorem Pl.same {b : Option Nat} {o : Option Al} (h : Pl w b o) (hb : ∀ k, b = some k → w'.heap[k]? = w.heap[k]?) : Pl w' b o := by
  cases b <;> cases o
  · exact h
  · exact h
  · exact h
  · exact (hb _ rfl).trans h
theorem Lg.same (h : Lg w P L s) (hb : ∀ k, L.M P k → w'.heap[k]? = w.heap[k]?) (hv : ∀ k, some k ∈ L.bs → w'.heap[k]? = w.heap[k]?) : Lg w' P L s :=
  ⟨(hb P (.inl rfl)).trans h.hd, row_same h.row (fun k hk => hb k (.inr hk)), h.len, fun j b o h1 h2 => (h.pl j b o h1 h2).same (fun k e => hv k (by rw [← e]; exact List.mem_of_getElem? h1)), h.ok⟩
theorem Lg.below (h : Lg w P L s) (hb : Below w.heap.size w w') : Lg w' P L s := h.same (fun k hk => hb.block k (h.lt k hk)) (fun k hk => hb.block k (h.vlt k hk))
theorem Lg.drew (h : Lg w P L s) : Lg w.drew P L s := h.same (fun _ _ => rfl) (fun _ _ => rfl)
theorem Lg.far {M' : Nat → Prop} (h : Lg w P L s) (hc : Chg M' w w') (hd : ∀ k, L.M P k → ¬ M' k) (hv : ∀ k, some k ∈ L.bs → ¬ M' k) : Lg w' P L s := h.same (fun k hk => hc.block k (h.lt k hk) (hd k hk)) (fun k hk => hc.block k (h.vlt k hk) (hv k hk))
theorem Lg.c (h : Lg w P L s) : w.cell? ⟨P, 0, none⟩ = some (.int .i64 s.first) ∧ w.cell? ⟨P, 1, none⟩ = some (.int .i64 s.most) ∧ w.cell? ⟨P, 2, none⟩ = some L.v ∧ ∀ o, w.frozen? ⟨P, o, none⟩ = false :=
  ⟨by rw [cell_of_row _ _ 0 _ _ _ h.hd]; rfl, by rw [cell_of_row _ _ 1 _ _ _ h.hd]; rfl, by rw [cell_of_row _ _ 2 _ _ _ h.hd]; rfl, fun o => by simp [World.frozen?, h.hd]⟩
/-- a place's cell -/
theorem Lg.at (h : Lg w P L s) {j : Nat} {b : Option Nat} (hj : L.bs[j]? = some b) : ∃ g, L.a = some ⟨g, 0, none⟩ ∧ w.cell? ⟨g, j, none⟩ = some (pv b) ∧ w.frozen? ⟨g, j, none⟩ = false := by
  have hl := (List.getElem?_eq_some_iff.1 hj).1
  have row := h.row
  obtain ⟨_, ⟨e1, e2⟩ | ⟨g, cp, cur, e1, _, e3, _⟩⟩ := id row
  · omega
  · simp only [Lay.v, Value.slice.injEq] at e1
    have hr : w.ownsRow 0 56 1 (.slice (some ⟨g, 0, none⟩) L.bs.length L.c) L.bs.length (L.bs.map pv) := by
      rw [Lay.v, e1.1] at row; exact row
    refine ⟨g, e1.1, ?_, by simp [World.frozen?, e3]⟩
    rw [hr.cellAt j (by omega), List.getElem?_map, hj]
    rfl
theorem LMv.stay (h : Lg w P L s) : LMv w P L s w := ⟨Chg.refl _ _, L, h, fun k hk => .inl hk⟩
theorem LMv.of_below (h : Lg w P L s) (hb : Below w.heap.size w w') : LMv w P L s w' := ⟨Chg.of_below hb _, L, h.below hb, fun k hk => .inl hk⟩
end
/-! New -/
theorem new_lg (w : World) (f m : Int) : Lg (w.alloc (.cells #[.int .i64 (newS Al f m).first, .int .i64 (newS Al f m).most, .slice none 0 0] 45)) w.heap.size ⟨none, 0, []⟩ (newS Al f m) :=
  ⟨heap_alloc_new w _, ⟨rfl, .inl ⟨rfl, rfl⟩⟩, rfl, fun j b o h => by simp at h, ok_new f m⟩
set_option maxRecDepth 100000 in
theorem new_run (w : World) (f m : Int) : Calls Try.prog 4 #[.int .i64 f, .int .i64 m] w fun e w' => e = .returned (.pointer (some ⟨w.heap.size, 0, none⟩)) ∧ w' = w.alloc (.cells #[.int .i64 (newS Al f m).first, .int .i64 (newS Al f m).most, .slice none 0 0] 45) := by
  have e1 : ((newS Al f m).most : Int) = cl 1 1024 m := by have := cl_le 1 1024 m (by omega); simp only [newS]; omega
  have e2 : (newS Al f m).first = cl 1 1099511627776 f := rfl
  rw [e1, e2]
  clear e1 e2
  have hf : (f < 1 ∧ cl 1 1099511627776 f = 1) ∨ (¬ f < 1 ∧ 1099511627776 < f ∧ cl 1 1099511627776 f = 1099511627776) ∨ (¬ f < 1 ∧ ¬ 1099511627776 < f ∧ cl 1 1099511627776 f = f) := by
    by_cases f1 : f < 1
    · exact .inl ⟨f1, by simp [cl, f1]⟩
    · by_cases f2 : 1099511627776 < f
      · exact .inr (.inl ⟨f1, f2, by simp [cl, f1, f2]⟩)
      · exact .inr (.inr ⟨f1, f2, by simp [cl, f1, f2]⟩)
  have hm : (m < 1 ∧ cl 1 1024 m = 1) ∨ (¬ m < 1 ∧ 1024 < m ∧ cl 1 1024 m = 1024) ∨ (¬ m < 1 ∧ ¬ 1024 < m ∧ cl 1 1024 m = m) := by
    by_cases f1 : m < 1
    · exact .inl ⟨f1, by simp [cl, f1]⟩
    · by_cases f2 : 1024 < m
      · exact .inr (.inl ⟨f1, f2, by simp [cl, f1, f2]⟩)
      · exact .inr (.inr ⟨f1, f2, by simp [cl, f1, f2]⟩)
  rcases hf with ⟨f1, c1⟩ | ⟨f1, f2, c1⟩ | ⟨f1, f2, c1⟩ <;> rcases hm with ⟨m1, c2⟩ | ⟨m1, m2, c2⟩ | ⟨m1, m2, c2⟩ <;> rw [c1, c2] <;> clear c1 c2 <;>
    (go_enter Try.func4, Try.ntmps4
     go_wp2_with fail
     go_ret
     exact ⟨rfl, rfl⟩)
theorem new_any (w : World) (f m : Int) : Calls Try.prog 4 #[.int .i64 f, .int .i64 m] w fun e w' => e = .returned (.pointer (some ⟨w.heap.size, 0, none⟩)) ∧ Below w.heap.size w w' ∧ Lg w' w.heap.size ⟨none, 0, []⟩ (newS Al f m) :=
  (new_run w f m).mono fun e w' ⟨h1, h2⟩ => ⟨h1, by rw [h2]; exact below_alloc (Below.refl _ _) _, by rw [h2]; exact new_lg w f m⟩
end Go.Proofs.Ytpaciknmmceehaa.Lp
