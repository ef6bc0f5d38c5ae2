/- How many of some nodes a list names, as plain numbers. No condition. -/
import Derived.Test.YtjhkenmlaammnaaChoAmong
import Derived.Test.YtjhkenmlaammnaaSqI
import Derived.Handy
namespace Go.Proofs.Ytjhkenmlaammnaa
open Go.ChangeShapes Go.WideShapes Go.ChangeAt Go.RowKit I8
set_option linter.unusedVariables false

/-- is the node i, one of so many, named in l? -/
def nb (nodes : Int) (l : List Int) (i : Nat) : Bool := decide (1 ≤ (i : Int) ∧ (i : Int) ≤ nodes ∧ (i : Int) ∈ l)
def bi (b : Bool) : Int := if b then 1 else 0
theorem bi_bd (b : Bool) : 0 ≤ bi b ∧ bi b ≤ 1 := by cases b <;> decide
/-- how many of the nodes l names -/
def cn (nodes : Int) (l : List Int) : Int := bi (nb nodes l 1) + bi (nb nodes l 2) + bi (nb nodes l 3) + bi (nb nodes l 4) + bi (nb nodes l 5)
def cntV (nodes : Int) (l : List Int) : Int := if 1 ≤ nodes ∧ nodes ≤ 5 then cn nodes l else 0
theorem cn_bd (nodes : Int) (l : List Int) : 0 ≤ cn nodes l ∧ cn nodes l ≤ 5 := by
  have h1 := bi_bd (nb nodes l 1)
  have h2 := bi_bd (nb nodes l 2)
  have h3 := bi_bd (nb nodes l 3)
  have h4 := bi_bd (nb nodes l 4)
  have h5 := bi_bd (nb nodes l 5)
  unfold cn
  omega
theorem nb_add (nodes : Int) (l : List Int) (z : Int) (i : Nat) : nb nodes (l ++ [z]) i = (nb nodes l i || decide (z = (i : Int) ∧ 1 ≤ z ∧ z ≤ nodes)) := by
  unfold nb
  by_cases h : z = (i : Int)
  · subst h
    by_cases h1 : (1 ≤ (i : Int) ∧ (i : Int) ≤ nodes)
    · simp [h1]
    · have : ¬ (1 ≤ (i : Int) ∧ (i : Int) ≤ nodes ∧ (i : Int) ∈ l ++ [(i : Int)]) := fun x => h1 ⟨x.1, x.2.1⟩
      rw [decide_eq_false this, decide_eq_false (fun x => h1 ⟨x.1, x.2.1⟩), decide_eq_false (fun x => h1 x.2)]
      rfl
  · have h' : ¬ (i : Int) = z := fun e => h e.symm
    simp [h, h']
theorem nb_zero (nodes : Int) (l : List Int) : nb nodes l 0 = false := by unfold nb; simp
theorem nb_nil (nodes : Int) (i : Nat) : nb nodes [] i = false := by unfold nb; simp
/-- the row of what is named, as cells -/
def nrow (nodes : Int) (l : List Int) : Array Value := #[.bool (nb nodes l 0), .bool (nb nodes l 1), .bool (nb nodes l 2), .bool (nb nodes l 3), .bool (nb nodes l 4), .bool (nb nodes l 5)]
theorem nb_same {nodes z : Int} {l : List Int} (h : 1 ≤ z ∧ z ≤ nodes → nb nodes l z.toNat = true) (i : Nat) : nb nodes (l ++ [z]) i = nb nodes l i := by
  rw [nb_add]
  by_cases h1 : z = (i : Int) ∧ 1 ≤ z ∧ z ≤ nodes
  · have := h h1.2
    rw [show z.toNat = i by omega] at this
    rw [this]; rfl
  · rw [decide_eq_false h1, Bool.or_false]
theorem cn_same {nodes z : Int} {l : List Int} (h : 1 ≤ z ∧ z ≤ nodes → nb nodes l z.toNat = true) : cn nodes (l ++ [z]) = cn nodes l ∧ nrow nodes (l ++ [z]) = nrow nodes l := by
  unfold cn nrow
  simp only [nb_same h]
  exact ⟨trivial, trivial⟩
theorem nb_new {nodes : Int} {l : List Int} {m : Nat} (h1 : 1 ≤ (m : Int)) (h2 : (m : Int) ≤ nodes) (i : Nat) : nb nodes (l ++ [(m : Int)]) i = if i = m then true else nb nodes l i := by
  rw [nb_add]
  by_cases h : i = m
  · subst h
    rw [if_pos rfl, decide_eq_true ⟨rfl, h1, h2⟩, Bool.or_true]
  · rw [if_neg h, decide_eq_false (fun x => h (by omega)), Bool.or_false]
theorem cn_new {nodes : Int} {l : List Int} {m : Nat} (h1 : 1 ≤ (m : Int)) (h2 : (m : Int) ≤ nodes) (h5 : m ≤ 5) (h : nb nodes l m = false) : cn nodes (l ++ [(m : Int)]) = cn nodes l + 1 ∧ nrow nodes (l ++ [(m : Int)]) = (nrow nodes l).setIfInBounds m (.bool true) := by
  unfold cn nrow
  simp only [nb_new h1 h2]
  match m, h, h1, h5 with
  | 1, h, _, _ => simp [h, bi]; omega
  | 2, h, _, _ => simp [h, bi]; omega
  | 3, h, _, _ => simp [h, bi]; omega
  | 4, h, _, _ => simp [h, bi]; omega
  | 5, h, _, _ => simp [h, bi]
theorem take_next {zs : List Int} {k : Nat} (h : k < zs.length) : zs.take (k + 1) = zs.take k ++ [zs[k]?.getD 0] := by
  rw [List.take_add_one, List.getElem?_eq_getElem h]
  simp
/-- all are counted just if each is one of the nodes, and none stands twice -/
theorem cn_all {n : Int} (h5 : n ≤ 5) : ∀ (l pre : List Int), cn n (pre ++ l) ≤ cn n pre + (l.length : Int) ∧ (cn n (pre ++ l) = cn n pre + (l.length : Int) ↔ (∀ z ∈ l, 1 ≤ z ∧ z ≤ n) ∧ l.Nodup ∧ ∀ z ∈ l, z ∉ pre)
  | [], pre => by simp
  | z :: r, pre => by
    obtain ⟨h1, h2⟩ := cn_all h5 r (pre ++ [z])
    rw [List.append_assoc, List.singleton_append] at h1 h2
    by_cases hz : 1 ≤ z ∧ z ≤ n
    · obtain ⟨m, rfl⟩ : ∃ m : Nat, z = (m : Int) := ⟨z.toNat, by omega⟩
      by_cases hm : (m : Int) ∈ pre
      · have hb : nb n pre m = true := decide_eq_true ⟨hz.1, hz.2, hm⟩
        have e := (cn_same (l := pre) (nodes := n) (z := (m : Int)) fun _ => by rw [Int.toNat_natCast]; exact hb).1
        rw [e] at h1 h2
        simp only [List.length_cons]
        refine ⟨by omega, ⟨fun h => ?_, fun h => absurd hm (h.2.2 _ (by simp))⟩⟩
        exfalso
        omega
      · have hb : nb n pre m = false := decide_eq_false (fun x => hm x.2.2)
        have e := (cn_new (l := pre) hz.1 hz.2 (by omega) hb).1
        rw [e] at h1 h2
        simp only [List.length_cons]
        refine ⟨by omega, ⟨fun h => ?_, fun h => ?_⟩⟩
        · obtain ⟨a, b, c⟩ := h2.1 (by omega)
          refine ⟨fun x hx => ?_, List.nodup_cons.2 ⟨fun hx => (c _ hx) (by simp), b⟩, fun x hx => ?_⟩
          · rcases List.mem_cons.1 hx with rfl | hx
            · exact hz
            · exact a x hx
          · rcases List.mem_cons.1 hx with rfl | hx
            · exact hm
            · exact fun hp => c x hx (by simp [hp])
        · obtain ⟨a, b, c⟩ := h
          have := h2.2 ⟨fun x hx => a x (by simp [hx]), (List.nodup_cons.1 b).2, fun x hx hp => by
            rcases List.mem_append.1 hp with hp | hp
            · exact c x (by simp [hx]) hp
            · have e : x = (m : Int) := by simpa using hp
              exact (List.nodup_cons.1 b).1 (e ▸ hx)⟩
          omega
    · have e := (cn_same (l := pre) (nodes := n) (z := z) fun x => absurd x hz).1
      rw [e] at h1 h2
      simp only [List.length_cons]
      refine ⟨by omega, ⟨fun h => ?_, fun h => absurd (h.1 z (by simp)) hz⟩⟩
      exfalso
      omega
theorem cn_len {n : Int} (h5 : n ≤ 5) (l : List Int) : (cn n l = (l.length : Int)) ↔ (∀ z ∈ l, 1 ≤ z ∧ z ≤ n) ∧ l.Nodup := by
  have := (cn_all h5 l []).2
  have e : cn n [] = 0 := by simp [cn, nb_nil, bi]
  rw [List.nil_append, e, Int.zero_add] at this
  rw [this]
  simp
end Go.Proofs.Ytjhkenmlaammnaa
