/- The document's clock in memory; its place, Due and Stop. No condition. -/
import Derived.Test.YtoganfdpaagomaaClockRan
namespace Go.Proofs.Ytoganfdpaagomaa
open Go.ChangeShapes Go.WideShapes Go.ChangeAt Go.RowKit Cm
set_option linter.unusedVariables false

def Cm.Tm.pair (t : Tm) : List Value := [.string t.name, .int .i64 t.due]
def rcells (l : List Tm) : List Value := l.flatMap Tm.pair
theorem rcells_append (l r : List Tm) : rcells (l ++ r) = rcells l ++ rcells r := by simp [rcells]
theorem rcells_length : ∀ (l : List Tm), (rcells l).length = l.length * 2
  | [] => rfl
  | p :: r => by show (p.pair ++ rcells r).length = _; rw [List.length_append, rcells_length r]; simp [Tm.pair]; omega
theorem rcells_at : ∀ (l : List Tm) (i : Nat) (p : Tm), l[i]? = some p → ∀ j, j < 2 → (rcells l)[i * 2 + j]? = p.pair[j]?
  | [], i, p, hx, _, _ => by simp at hx
  | y :: r, 0, p, hx, j, hj => by
    simp at hx
    subst hx
    show (y.pair ++ rcells r)[0 * 2 + j]? = _
    rw [List.getElem?_append_left (by simp [Tm.pair]; omega)]
    simp
  | y :: r, i + 1, p, hx, j, hj => by
    show (y.pair ++ rcells r)[(i + 1) * 2 + j]? = _
    rw [List.getElem?_append_right (by simp [Tm.pair]; omega), show (i + 1) * 2 + j - y.pair.length = i * 2 + j by simp [Tm.pair]; omega]
    exact rcells_at r i p (by simpa using hx) j hj
theorem rcells_one (l : List Tm) : ∀ v ∈ rcells l, v.oneCell' = true := by
  intro v hv
  obtain ⟨p, _, hp⟩ := List.mem_flatMap.1 hv
  simp [Tm.pair] at hp
  rcases hp with rfl | rfl <;> rfl
theorem rcells_take (l : List Tm) (k : Nat) (hk : k ≤ l.length) : rcells (l.take k) = (rcells l).take (k * 2) := by
  conv => rhs; rw [← List.take_append_drop k l, rcells_append]
  rw [List.take_left' (by rw [rcells_length]; simp; omega)]
theorem rcells_drop (l : List Tm) (k : Nat) (hk : k ≤ l.length) : rcells (l.drop k) = (rcells l).drop (k * 2) := by
  conv => rhs; rw [← List.take_append_drop k l, rcells_append]
  rw [List.drop_left' (by rw [rcells_length]; simp; omega)]
def zrt : Array Value := #[.string ⟨#[]⟩, .int .i64 0]
theorem rtinfo : (Try.prog.info? 61).map (fun i => (i.zero, i.size, i.bytes)) = some (some (.agg zrt), 2, 24) := by kernel_rfl
/-- the document's clock -/
structure Rc (w : World) (R : Nat) (a : Option Addr) (c : Nat) (s : Cs) : Prop where
  c0 : w.cell? ⟨R, 0, none⟩ = some (.int .i64 s.now)
  c1 : w.cell? ⟨R, 1, none⟩ = some (.slice a s.r.length c)
  f : ∀ o, w.frozen? ⟨R, o, none⟩ = false
  row : w.ownsRow 0 61 2 (.slice a s.r.length c) s.r.length (rcells s.r)
  v1 : (Value.slice a s.r.length c).ownBlock ≠ some R
def Rb (R : Nat) (a : Option Addr) (k : Nat) : Prop := k = R ∨ (Value.slice a 0 0).ownBlock = some k
theorem rb_own {R : Nat} {a : Option Addr} {n c k : Nat} (h : (Value.slice a n c).ownBlock = some k) : Rb R a k := by
  refine .inr ?_
  cases a <;> simp_all [Value.ownBlock]
theorem own_rb {a : Option Addr} {n c k : Nat} (h : (Value.slice a 0 0).ownBlock = some k) : (Value.slice a n c).ownBlock = some k := by
  cases a <;> simp_all [Value.ownBlock]
/-- what a call on it leaves -/
def RMv (w : World) (R : Nat) (a : Option Addr) (s : Cs) (w' : World) : Prop := Chg (Rb R a) w w' ∧ ∃ a' c', Rc w' R a' c' s ∧ ∀ k, Rb R a' k → Rb R a k ∨ w.heap.size ≤ k
section
variable {w w' : World} {R : Nat} {a : Option Addr} {c : Nat} {s : Cs}
theorem Rc.ltR (h : Rc w R a c s) : R < w.heap.size := World.block_lt_of_cell? w _ h.c0
theorem Rc.lt (h : Rc w R a c s) : ∀ k, Rb R a k → k < w.heap.size := fun k hk => by
  rcases hk with rfl | hk
  · exact h.ltR
  · exact (h.row.lt k (own_rb hk)).2
theorem Rc.same (h : Rc w R a c s) (hb : ∀ k, Rb R a k → w'.heap[k]? = w.heap[k]?) : Rc w' R a c s := by
  have eR := hb R (.inl rfl)
  have cc : ∀ o, w'.cell? ⟨R, o, none⟩ = w.cell? ⟨R, o, none⟩ := fun o => World.cell?_of_block (a := ⟨R, o, none⟩) eR
  exact ⟨(cc 0).trans h.c0, (cc 1).trans h.c1, fun o => (World.frozen?_of_block (a := ⟨R, o, none⟩) eR).trans (h.f o), row_same h.row (fun k hk => hb k (rb_own hk)), h.v1⟩
theorem Rc.below (h : Rc w R a c s) (hb : Below w.heap.size w w') : Rc w' R a c s := h.same (fun k hk => hb.block k (h.lt k hk))
theorem Rc.far {M : Nat → Prop} (h : Rc w R a c s) (hc : Chg M w w') (hd : ∀ k, Rb R a k → ¬ M k) : Rc w' R a c s := h.same (fun k hk => hc.block k (h.lt k hk) (hd k hk))
theorem RMv.stay (h : Rc w R a c s) : RMv w R a s w := ⟨Chg.refl _ _, a, c, h, fun k hk => .inl hk⟩
theorem Rc.at (h : Rc w R a c s) {k : Nat} (hk : k < s.r.length) : ∃ b, a = some ⟨b, 0, none⟩ ∧ w.cell? ⟨b, k * 2, none⟩ = some (.string (g s.r k).name) ∧ w.cell? ⟨b, k * 2 + 1, none⟩ = some (.int .i64 (g s.r k).due) := by
  obtain ⟨_, ⟨e1, e2⟩ | ⟨b, cp, cur, e1, _⟩⟩ := id h.row
  · omega
  · obtain ⟨e3, e4⟩ : a = some ⟨b, 0, none⟩ ∧ c = cp := by simpa using e1
    have row := h.row
    rw [e3] at row
    have hc : ∀ j, j < 2 → w.cell? ⟨b, k * 2 + j, none⟩ = (g s.r k).pair[j]? := fun j hj => by
      rw [row.cellAt (k * 2 + j) (by omega)]
      exact rcells_at _ _ _ (g_some hk) j hj
    exact ⟨b, e3, (hc 0 (by omega)).trans rfl, (hc 1 (by omega)).trans rfl⟩
/-- its list made anew, or longer -/
theorem Rc.relist {w3 : World} {r' : List Tm} {a' : Option Addr} {c' : Nat} (h : Rc w R a c s) (hc : Chg (Rb R a) w w3) (hR : w3.heap[R]? = w.heap[R]?) (ho : w3.ownsRow 0 61 2 (.slice a' r'.length c') r'.length (rcells r')) (hn : ∀ k, Rb R a' k → k ≠ R → Rb R a k ∨ w.heap.size ≤ k) (hv : (Value.slice a' r'.length c').ownBlock ≠ some R) :
    RMv w R a ⟨s.now, s.sets, r'⟩ (w3.setCell ⟨R, 1, none⟩ (.slice a' r'.length c')) := by
  obtain ⟨w4, e4⟩ : ∃ w4, w4 = w3.setCell ⟨R, 1, none⟩ (.slice a' r'.length c') := ⟨_, rfl⟩
  have o4 : ∀ k, k ≠ R → w4.heap[k]? = w3.heap[k]? := fun k hk => by rw [e4]; exact Below.heap_setCell _ _ _ _ hk
  have cc : ∀ o, w3.cell? ⟨R, o, none⟩ = w.cell? ⟨R, o, none⟩ := fun o => World.cell?_of_block (a := ⟨R, o, none⟩) hR
  rw [← e4]
  refine ⟨by rw [e4]; exact hc.setCell (p := ⟨R, 1, none⟩) (.inl (.inl rfl)) _, a', c', ⟨?_, ?_, fun o => ?_, ?_, hv⟩, fun k hk => ?_⟩
  · rw [e4, World.cell?_setCell_other _ _ _ _ (by simp), cc]; exact h.c0
  · rw [e4]; exact World.cell?_setCell_same' _ _ _ (by rw [cc, h.c1]; rfl)
  · rw [e4, setCell_frozen]; exact (World.frozen?_of_block (a := ⟨R, o, none⟩) hR).trans (h.f o)
  · exact row_same ho (fun k hk => o4 k (fun e => hv (e ▸ hk)))
  · by_cases e : k = R
    · exact .inl (.inl e)
    · exact hn k hk e
end
/-! place -/
section
variable {w : World} {R : Nat} {a : Option Addr} {c : Nat} {s : Cs}
def plV (s : Cs) (o : Option Nat) : Int := match o with | some i => (i : Int) | none => -1
theorem rplace_any (h : Rc w R a c s) (h64 : s.r.length ≤ 64) (name : ByteArray) : ∃ o : Option Nat, ((∃ i, o = some i ∧ i < s.r.length ∧ (g s.r i).name = name) ∨ (o = none ∧ name ∉ names s.r)) ∧ Calls Try.prog 30 #[.pointer (some ⟨R, 0, none⟩), .string name] w fun e w' => e = .returned (.int .i64 (plV s o)) ∧ w' = w := by
  by_cases hx : ∃ i, i < s.r.length ∧ (g s.r i).name = name ∧ ∀ j, j < i → (g s.r j).name ≠ name
  · obtain ⟨i, hi, hn, hj⟩ := hx
    refine ⟨some i, .inl ⟨i, rfl, hi, hn⟩, ?_⟩
    show Calls Try.prog _ _ _ fun e w' => e = .returned (.int .i64 (i : Int)) ∧ w' = w
    have H := hide h
    have c1 := h.c1
    have HJ := hide hj
    have HN := hide hn
    clear h hj hn
    go_enter Try.func30, Try.ntmps30
    go_wp2_with fail
    go_loopw [5] (fun kv wr => ∃ k : Nat, k ≤ i ∧ kv = .int .i64 k ∧ Hid (w = wr)) (fun kv _ => i + 1 - (intOf kv).toNat)
    case atStart => exact ⟨0, Nat.zero_le _, rfl, rfl⟩
    case round =>
      obtain ⟨k, hk, rfl, HW⟩ := hrel
      obtain rfl := HW.out
      clear HW
      obtain ⟨b, rfl, k0, k1⟩ := H.out.at (k := k) (by omega)
      have j1 : (k : Int) < (s.r.length : Int) := by omega
      have j2 : (0 : Int) ≤ (k : Int) := by omega
      have e1 := str_eq (g s.r k).name name
      by_cases hki : k = i
      · subst hki
        rw [decide_eq_true HN.out] at e1
        go_wp2_with fail
        go_ret
        exact ⟨rfl, rfl⟩
      · rw [decide_eq_false (HJ.out k (by omega))] at e1
        go_wp2_with fail
        go_roundw
        case rel => exact ⟨k + 1, by omega, by go_num, trivial⟩
        case measure => simp [intOf]; omega
  · have none_ : ∀ i, i < s.r.length → (g s.r i).name ≠ name := by
      intro i
      induction i using Nat.strongRecOn with
      | _ i ih => exact fun hi e => hx ⟨i, hi, e, fun j hj => ih j hj (by omega)⟩
    refine ⟨none, .inr ⟨rfl, fun hm => ?_⟩, ?_⟩
    · obtain ⟨t, ht, e⟩ := List.mem_map.1 hm
      obtain ⟨i, hi, ei⟩ := List.getElem_of_mem ht
      exact none_ i hi (by rw [g_at hi, ei]; exact e)
    · show Calls Try.prog _ _ _ fun e w' => e = .returned (.int .i64 (-1)) ∧ w' = w
      have H := hide h
      have c1 := h.c1
      have HJ := hide none_
      clear h none_ hx
      go_enter Try.func30, Try.ntmps30
      go_wp2_with fail
      go_loopw [5] (fun kv wr => ∃ k : Nat, k ≤ s.r.length ∧ kv = .int .i64 k ∧ Hid (w = wr)) (fun kv _ => s.r.length - (intOf kv).toNat)
      case atStart => exact ⟨0, Nat.zero_le _, rfl, rfl⟩
      case round =>
        obtain ⟨k, hk, rfl, HW⟩ := hrel
        obtain rfl := HW.out
        clear HW
        by_cases hlt : k < s.r.length
        · obtain ⟨b, rfl, k0, k1⟩ := H.out.at hlt
          have j1 : (k : Int) < (s.r.length : Int) := by omega
          have j2 : (0 : Int) ≤ (k : Int) := by omega
          have e1 := str_eq (g s.r k).name name
          rw [decide_eq_false (HJ.out k hlt)] at e1
          go_wp2_with fail
          go_roundw
          case rel => exact ⟨k + 1, by omega, by go_num, trivial⟩
          case measure => simp [intOf]; omega
        · obtain rfl : k = s.r.length := by omega
          clear hlt hk
          go_wp2_with fail
          go_ret
          exact ⟨rfl, rfl⟩
end
end Go.Proofs.Ytoganfdpaagomaa
