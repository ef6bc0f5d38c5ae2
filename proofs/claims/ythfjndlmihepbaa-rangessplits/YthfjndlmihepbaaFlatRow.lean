/- Lists of flat structs, by their cells: what is known of them, what stays, what is opened. No condition. -/
import Derived.Test.YthfjndlmihepbaaChgMem
import Derived.Test.YthfjndlmihepbaaAppendWide
import Derived.Deep.Slices
import Derived.SizedLaws
import Derived.Laws.Rows
import Derived.Laws.Tables
namespace Go.Proofs.Ythfjndlmihepbaa
open Go.ChangeShapes Go.WideShapes Go.ChangeAt Go.RowKit
set_option linter.unusedVariables false

/-- how a thing lies: so many cells, each a value of its own -/
structure Flat {α : Type} (enc : α → List Value) (d : Nat) : Prop where
  size : ∀ x, (enc x).length = d
  one : ∀ x, ∀ v ∈ enc x, v.oneCell' = true
  pos : 0 < d
def fcells {α : Type} (enc : α → List Value) (l : List α) : List Value := l.flatMap enc
section
variable {α : Type} {enc : α → List Value} {d by_ : Nat}
theorem fcells_length (F : Flat enc d) : ∀ (l : List α), (fcells enc l).length = l.length * d
  | [] => by simp [fcells]
  | p :: r => by show (enc p ++ fcells enc r).length = _; rw [List.length_append, fcells_length F r, F.size, List.length_cons, Nat.add_mul]; omega
theorem fcells_append (l r : List α) : fcells enc (l ++ r) = fcells enc l ++ fcells enc r := by simp [fcells]
theorem fcells_one1 (x : α) : fcells enc [x] = enc x := by simp [fcells]
theorem fcells_at (F : Flat enc d) : ∀ (l : List α) (i : Nat) (p : α), l[i]? = some p → ∀ j, j < d → (fcells enc l)[i * d + j]? = (enc p)[j]?
  | [], i, p, hx, _, _ => by simp at hx
  | y :: r, 0, p, hx, j, hj => by
    simp at hx
    subst hx
    show (enc y ++ fcells enc r)[0 * d + j]? = _
    rw [List.getElem?_append_left (by rw [F.size]; omega)]
    simp
  | y :: r, i + 1, p, hx, j, hj => by
    show (enc y ++ fcells enc r)[(i + 1) * d + j]? = _
    rw [List.getElem?_append_right (by rw [F.size, Nat.add_mul]; omega), show (i + 1) * d + j - (enc y).length = i * d + j by rw [F.size, Nat.add_mul]; omega]
    exact fcells_at F r i p (by simpa using hx) j hj
theorem fcells_one (F : Flat enc d) (l : List α) : ∀ v ∈ fcells enc l, v.oneCell' = true := by
  intro v hv
  obtain ⟨p, _, hp⟩ := List.mem_flatMap.1 hv
  exact F.one p v hp
theorem fcells_take (F : Flat enc d) : ∀ (l : List α) (k : Nat), (fcells enc l).take (k * d) = fcells enc (l.take k)
  | [], k => by simp [fcells]
  | y :: r, 0 => by simp [fcells]
  | y :: r, k + 1 => by
    show (enc y ++ fcells enc r).take ((k + 1) * d) = enc y ++ fcells enc (r.take k)
    rw [List.take_append, F.size, show (k + 1) * d - d = k * d by rw [Nat.add_mul]; omega, fcells_take F r k, List.take_of_length_le (by rw [F.size, Nat.add_mul]; omega)]
theorem fcells_drop (F : Flat enc d) : ∀ (l : List α) (k : Nat), (fcells enc l).drop (k * d) = fcells enc (l.drop k)
  | [], k => by simp [fcells]
  | y :: r, 0 => by simp [fcells]
  | y :: r, k + 1 => by
    show (enc y ++ fcells enc r).drop ((k + 1) * d) = fcells enc (r.drop k)
    rw [List.drop_append, F.size, show (k + 1) * d - d = k * d by rw [Nat.add_mul]; omega, fcells_drop F r k, List.drop_of_length_le (by rw [F.size, Nat.add_mul]; omega), List.nil_append]

theorem range_same {w w' : World} {b o : Nat} {cs : List Value} (h : w.rangeAt b o cs) (e : w'.heap[b]? = w.heap[b]?) : w'.rangeAt b o cs := fun j v hv => (World.cell?_of_block (w := w) (w' := w') (a := ⟨b, o + j, none⟩) e).trans (h j v hv)
/-- the slice at a has these things, in the world w -/
structure Rl (enc : α → List Value) (d by_ : Nat) (w : World) (a : Option Addr) (n : Nat) (l : List α) : Prop where
  len : l.length = n
  cells : 0 < n → ∃ b off, a = some ⟨b, off, none⟩ ∧ b < w.heap.size ∧ ∀ j x, l[j]? = some x → w.rangeAt b (off + j * d) (enc x)
  room : n * by_ ≤ 140737488355328
theorem Rl.below {w w' : World} {a : Option Addr} {n : Nat} {l : List α} (h : Rl enc d by_ w a n l) (hb : Below w.heap.size w w') : Rl enc d by_ w' a n l :=
  ⟨h.len, fun h0 => by
    obtain ⟨b, off, e, hl, hc⟩ := h.cells h0
    exact ⟨b, off, e, Nat.lt_of_lt_of_le hl hb.size, fun j x hj => range_same (hc j x hj) (hb.block b hl)⟩, h.room⟩
theorem Rl.drew {w : World} {a : Option Addr} {n : Nat} {l : List α} (h : Rl enc d by_ w a n l) (k : Nat) : Rl enc d by_ (w.drewN k) a n l :=
  h.below ⟨rfl, rfl, rfl, Nat.le_refl _, fun _ _ => rfl⟩
theorem Rl.nil (w : World) : Rl enc d by_ w none 0 [] := ⟨rfl, fun h => absurd h (by omega), by omega⟩
theorem Rl.noAddr {w : World} {n : Nat} {l : List α} (h : Rl enc d by_ w none n l) : n = 0 ∧ l = [] := by
  have h0 : n = 0 := by
    rcases Nat.eq_zero_or_pos n with e | e
    · exact e
    · obtain ⟨b, off, e2, _⟩ := h.cells e
      cases e2
  exact ⟨h0, List.eq_nil_of_length_eq_zero (by rw [h.len, h0])⟩
/-- the cells of one of them -/
theorem Rl.at_ {w : World} {a : Option Addr} {n : Nat} {l : List α} (h : Rl enc d by_ w a n l) {k : Nat} (hk : k < n) : ∃ b off x, a = some ⟨b, off, none⟩ ∧ l[k]? = some x ∧ b < w.heap.size ∧ w.rangeAt b (off + k * d) (enc x) := by
  obtain ⟨b, off, e, hl, hc⟩ := h.cells (by omega)
  have hk2 : k < l.length := by rw [h.len]; exact hk
  exact ⟨b, off, l[k], e, List.getElem?_eq_getElem hk2, hl, hc k _ (List.getElem?_eq_getElem hk2)⟩
theorem Rl.news {w : World} {a : Option Addr} {n : Nat} {l : List α} (F : Flat enc d) (h : Rl enc d by_ w a n l) : ∀ ad, a = some ad → ∀ j u, (fcells enc l)[j]? = some u → w.cell? (ad.add j) = some u := by
  intro ad e j u hu
  have hj := (List.getElem?_eq_some_iff.1 hu).1
  rw [fcells_length F, h.len] at hj
  have hd := F.pos
  have h0 : 0 < n := by
    rcases Nat.eq_zero_or_pos n with e0 | e0
    · rw [e0] at hj; omega
    · exact e0
  obtain ⟨b, off, e2, _, hc⟩ := h.cells h0
  rw [e] at e2
  obtain rfl := Option.some.inj e2
  have hk : j / d < l.length := by rw [h.len]; exact (Nat.div_lt_iff_lt_mul hd).2 hj
  have hm : j / d * d + j % d = j := by rw [Nat.mul_comm]; exact Nat.div_add_mod j d
  have R := hc (j / d) _ (List.getElem?_eq_getElem hk) (j % d) u (by
    rw [← fcells_at F l (j / d) _ (List.getElem?_eq_getElem hk) (j % d) (Nat.mod_lt _ hd), hm]
    exact hu)
  rw [Nat.add_assoc, hm] at R
  rw [Addr.add_lit]
  exact R
/-- a row of the call's own can be read -/
theorem Rl.of_row {w : World} {B T : Nat} {a : Option Addr} {m c : Nat} {l : List α} (F : Flat enc d) (h : w.ownsRow B T d (.slice a m c) m (fcells enc l)) (hr : m * by_ ≤ 140737488355328) : Rl enc d by_ w a m l := by
  have hl : l.length = m := by
    have := h.1
    rw [fcells_length F] at this
    exact Nat.eq_of_mul_eq_mul_right F.pos this
  refine ⟨hl, fun h0 => ?_, hr⟩
  obtain ⟨_, ⟨e, e2⟩ | ⟨g, cp, cur, e, hB, hg, _⟩⟩ := id h
  · omega
  · obtain ⟨e1, e3⟩ : a = some ⟨g, 0, none⟩ ∧ c = cp := by simpa using e
    rw [e1] at h
    refine ⟨g, 0, e1, (Array.getElem?_eq_some_iff.1 hg).1, fun j p hj o v hv => ?_⟩
    have hjl : j < l.length := (List.getElem?_eq_some_iff.1 hj).1
    have ho : o < d := by
      have := (List.getElem?_eq_some_iff.1 hv).1
      rw [F.size] at this
      exact this
    have hlt : j * d + o < m * d := by
      have : (j + 1) * d ≤ m * d := Nat.mul_le_mul_right _ (by omega)
      rw [Nat.add_mul] at this
      omega
    rw [Nat.zero_add, h.cellAt (j * d + o) hlt, fcells_at F _ _ _ hj o ho]
    exact hv
/-- one of a row of the call's own is written over -/
theorem row_set {w : World} {B T g n c p : Nat} {l : List α} (F : Flat enc d) (h : w.ownsRow B T d (.slice (some ⟨g, 0, none⟩) n c) n (fcells enc l)) (hp : p < n) (x : α) :
    (w.setCells g (p * d) (enc x)).ownsRow B T d (.slice (some ⟨g, 0, none⟩) n c) n (fcells enc (l.set p x)) ∧ w.grownBy (w.setCells g (p * d) (enc x)) (some g) := by
  have hlen : l.length = n := by
    have := h.1
    rw [fcells_length F] at this
    exact Nat.eq_of_mul_eq_mul_right F.pos this
  obtain ⟨_, ⟨e, e2⟩ | ⟨g', cp, cur, e, hBg, hg, h5, h6, h7, h8⟩⟩ := id h
  · simp at e
  obtain ⟨rfl, rfl⟩ : g = g' ∧ c = cp := by simpa using e
  have hle : (p + 1) * d ≤ n * d := Nat.mul_le_mul_right _ (by omega)
  have hlc : n * d ≤ c * d := Nat.mul_le_mul_right _ h5
  rw [Nat.add_mul] at hle
  obtain ⟨cur', r1, r2, r3⟩ := setCells_at g T (enc x) (p * d) w cur hg (by rw [F.size]; omega)
  refine ⟨⟨by rw [fcells_length F]; simp [hlen], .inr ⟨g, c, cur', rfl, hBg, r1, h5, h6, by rw [r2, h7], ?_⟩⟩, setCells_grown g _ _ _⟩
  have hd := F.pos
  apply List.ext_getElem?
  intro j
  by_cases hj : j < n * d
  · have hm : j / d * d + j % d = j := by rw [Nat.mul_comm]; exact Nat.div_add_mod j d
    have hk : j / d < n := (Nat.div_lt_iff_lt_mul hd).2 hj
    have hml : j % d < d := Nat.mod_lt _ hd
    rw [List.getElem?_take, if_pos hj, Array.getElem?_toList, r3 j, F.size]
    have hR : ∀ y, (l.set p x)[j / d]? = some y → (fcells enc (l.set p x))[j]? = (enc y)[j % d]? := fun y hy => by
      have := fcells_at F _ _ _ hy (j % d) hml
      rw [hm] at this
      exact this
    by_cases e : j / d = p
    · rw [hR x (by rw [e]; simp [hlen, hp])]
      have h1 : p * d ≤ j := by rw [← e]; omega
      have h2 : j < p * d + d := by rw [← e]; omega
      have h3 : j - p * d = j % d := by rw [← e]; omega
      rw [if_pos ⟨h1, h2⟩, h3]
    · have hlk : j / d < l.length := by omega
      rw [hR l[j / d] (by rw [List.getElem?_set_ne (fun h => e h.symm)]; exact List.getElem?_eq_getElem hlk)]
      have h0 : ¬ (p * d ≤ j ∧ j < p * d + d) := fun hh => by
        have a1 : p ≤ j / d := (Nat.le_div_iff_mul_le hd).2 hh.1
        have a2 : j / d < p + 1 := (Nat.div_lt_iff_lt_mul hd).2 (by rw [Nat.add_mul]; omega)
        omega
      rw [if_neg h0]
      have h9 : (fcells enc l)[j]? = (enc l[j / d])[j % d]? := by
        have := fcells_at F l (j / d) _ (List.getElem?_eq_getElem hlk) (j % d) hml
        rw [hm] at this
        exact this
      rw [← h9, ← h8, List.getElem?_take, if_pos hj, Array.getElem?_toList]
  · rw [List.getElem?_eq_none (by simp; omega), List.getElem?_eq_none (by rw [fcells_length F]; simp [hlen]; omega)]
theorem row_mono {w : World} {B B' T n sz : Nat} {v : Value} {xs : List Value} (h : w.ownsRow B T sz v n xs) (hb : B' ≤ B) : w.ownsRow B' T sz v n xs := by
  obtain ⟨hl, h | ⟨g, cp, cur, h1, h2, h3⟩⟩ := h
  · exact ⟨hl, .inl h⟩
  · exact ⟨hl, .inr ⟨g, cp, cur, h1, Nat.le_trans hb h2, h3⟩⟩
theorem row_keeps {w w' : World} {B T n sz : Nat} {v : Value} {xs : List Value} (h : w.ownsRow B T sz v n xs) (hb : Below w.heap.size w w') : w'.ownsRow B T sz v n xs :=
  row_same h fun k hk => hb.block k (h.lt k hk).2
end

theorem results_cell_tmp' {P : Program} {fn : Func} {p q : Tmp} {ty : TypeId} (h : fn.results = #[.cell p ty, .tmp q]) (tmps : Array Value) (w : World) (g : Nat) (t : TypeId) (cs : Array Value) (fr : Nat × Nat) (d : TypeDesc) (x : Value)
    (hp : tmps.getD p undef = .pointer (some ⟨g, 0, none⟩)) (hq : tmps.getD q undef = x) (hg : w.heap[g]? = some (.cells cs t fr))
    (hu : P.underlying ty = some d) (hd : (match d with | .struct _ | .array _ _ => true | _ => false) = true) (hi : (P.info? ty).map (·.size) = some cs.size) :
    (results fn tmps).run P w = .ok (.tuple #[.agg cs, x]) w := by
  have hp' : tmps[p]?.getD undef = .pointer (some ⟨g, 0, none⟩) := by simpa using hp
  have hq' : tmps[q]?.getD undef = x := by simpa using hq
  simp [results, h, hp', hq', asAddr, run_loadVar_row w g t ty cs fr d hg hu hd hi]
/-- what is read is within the row's own bounds -/
def Lite {H : Type} (t : TypeId) (d : DataW H) : Prop := ∀ n ∈ d.weights Try.prog t, n ≤ reachBytes
theorem weights_all' {H : Type} {P : Program} {e : TypeId} : ∀ {l : List (DataW H)} {d : DataW H}, d ∈ l → ∀ n ∈ d.weights P e, n ∈ DataW.weightsAll P e l
  | x :: r, d, h, n, hn => by
    simp only [DataW.weightsAll, List.mem_append]
    rcases List.mem_cons.1 h with rfl | h
    · exact .inl hn
    · exact .inr (weights_all' h n hn)
section
variable {H : Type} {enc : TypeId × Value → H} {W : World} {b0 : Nat} {held : Bool} {m : Nat} {cs : List Value} {y : DataW H × List MemPlace}
set_option maxRecDepth 100000 in
/-- a row of structs of so many cells each that came in -/
theorem rd_flat6 {t e : TypeId} {size bytes : Nat} (ht : Try.prog.underlying t = some (.slice e)) (hc : Try.prog.cellsOf e = size) (hb : Try.prog.bytesOf e = bytes) {α : Type} [Inhabited α] {enc' : α → List Value} (F : Flat enc' size) (G : α → Prop)
    (hrd : ∀ (m : Nat) (cs : List Value) (y : DataW H × List MemPlace), DataW.trod enc Try.prog W b0 (fun _ => true) held m e cs = some y → Lite e y.1 → ∃ x : α, cs = enc' x ∧ G x)
    (h : DataW.trod enc Try.prog W b0 (fun _ => true) held m t cs = some y) (hl : Lite t y.1) :
    ∃ (a : Option Addr) (len cap : Nat) (l : List α), cs = [.slice a len cap] ∧ Rl enc' size bytes W a len l ∧ (∀ x ∈ l, G x) ∧ (a = none → cap = 0) ∧ len ≤ cap ∧ len * bytes ≤ 140737488351232 := by
  have h0 := F.pos
  have hlen := F.size
  rcases Go.Deep.open_slice ht h with ⟨hcs, _⟩ | ⟨x, len, cap, mm, n, D, Pl, hcs, hbb, hlc, hm, hmm, hx, hcell⟩
  · exact ⟨none, 0, 0, [], hcs, Rl.nil W, fun x hx => absurd hx (by simp), fun _ => rfl, Nat.le_refl _, by omega⟩
  · simp only [if_true] at hmm
    subst hmm
    have hd : y.1 = .slice ((List.range len).map D) ((List.range (mm - len)).map fun j => D (len + j)) := by rw [hx]
    have hlen2 : len * bytes ≤ 140737488351232 := by
      have := hl ((len + (mm - len)) * bytes) (by
        rw [hd]
        simp only [DataW.weights, ht]
        rw [hb]
        simp)
      have e : reachBytes = 140737488351232 := by decide
      exact Nat.le_trans (Nat.mul_le_mul_right _ (by omega)) (e ▸ this)
    have each : ∀ j, j < len → ∃ o : α, W.cells? b0 (x.add (j * size)) size = some (enc' o) ∧ G o := by
      intro j hj
      obtain ⟨cs', h1, h2⟩ := hcell j (by omega)
      rw [hc] at h1
      have lj : Lite e (D j) := fun q hq => hl q (by
        rw [hd]
        simp only [DataW.weights, ht]
        exact List.mem_cons_of_mem _ (List.mem_append_left _ (weights_all' (d := D j) (List.mem_map.2 ⟨j, List.mem_range.2 hj, rfl⟩) q hq)))
      obtain ⟨o, rfl, ho⟩ := hrd _ _ _ h2 lj
      exact ⟨o, h1, ho⟩
    have ex : ∃ f : Nat → α, ∀ j, j < len → W.cells? b0 (x.add (j * size)) size = some (enc' (f j)) ∧ G (f j) := ⟨fun j => if h : j < len then (each j h).choose else default, fun j hj => by simp only [dif_pos hj]; exact (each j hj).choose_spec⟩
    obtain ⟨f, hf⟩ := ex
    refine ⟨some x, len, _, (List.range len).map f, hcs, ⟨by simp, fun h00 => ?_, by omega⟩, fun z hz => ?_, (fun h => by cases h), hlc, hlen2⟩
    · obtain ⟨b, off, spot⟩ := x
      have hspot : spot = none := by
        have hc0 := (World.cells?_some (hf 0 h00).1).2.2 0 h0
        have h9 : 0 < (enc' (f 0)).length := by rw [hlen]; exact h0
        rw [List.getElem?_eq_getElem h9] at hc0
        simp [Addr.add] at hc0
        simpa using World.cell?_spot hc0
      subst hspot
      refine ⟨b, off, rfl, ?_, fun j z hj k v hk => ?_⟩
      · exact World.cells?_block (a := ⟨b, off, none⟩) (by simpa [Addr.add] using (hf 0 h00).1) h0
      · have hjl : j < len := by
          have := (List.getElem?_eq_some_iff.1 hj).1
          simpa using this
        have hz : f j = z := by simpa [List.getElem?_map, List.getElem?_range hjl] using hj
        subst hz
        obtain ⟨_, hl5, hc5⟩ := World.cells?_some (hf j hjl).1
        have hk5 : k < size := by
          have := (List.getElem?_eq_some_iff.1 hk).1
          rw [hlen] at this
          exact this
        have h6 := (hc5 k hk5).trans hk
        have e6 : ((⟨b, off, none⟩ : Addr).add (j * size)).add k = ⟨b, off + j * size + k, none⟩ := by rw [Addr.add_mid, Addr.add_mid]
        exact e6 ▸ h6
    · obtain ⟨j, hj, rfl⟩ := List.mem_map.1 hz
      exact (hf j (List.mem_range.1 hj)).2
theorem rd_flat5 {t e : TypeId} {size bytes : Nat} (ht : Try.prog.underlying t = some (.slice e)) (hc : Try.prog.cellsOf e = size) (hb : Try.prog.bytesOf e = bytes) {α : Type} [Inhabited α] {enc' : α → List Value} (F : Flat enc' size) (G : α → Prop)
    (hrd : ∀ (m : Nat) (cs : List Value) (y : DataW H × List MemPlace), DataW.trod enc Try.prog W b0 (fun _ => true) held m e cs = some y → Lite e y.1 → ∃ x : α, cs = enc' x ∧ G x)
    (h : DataW.trod enc Try.prog W b0 (fun _ => true) held m t cs = some y) (hl : Lite t y.1) :
    ∃ (a : Option Addr) (len cap : Nat) (l : List α), cs = [.slice a len cap] ∧ Rl enc' size bytes W a len l ∧ (∀ x ∈ l, G x) ∧ (a = none → cap = 0) ∧ len ≤ cap := by
  obtain ⟨a, len, cap, l, h1, h2, h3, h4, h5, _⟩ := rd_flat6 ht hc hb F G hrd h hl
  exact ⟨a, len, cap, l, h1, h2, h3, h4, h5⟩
theorem rd_flat {t e : TypeId} {size bytes : Nat} (ht : Try.prog.underlying t = some (.slice e)) (hc : Try.prog.cellsOf e = size) (hb : Try.prog.bytesOf e = bytes) {α : Type} [Inhabited α] {enc' : α → List Value} (F : Flat enc' size) (G : α → Prop)
    (hrd : ∀ (m : Nat) (cs : List Value) (y : DataW H × List MemPlace), DataW.trod enc Try.prog W b0 (fun _ => true) held m e cs = some y → Lite e y.1 → ∃ x : α, cs = enc' x ∧ G x)
    (h : DataW.trod enc Try.prog W b0 (fun _ => true) held m t cs = some y) (hl : Lite t y.1) :
    ∃ (a : Option Addr) (len cap : Nat) (l : List α), cs = [.slice a len cap] ∧ Rl enc' size bytes W a len l ∧ (∀ x ∈ l, G x) ∧ (a = none → cap = 0) := by
  obtain ⟨a, len, cap, l, h1, h2, h3, h4, _⟩ := rd_flat5 ht hc hb F G hrd h hl
  exact ⟨a, len, cap, l, h1, h2, h3, h4⟩
set_option maxRecDepth 100000 in
theorem rd_fields {t : TypeId} {fs : Array Field} (hu : Try.prog.underlying t = some (.struct fs)) (h : DataW.trod enc Try.prog W b0 (fun _ => true) held m t cs = some y) (hl : Lite t y.1) :
    ∃ k, cs.length = Try.prog.cellsOf t ∧ ∀ (i : Nat) (f : Field), fs[i]? = some f → ∃ z : DataW H × List MemPlace, DataW.trod enc Try.prog W b0 (fun _ => true) held k f.type ((cs.drop f.offset).take (Try.prog.cellsOf f.type)) = some z ∧ Lite f.type z.1 := by
  obtain ⟨xs, k, rfl, hy, hc, hx, hf⟩ := DataW.trod_struct hu h
  refine ⟨k, hc, fun i f hi => ?_⟩
  have hlt : i < xs.length := by rw [hx]; exact (Array.getElem?_eq_some_iff.1 hi).1
  refine ⟨xs[i], by rw [hf i f hi]; exact List.getElem?_eq_getElem hlt, fun n hn => hl n ?_⟩
  rw [hy]
  show n ∈ DataW.weights Try.prog t (.agg (xs.map (·.1)))
  simp only [DataW.weights, hu]
  exact DataW.weights_mem_each (j := i) (t := f.type) (d := xs[i].1) (by rw [List.getElem?_map]; simp [hi]) (by rw [List.getElem?_map, List.getElem?_eq_getElem hlt]; rfl) n hn
/-- a field that is an int, a bool -/
theorem fd_int {t : TypeId} {k : IntKind} (hu : Try.prog.underlying t = some (.int k)) (h : DataW.trod enc Try.prog W b0 (fun _ => true) held m t cs = some y) : ∃ n : Int, cs = [.int k n] ∧ (Lit.int k n).wf = true := by
  obtain ⟨n, e, _, hw⟩ := DataW.trod_int hu h
  exact ⟨n, e, hw⟩
theorem fd_bool {t : TypeId} (hu : Try.prog.underlying t = some .bool) (h : DataW.trod enc Try.prog W b0 (fun _ => true) held m t cs = some y) : ∃ b : Bool, cs = [.bool b] := by
  obtain ⟨b, e, _⟩ := DataW.trod_bool hu h
  exact ⟨b, e⟩
end
end Go.Proofs.Ythfjndlmihepbaa
