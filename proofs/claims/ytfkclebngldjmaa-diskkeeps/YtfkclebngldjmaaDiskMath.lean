/- A disk as plain lists: what is kept, what waits, and what each call makes of it. No condition. -/
import Derived.Test.YtfkclebngldjmaaSq8
namespace Go.Proofs.Ytfkclebngldjmaa
namespace Dm
open B8
set_option linter.unusedVariables false

/-- a disk: its blocks, what waits, how far off the hit is, whether it is down -/
structure Ds where
  n : Nat
  kept : Nat → List Int
  ws : List (Nat × List Int)
  left : Int
  down : Bool

/-- a block of bytes -/
def Blk (bs : List Int) : Prop := bs.length = 64 ∧ wfs bs
/-- one block written -/
def upd (k : Nat → List Int) (x : Nat × List Int) : Nat → List Int := fun i => if i = x.1 then x.2 else k i
/-- all that waits written -/
def over (k : Nat → List Int) (ws : List (Nat × List Int)) : Nat → List Int := ws.foldl upd k
structure Ok (s : Ds) : Prop where
  lo : 1 ≤ s.n
  hi : s.n ≤ 16384
  kept : ∀ i, i < s.n → Blk (s.kept i)
  ws : ∀ x ∈ s.ws, x.1 < s.n ∧ Blk x.2
  left0 : 0 ≤ s.left
  left1 : s.left ≤ 9223372036854775807

theorem over_snoc (k : Nat → List Int) (ws : List (Nat × List Int)) (x : Nat × List Int) : over k (ws ++ [x]) = upd (over k ws) x := by
  unfold over; rw [List.foldl_append]; rfl
theorem over_nil (k : Nat → List Int) : over k [] = k := rfl
theorem upd_blk {k : Nat → List Int} {n : Nat} {x : Nat × List Int} (h : ∀ i, i < n → Blk (k i)) (hx : Blk x.2) : ∀ i, i < n → Blk (upd k x i) := fun i hi => by
  unfold upd
  split
  · exact hx
  · exact h i hi
theorem over_blk {n : Nat} : ∀ (ws : List (Nat × List Int)) {k : Nat → List Int}, (∀ i, i < n → Blk (k i)) → (∀ x ∈ ws, Blk x.2) → ∀ i, i < n → Blk (over k ws i)
  | [], _, h, _ => h
  | x :: r, _, h, hw => over_blk r (upd_blk h (hw x (by simp))) (fun y hy => hw y (by simp [hy]))
theorem over_far : ∀ (ws : List (Nat × List Int)) (k : Nat → List Int) (i : Nat), (∀ x ∈ ws, x.1 ≠ i) → over k ws i = k i
  | [], _, _, _ => rfl
  | x :: r, k, i, h => by
    show over (upd k x) r i = k i
    rw [over_far r (upd k x) i (fun y hy => h y (by simp [hy]))]
    unfold upd
    rw [if_neg (fun e => h x (by simp) e.symm)]
theorem Ok.shown {s : Ds} (h : Ok s) : ∀ i, i < s.n → Blk (over s.kept s.ws i) := over_blk s.ws h.kept (fun x hx => (h.ws x hx).2)

/-- is it up, and is there such a block? -/
def reachE (s : Ds) (at_ : Int) : Int := if s.down then 40 else if at_ < 0 ∨ (s.n : Int) ≤ at_ then 41 else 0
/-- a Write or Sync is counted -/
def hitS (s : Ds) : Ds := if s.left = 0 then s else { s with left := s.left - 1, down := decide (s.left - 1 = 0) }
def hitE (s : Ds) : Int := if s.left = 0 then 0 else if s.left - 1 = 0 then 40 else 0
def writeE (s : Ds) (at_ : Int) (bs : List Int) : Int := if reachE s at_ ≠ 0 then reachE s at_ else if bs.length ≠ 64 then 1 else hitE s
def writeS (s : Ds) (at_ : Int) (bs : List Int) : Ds := if reachE s at_ ≠ 0 then s else if bs.length ≠ 64 then s else hitS { s with ws := s.ws ++ [(at_.toNat, bs)] }
def syncE (s : Ds) : Int := if s.down then 40 else hitE s
def syncS (s : Ds) : Ds := if s.down then s else if hitE s ≠ 0 then hitS s else { hitS s with kept := over s.kept s.ws, ws := [] }
def armE (s : Ds) : Int := if s.down then 40 else 0
def armS (s : Ds) (n : Int) : Ds := if s.down then s else { s with left := if 0 < n then n else 0 }
/-- how many first bytes of the i-th write are kept -/
def kn (keep : List Int) (i : Nat) : Nat := min (keep[i]?.getD 0).toNat 64
/-- of a block so many first bytes are the write's -/
def tornB (old new : List Int) (n : Nat) : List Int := new.take n ++ old.drop n
def torn1 (k : Nat → List Int) (x : Nat × List Int) (n : Nat) : Nat → List Int := upd k (x.1, tornB (k x.1) x.2 n)
/-- what a fall keeps of what waits, the first write's number being i -/
def torn (k : Nat → List Int) (keep : List Int) : Nat → List (Nat × List Int) → (Nat → List Int)
  | _, [] => k
  | i, x :: r => torn (torn1 k x (kn keep i)) keep (i + 1) r
def crashS (s : Ds) (keep : List Int) : Ds := { s with kept := torn s.kept keep 0 s.ws, ws := [], down := true }
def startS (s : Ds) : Ds := if s.down then { s with ws := [], left := 0, down := false } else s
def newS (n : Nat) : Ds := ⟨n, fun _ => List.replicate 64 0, [], 0, false⟩
theorem wfs_zeros (n : Nat) : wfs (List.replicate n 0) := fun j => by
  rw [List.getElem?_replicate]
  split <;> decide
theorem newS_ok {n : Nat} (h1 : 1 ≤ n) (h2 : n ≤ 16384) : Ok (newS n) := ⟨h1, h2, fun _ _ => ⟨by simp [newS], wfs_zeros 64⟩, fun x hx => by simp [newS] at hx, by simp [newS], by simp [newS]⟩
theorem torn_snoc (keep : List Int) (x : Nat × List Int) : ∀ (ws : List (Nat × List Int)) (k : Nat → List Int) (i : Nat), torn k keep i (ws ++ [x]) = torn1 (torn k keep i ws) x (kn keep (i + ws.length))
  | [], _, _ => by simp [torn]
  | y :: r, k, i => by
    show torn (torn1 k y (kn keep i)) keep (i + 1) (r ++ [x]) = torn1 (torn (torn1 k y (kn keep i)) keep (i + 1) r) x _
    rw [torn_snoc keep x r, List.length_cons, show i + 1 + r.length = i + (r.length + 1) by omega]
theorem tornB_blk {old new : List Int} (h : Blk old) (h' : Blk new) (n : Nat) (hn : n ≤ 64) : Blk (tornB old new n) :=
  ⟨by unfold tornB; have := h.1; have := h'.1; simp; omega, wfs_append (wfs_take h'.2 n) (wfs_drop h.2 n)⟩
theorem kn_le (keep : List Int) (i : Nat) : kn keep i ≤ 64 := Nat.min_le_right _ _
theorem torn1_blk {k : Nat → List Int} {n : Nat} {x : Nat × List Int} (h : ∀ i, i < n → Blk (k i)) (hx : x.1 < n ∧ Blk x.2) (m : Nat) (hm : m ≤ 64) : ∀ i, i < n → Blk (torn1 k x m i) :=
  upd_blk h (tornB_blk (h x.1 hx.1) hx.2 m hm)
theorem torn_blk {n : Nat} (keep : List Int) : ∀ (ws : List (Nat × List Int)) {k : Nat → List Int} (i : Nat), (∀ i, i < n → Blk (k i)) → (∀ x ∈ ws, x.1 < n ∧ Blk x.2) → ∀ j, j < n → Blk (torn k keep i ws j)
  | [], _, _, h, _ => h
  | x :: r, _, i, h, hw => torn_blk keep r (i + 1) (torn1_blk h (hw x (by simp)) _ (kn_le _ _)) (fun y hy => hw y (by simp [hy]))
theorem torn_far (keep : List Int) : ∀ (ws : List (Nat × List Int)) (k : Nat → List Int) (i j : Nat), (∀ x ∈ ws, x.1 ≠ j) → torn k keep i ws j = k j
  | [], _, _, _, _ => rfl
  | x :: r, k, i, j, h => by
    show torn (torn1 k x (kn keep i)) keep (i + 1) r j = k j
    rw [torn_far keep r _ _ j (fun y hy => h y (by simp [hy]))]
    unfold torn1 upd
    rw [if_neg (fun e => h x (by simp) e.symm)]
/-- nothing is kept where no number says so -/
theorem kn_past {keep : List Int} {i : Nat} (h : keep.length ≤ i) : kn keep i = 0 := by unfold kn; rw [List.getElem?_eq_none h]; rfl
theorem torn1_zero (k : Nat → List Int) (x : Nat × List Int) : torn1 k x 0 = k := by
  funext i
  unfold torn1 upd tornB
  split
  · simp_all
  · rfl
theorem torn_past (keep : List Int) : ∀ (ws : List (Nat × List Int)) (k : Nat → List Int) (i : Nat), keep.length ≤ i → torn k keep i ws = k
  | [], _, _, _ => rfl
  | x :: r, k, i, h => by
    show torn (torn1 k x (kn keep i)) keep (i + 1) r = k
    rw [kn_past h, torn1_zero, torn_past keep r k (i + 1) (by omega)]
theorem torn_append (keep : List Int) : ∀ (ws us : List (Nat × List Int)) (k : Nat → List Int) (i : Nat), torn k keep i (ws ++ us) = torn (torn k keep i ws) keep (i + ws.length) us
  | [], _, _, _ => by simp [torn]
  | x :: r, us, k, i => by
    show torn (torn1 k x (kn keep i)) keep (i + 1) (r ++ us) = torn (torn (torn1 k x (kn keep i)) keep (i + 1) r) keep _ us
    rw [torn_append keep r us, List.length_cons, show i + 1 + r.length = i + (r.length + 1) by omega]
/-- the first of them are all that count -/
theorem torn_take (keep : List Int) (ws : List (Nat × List Int)) (k : Nat → List Int) (m : Nat) (hm : m = min keep.length ws.length) : torn k keep 0 ws = torn k keep 0 (ws.take m) := by
  conv => lhs; rw [← List.take_append_drop m ws]
  rw [torn_append]
  by_cases h : m = keep.length
  · rw [torn_past keep _ _ _ (by simp; omega)]
  · rw [List.drop_eq_nil_of_le (by omega)]; rfl

theorem hitS_ok {s : Ds} (h : Ok s) : Ok (hitS s) := by
  unfold hitS
  split
  · exact h
  · exact ⟨h.lo, h.hi, h.kept, h.ws, by show 0 ≤ s.left - 1; have := h.left0; omega, by show s.left - 1 ≤ _; have := h.left1; omega⟩
theorem push_ok {s : Ds} (h : Ok s) {i : Nat} {bs : List Int} (hi : i < s.n) (hb : Blk bs) : Ok { s with ws := s.ws ++ [(i, bs)] } :=
  ⟨h.lo, h.hi, h.kept, fun x hx => by rcases List.mem_append.1 hx with h1 | h1; exact h.ws x h1; simp at h1; subst h1; exact ⟨hi, hb⟩, h.left0, h.left1⟩
theorem crashS_ok {s : Ds} (h : Ok s) (keep : List Int) : Ok (crashS s keep) := ⟨h.lo, h.hi, torn_blk keep s.ws 0 h.kept h.ws, fun x hx => by simp [crashS] at hx, h.left0, h.left1⟩
end Dm
end Go.Proofs.Ytfkclebngldjmaa
