/- A net as a plain value: nodes, packets under way, pairs that are cut; what each call makes of it. No condition. -/
import Derived.Test.YtjbonklgklldmaaBase
namespace Go.Proofs.Ytjbonklgklldmaa
namespace Nm
set_option linter.unusedVariables false

/-- a packet -/
structure Pk where
  f : Int
  t : Int
  b : List Int
/-- a net -/
structure Ns where
  n : Nat
  ps : List Pk
  cuts : List (Int × Int)
def hasB (s : Ns) (x : Int) : Bool := decide (1 ≤ x ∧ x ≤ (s.n : Int))
def apartB (s : Ns) (a b : Int) : Bool := s.cuts.any fun p => decide (p = (a, b)) || decide (p = (b, a))
def badB (s : Ns) (f t : Int) (n : Nat) : Bool := !(hasB s f) || !(hasB s t) || decide (16384 < n)
def sendE (s : Ns) (f t : Int) (b : List Int) : Int := if badB s f t b.length = true then 1 else if apartB s f t = true then 0 else if 256 ≤ s.ps.length then 3 else 0
def sendS (s : Ns) (f t : Int) (b : List Int) : Ns := if badB s f t b.length = true then s else if apartB s f t = true then s else if 256 ≤ s.ps.length then s else { s with ps := s.ps ++ [⟨f, t, b⟩] }
def reachE (s : Ns) (i : Int) : Int := if i < 0 ∨ (s.ps.length : Int) ≤ i then 60 else 0
def takeS (s : Ns) (i : Int) : Ns := if reachE s i = 0 then { s with ps := s.ps.eraseIdx i.toNat } else s
def zPk : Pk := ⟨0, 0, []⟩
def takeP (s : Ns) (i : Int) : Pk := if reachE s i = 0 then s.ps.getD i.toNat zPk else zPk
def dblE (s : Ns) (i : Int) : Int := if reachE s i ≠ 0 then reachE s i else if 256 ≤ s.ps.length then 3 else 0
def dblS (s : Ns) (i : Int) : Ns := if dblE s i = 0 then { s with ps := s.ps ++ [s.ps.getD i.toNat zPk] } else s
def cutE (s : Ns) (a b : Int) : Int := if !(hasB s a) || !(hasB s b) || decide (a = b) then 1 else 0
def cutS (s : Ns) (a b : Int) : Ns := if cutE s a b = 0 then { s with cuts := s.cuts ++ [(a, b)] } else s
def healS (s : Ns) : Ns := { s with cuts := [] }
def newS (n : Nat) : Ns := ⟨n, [], []⟩

structure Ok (s : Ns) : Prop where
  lo : 1 ≤ s.n
  hi : s.n ≤ 5
  most : s.ps.length ≤ 256
  body : ∀ p ∈ s.ps, p.b.length ≤ 16384
theorem newS_ok {n : Nat} (h1 : 1 ≤ n) (h2 : n ≤ 5) : Ok (newS n) := ⟨h1, h2, by simp [newS], by simp [newS]⟩
theorem sendS_ok {s : Ns} (h : Ok s) (f t : Int) (b : List Int) : Ok (sendS s f t b) := by
  unfold sendS
  split
  · exact h
  · split
    · exact h
    · split
      · exact h
      · rename_i hb _ hm
        refine ⟨h.lo, h.hi, by simp; omega, fun p hp => ?_⟩
        simp at hp
        rcases hp with hp | rfl
        · exact h.body p hp
        · simp only [badB, Bool.or_eq_true, decide_eq_true_eq, not_or] at hb
          show b.length ≤ 16384
          omega
theorem takeS_ok {s : Ns} (h : Ok s) (i : Int) : Ok (takeS s i) := by
  unfold takeS
  split
  · exact ⟨h.lo, h.hi, Nat.le_trans (List.length_eraseIdx_le _ _) h.most, fun p hp => h.body p (List.mem_of_mem_eraseIdx hp)⟩
  · exact h
theorem mem_getD {α : Type} (l : List α) (k : Nat) (d : α) (h : k < l.length) : l.getD k d ∈ l := by
  simp [List.getD, h]
theorem reach_lt {s : Ns} {i : Int} (h : reachE s i = 0) : 0 ≤ i ∧ i.toNat < s.ps.length := by
  unfold reachE at h
  split at h
  · omega
  · omega
theorem dbl_lt {s : Ns} {i : Int} (h : dblE s i = 0) : reachE s i = 0 ∧ s.ps.length < 256 := by
  unfold dblE at h
  split at h
  · rename_i h1; exact absurd h h1
  · rename_i h1
    split at h
    · omega
    · rename_i h2
      exact ⟨by omega, by omega⟩
theorem dblS_ok {s : Ns} (h : Ok s) (i : Int) : Ok (dblS s i) := by
  unfold dblS
  split
  · rename_i h0
    obtain ⟨h1, h2⟩ := dbl_lt h0
    refine ⟨h.lo, h.hi, by simp; omega, fun p hp => ?_⟩
    rcases List.mem_append.1 hp with hp | hp
    · exact h.body p hp
    · rw [List.mem_singleton.1 hp]
      exact h.body _ (mem_getD _ _ _ (reach_lt h1).2)
  · exact h
theorem cutS_ok {s : Ns} (h : Ok s) (a b : Int) : Ok (cutS s a b) := by
  unfold cutS
  split
  · exact ⟨h.lo, h.hi, h.most, h.body⟩
  · exact h
theorem healS_ok {s : Ns} (h : Ok s) : Ok (healS s) := ⟨h.lo, h.hi, h.most, h.body⟩
end Nm
end Go.Proofs.Ytjbonklgklldmaa
