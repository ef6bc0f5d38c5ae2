/- Lists of an acceptor's votes are short. No condition. -/
import Derived.Test.YtdnniokpkamjjabAccTell
namespace Go.Proofs.Ytdnniokpkamjjab
open Go.ChangeShapes Go.WideShapes Go.ChangeAt Go.RowKit B8 Am
set_option linter.unusedVariables false

theorem short_told {s : As} {l : List Vv} {w : World} {P : Nat → Prop} (hs : ∀ v ∈ s.vs, fitsB v = true) (hl : ∀ p ∈ l, p.vt ∈ s.vs) (hi : ∀ p ∈ l, p.In w P) : ∀ p ∈ l, p.m ≤ 140737488355328 := fun p hp => by
  have h1 := fits_len (hs _ (hl p hp))
  have h2 := (hi p hp).1.length
  have h3 : p.vt.b = p.b := rfl
  rw [h3] at h1
  omega
/-- the list that Votes tells -/
theorem told_short {w : World} {B : Nat} {a : Option Addr} {m c : Nat} {l : List Vv} {s : As} (h : Told w B a m c l) (hl : l.map Vv.vt = s.vs) (ok : Ok s) : m ≤ 9000000000000 ∧ ∀ p ∈ l, p.m ≤ 140737488355328 := by
  refine ⟨?_, short_told ok.each (fun p hp => by rw [← hl]; exact List.mem_map.2 ⟨p, hp, rfl⟩) h.vl.ins⟩
  have h1 := h.vl.len
  have h2 := length_le ok
  rw [← hl] at h2
  simp at h2
  omega
end Go.Proofs.Ytdnniokpkamjjab
