/- Frames and what is in them, as plain functions that the landed Frame and Unframe keep to; what was framed is found. Condition: the table of the half bytes holds its numbers. -/
import Derived.Test.YtgenfklbponodaaDoorCodecUnframe
namespace Go.Proofs.YtgenfklbponodaaDoor
namespace Uf
open Go.ChangeShapes Go.WideShapes Go.ChangeAt Go.RowKit B8
set_option linter.unusedVariables false

/-- what Unframe answers: the bytes, the frame's size, the fault -/
def unfA (bs : List Int) : List Int × Int × Int :=
  if bs.length < 8 then ([], 0, 20) else if 65536 < fwordV bs then ([], 0, 22) else if (bs.length : Int) < 8 + fwordV bs then ([], 0, 20)
  else if fwordV (bs.drop 4) = (fsum (bs.take 4 ++ (bs.drop 8).take (fwordV bs).toNat) : Nat) then ((bs.drop 8).take (fwordV bs).toNat, 8 + fwordV bs, 0) else ([], 0, 23)
def Unf (w : World) (bs : List Int) (e : Ending) (w' : World) : Prop :=
  ∃ a cp, e = .returned (.tuple #[.slice a (unfA bs).1.length cp, .int .i64 (unfA bs).2.1, .int .i64 (unfA bs).2.2]) ∧ Sq w' a (unfA bs).1.length cp (unfA bs).1 ∧ Below w.heap.size w w'
theorem sq_none (w : World) : Sq w none 0 0 [] := ⟨rfl, Nat.le_refl _, fun _ => rfl, fun h => absurd h (by omega), wfs_nil⟩
theorem unfA_len (bs : List Int) : (unfA bs).1.length ≤ bs.length := by
  unfold unfA
  split
  · exact Nat.zero_le _
  split
  · exact Nat.zero_le _
  split
  · exact Nat.zero_le _
  split
  · show (List.take _ (List.drop _ bs)).length ≤ _
    simp; omega
  · exact Nat.zero_le _

theorem unf_land {a : Option Addr} {len cap : Nat} {bs : List Int} {w : World} (h : Sq w a len cap bs) (ht : Tab w) (hm : len ≤ 140737488355328) :
    Calls Tryd.prog 6 #[.slice a len cap] w (Unf w bs) := by
  have hl := h.length
  unfold Unf unfA
  rw [hl]
  by_cases h0 : len < 8
  · rw [if_pos h0]
    refine (cunframe_short a len cap w h0).mono ?_
    rintro e w' ⟨rfl, b⟩
    exact ⟨none, 0, rfl, sq_none _, b⟩
  · rw [if_neg h0]
    obtain ⟨b, off, rfl, _⟩ := h.cells (by omega)
    have hb := fwordV_bd bs h.wf
    by_cases h1 : 65536 < fwordV bs
    · rw [if_pos h1]
      refine (cunframe_long h (by omega) h1).mono ?_
      rintro e w' ⟨rfl, b⟩
      exact ⟨none, 0, rfl, sq_none _, b⟩
    · rw [if_neg h1]
      by_cases h2 : (len : Int) < 8 + fwordV bs
      · rw [if_pos h2]
        refine (cunframe_less h (by omega) (by omega) h2).mono ?_
        rintro e w' ⟨rfl, b⟩
        exact ⟨none, 0, rfl, sq_none _, b⟩
      · rw [if_neg h2]
        have hn : fwordV bs = ((fwordV bs).toNat : Nat) := by omega
        refine (cunframe_some h ht (by omega) hm hn (by omega)).mono ?_
        rintro e w' ⟨h3, b⟩
        have hlen : ((bs.drop 8).take (fwordV bs).toNat).length = (fwordV bs).toNat := by simp; omega
        rcases h3 with ⟨hE, a', rfl, m⟩ | ⟨hE, rfl⟩
        · rw [if_pos hE]
          refine ⟨a', (fwordV bs).toNat, ?_, ?_, b⟩
          · show _ = Ending.returned (.tuple #[.slice a' ((bs.drop 8).take (fwordV bs).toNat).length (fwordV bs).toNat, .int .i64 (8 + fwordV bs), .int .i64 0])
            rw [hlen, show ((8 + (fwordV bs).toNat : Nat) : Int) = 8 + fwordV bs by omega]
          · show Sq w' a' ((bs.drop 8).take (fwordV bs).toNat).length _ ((bs.drop 8).take (fwordV bs).toNat)
            rw [hlen]
            exact m.sq
        · rw [if_neg hE]
          exact ⟨none, 0, rfl, sq_none _, b⟩

/-- a frame, or why there is none -/
def frameA (bs : List Int) : List Int × Int := if 65536 < bs.length then ([], 22) else (fframe bs, 0)
theorem frameA_len (bs : List Int) : (frameA bs).1.length ≤ 65544 := by
  unfold frameA
  split
  · exact Nat.zero_le _
  · show (fframe bs).length ≤ _
    rw [fframe_length]; omega
/-- what a Frame promises -/
def Framed (w : World) (bs : List Int) (e : Ending) (w' : World) : Prop :=
  ∃ a cp, e = .returned (.tuple #[.slice a (frameA bs).1.length cp, .int .i64 (frameA bs).2]) ∧ Sq w' a (frameA bs).1.length cp (frameA bs).1 ∧ Below w.heap.size w w'

theorem frame_land {a : Option Addr} {len cap : Nat} {bs : List Int} {w : World} (h : Sq w a len cap bs) (ht : Tab w) :
    Calls Tryd.prog 4 #[.slice a len cap] w (Framed w bs) := by
  have hl := h.length
  by_cases h0 : 65536 < len
  · have e : frameA bs = ([], 22) := if_pos (by rw [hl]; exact h0)
    unfold Framed
    rw [e]
    refine (cframe_long a len cap w h0).mono ?_
    rintro e w' ⟨rfl, rfl⟩
    exact ⟨none, 0, rfl, sq_none _, Below.refl _ _⟩
  · have e : frameA bs = (fframe bs, 0) := if_neg (by rw [hl]; exact h0)
    unfold Framed
    rw [e]
    refine (cframe_sq h ht (by omega)).mono ?_
    rintro e w' ⟨y, rfl, o, b⟩
    obtain ⟨a', cp', rfl, q⟩ := sq_of_row rfl (fframe_wfs bs h.wf (by omega)) o
    exact ⟨a', cp', rfl, q, b⟩

theorem fwordV_fword (v : Int) (h0 : 0 ≤ v) (h1 : v ≤ 4294967295) (r : List Int) : fwordV (fword v ++ r) = v := by
  unfold fwordV fword
  simp
  omega
theorem unfA_frame (bs hs : List Int) (hl : bs.length ≤ 65536) : unfA (fframe bs ++ hs) = (bs, 8 + (bs.length : Int), 0) := by
  have hs0 := fsum_lt (fword bs.length ++ bs)
  have e : fframe bs ++ hs = fword bs.length ++ (fword (fsum (fword bs.length ++ bs)) ++ (bs ++ hs)) := by unfold fframe; simp
  have l : (fframe bs ++ hs).length = bs.length + 8 + hs.length := by rw [List.length_append, fframe_length]
  have v : fwordV (fframe bs ++ hs) = bs.length := by rw [e]; exact fwordV_fword _ (by omega) (by omega) _
  have d4 : (fframe bs ++ hs).drop 4 = fword (fsum (fword bs.length ++ bs)) ++ (bs ++ hs) := by rw [e]; exact List.drop_left' rfl
  have t4 : (fframe bs ++ hs).take 4 = fword bs.length := by rw [e]; exact List.take_left' rfl
  have d8 : (fframe bs ++ hs).drop 8 = bs ++ hs := by
    rw [show (8 : Nat) = 4 + 4 from rfl, ← List.drop_drop, d4]; exact List.drop_left' rfl
  unfold unfA
  rw [l, v, d4, t4, d8, if_neg (by omega), if_neg (by omega), if_neg (by omega), Int.toNat_natCast, List.take_left' rfl, fwordV_fword _ (by omega) (by omega) _, if_pos rfl]
theorem unfA_cut (bs : List Int) (k : Nat) (hl : bs.length ≤ 65536) (hk : k < bs.length + 8) : unfA ((fframe bs).take k) = ([], 0, 20) := by
  have l : ((fframe bs).take k).length = k := by rw [List.length_take, fframe_length]; omega
  unfold unfA
  rw [l]
  by_cases h8 : k < 8
  · rw [if_pos h8]
  · rw [if_neg h8]
    have e : (fframe bs).take k = fword bs.length ++ (fword (fsum (fword bs.length ++ bs)) ++ bs).take (k - 4) := by
      unfold fframe
      rw [List.append_assoc, List.take_append, show (fword (bs.length : Int)).length = 4 from rfl, List.take_of_length_le (by show 4 ≤ k; omega)]
    have v : fwordV ((fframe bs).take k) = bs.length := by rw [e]; exact fwordV_fword _ (by omega) (by omega) _
    rw [v, if_neg (by omega), if_pos (by omega)]
end Uf
end Go.Proofs.YtgenfklbponodaaDoor
