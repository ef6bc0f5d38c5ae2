/- Bytes of which bits are turned, as lists; a frame of which bits are turned within 32 neighbouring ones is refused: plain functions. -/
import Derived.Test.YtgenfklbponodaaDoorCodecUnfA
namespace Go.Proofs.YtgenfklbponodaaDoor
namespace Uf
open Go.ChangeShapes Go.WideShapes Go.ChangeAt Go.RowKit B8
set_option linter.unusedVariables false

theorem flip_all : ∀ x, x < 256 → ∀ q, q < 8 → ∀ i, i < 8 → (x ^^^ 2 ^ q) / 2 ^ i % 2 = if i = q then 1 - x / 2 ^ q % 2 else x / 2 ^ i % 2 := by decide +kernel
theorem flip_lt : ∀ x, x < 256 → ∀ q, q < 8 → x ^^^ 2 ^ q < 256 := by decide +kernel
def byteOf (f : Nat → Nat) : Nat := f 0 + 2 * f 1 + 4 * f 2 + 8 * f 3 + 16 * f 4 + 32 * f 5 + 64 * f 6 + 128 * f 7
theorem byte_bits : ∀ x, x < 256 → byteOf (fun i => x / 2 ^ i % 2) = x := by decide +kernel

/-- bit p turned -/
def flipAt (G : List Int) (p : Nat) : List Int := G.set (p / 8) (((G[p / 8]?.getD 0).toNat ^^^ 2 ^ (p % 8) : Nat) : Int)
theorem flip_length (G : List Int) (p : Nat) : (flipAt G p).length = G.length := by unfold flipAt; simp
theorem flip_get (G : List Int) (p j : Nat) (hp : p / 8 < G.length) : (flipAt G p)[j]?.getD 0 = if j = p / 8 then (((G[p / 8]?.getD 0).toNat ^^^ 2 ^ (p % 8) : Nat) : Int) else G[j]?.getD 0 := by
  unfold flipAt
  by_cases e : j = p / 8
  · subst e
    rw [if_pos rfl, List.getElem?_set_self hp]
    rfl
  · rw [if_neg e, List.getElem?_set_ne (fun h => e h.symm)]
theorem flip_wfs (G : List Int) (p : Nat) (hz : wfs G) (hp : p / 8 < G.length) : wfs (flipAt G p) := by
  intro j
  rw [flip_get G p j hp]
  split
  · have z := bounds_u8 (hz (p / 8))
    have := flip_lt (G[p / 8]?.getD 0).toNat (by omega) (p % 8) (by omega)
    exact WalkArith.wf_u8 (by omega)
  · exact hz j
theorem flip_bit (G : List Int) (p j : Nat) (hz : wfs G) (hp : p / 8 < G.length) : fbit (flipAt G p) j = if j = p then 1 - fbit G p else fbit G j := by
  have z := bounds_u8 (hz (p / 8))
  unfold fbit
  rw [flip_get G p (j / 8) hp]
  by_cases e : j / 8 = p / 8
  · rw [if_pos e, Int.toNat_natCast, flip_all _ (by omega) (p % 8) (by omega) (j % 8) (by omega)]
    by_cases e2 : j = p
    · subst e2; rw [if_pos rfl, if_pos rfl]
    · rw [if_neg (by omega), if_neg e2, e]
  · rw [if_neg e, if_neg (fun h => e (by rw [h]))]

theorem byteOf_congr (f g : Nat → Nat) (h : ∀ k, k < 8 → f k = g k) : byteOf f = byteOf g := by
  unfold byteOf
  rw [h 0 (by omega), h 1 (by omega), h 2 (by omega), h 3 (by omega), h 4 (by omega), h 5 (by omega), h 6 (by omega), h 7 (by omega)]
theorem byte_eq (G F : List Int) (hg : wfs G) (hf : wfs F) (i : Nat) (h : ∀ k, k < 8 → fbit G (8 * i + k) = fbit F (8 * i + k)) : G[i]?.getD 0 = F[i]?.getD 0 := by
  have zg := bounds_u8 (hg i)
  have zf := bounds_u8 (hf i)
  have e : ∀ (B : List Int) (k : Nat), k < 8 → fbit B (8 * i + k) = (B[i]?.getD 0).toNat / 2 ^ k % 2 := fun B k hk => by
    unfold fbit; rw [show (8 * i + k) / 8 = i by omega, show (8 * i + k) % 8 = k by omega]
  have bg := byte_bits (G[i]?.getD 0).toNat (by omega)
  have bf := byte_bits (F[i]?.getD 0).toNat (by omega)
  have h' : ∀ k, k < 8 → (G[i]?.getD 0).toNat / 2 ^ k % 2 = (F[i]?.getD 0).toNat / 2 ^ k % 2 := fun k hk => by rw [← e G k hk, ← e F k hk]; exact h k hk
  have : (G[i]?.getD 0).toNat = (F[i]?.getD 0).toNat := by
    rw [← bg, ← bf]
    exact byteOf_congr _ _ h'
  omega
theorem list_eq (G F : List Int) (hl : G.length = F.length) (h : ∀ i, i < F.length → G[i]?.getD 0 = F[i]?.getD 0) : G = F := by
  apply List.ext_getElem hl
  intro i h1 h2
  have := h i h2
  rw [List.getElem?_eq_getElem h1, List.getElem?_eq_getElem h2] at this
  exact this

/-- G is F with bits turned: those from A on, k at most, below E, that the mask names -/
structure Turned (F G : List Int) (A E mask k : Nat) (some : Bool) : Prop where
  length : G.length = F.length
  wf : wfs G
  bits : ∀ j, fbit G j = if A ≤ j ∧ j < A + k ∧ j < E ∧ mask / 2 ^ (j - A) % 2 = 1 then 1 - fbit F j else fbit F j
  any : some = true ↔ ∃ i, i < k ∧ A + i < E ∧ mask / 2 ^ i % 2 = 1

theorem turned_none (F : List Int) (hf : wfs F) (A E mask : Nat) : Turned F F A E mask 0 false :=
  ⟨rfl, hf, fun j => by rw [if_neg (by omega)], by simp⟩
theorem turned_skip {F G : List Int} {A E mask k : Nat} {s : Bool} (h : Turned F G A E mask k s) (hm : ¬ mask / 2 ^ k % 2 = 1) : Turned F G A E mask (k + 1) s := by
  refine ⟨h.length, h.wf, fun j => ?_, ?_⟩
  · rw [h.bits j]
    by_cases e : j = A + k
    · subst e
      rw [if_neg (by omega), if_neg (by rw [Nat.add_sub_cancel_left]; omega)]
    · by_cases c : A ≤ j ∧ j < A + k ∧ j < E ∧ mask / 2 ^ (j - A) % 2 = 1
      · rw [if_pos c, if_pos ⟨c.1, by omega, c.2.2⟩]
      · rw [if_neg c, if_neg (fun d => c ⟨d.1, by omega, d.2.2⟩)]
  · rw [h.any]
    constructor
    · rintro ⟨i, h1, h2⟩; exact ⟨i, by omega, h2⟩
    · rintro ⟨i, h1, h2, h3⟩
      by_cases e : i = k
      · subst e; exact absurd h3 hm
      · exact ⟨i, by omega, h2, h3⟩
theorem turned_flip {F G : List Int} {A E mask k : Nat} {s : Bool} (h : Turned F G A E mask k s) (hm : mask / 2 ^ k % 2 = 1) (hE : A + k < E) (hp : (A + k) / 8 < G.length) : Turned F (flipAt G (A + k)) A E mask (k + 1) true := by
  refine ⟨by rw [flip_length]; exact h.length, flip_wfs G _ h.wf hp, fun j => ?_, ?_⟩
  · rw [flip_bit G _ j h.wf hp]
    by_cases e : j = A + k
    · subst e
      rw [if_pos rfl, h.bits (A + k), if_neg (by omega), if_pos ⟨by omega, by omega, hE, by rw [Nat.add_sub_cancel_left]; exact hm⟩]
    · rw [if_neg e, h.bits j]
      by_cases c : A ≤ j ∧ j < A + k ∧ j < E ∧ mask / 2 ^ (j - A) % 2 = 1
      · rw [if_pos c, if_pos ⟨c.1, by omega, c.2.2⟩]
      · rw [if_neg c, if_neg (fun d => c ⟨d.1, by omega, d.2.2⟩)]
  · exact ⟨fun _ => ⟨k, by omega, hE, hm⟩, fun _ => rfl⟩

theorem turned_same {F G : List Int} {A E mask k : Nat} (hf : wfs F) (h : Turned F G A E mask k false) : G = F := by
  refine list_eq G F h.length (fun i _ => byte_eq G F h.wf hf i (fun q hq => ?_))
  rw [h.bits, if_neg]
  rintro ⟨c1, c2, c3, c4⟩
  have : false = true := h.any.2 ⟨8 * i + q - A, by omega, by omega, c4⟩
  cases this
theorem fbit_cases (F : List Int) (j : Nat) : 1 - fbit F j ≠ fbit F j := by have := fbit_le F j; omega

theorem fbit_mid (B : List Int) (hB : 8 ≤ B.length) (j : Nat) : fbit (B.take 4 ++ B.drop 8) j = fbit B (if j < 32 then j else j + 32) := by
  unfold fbit
  by_cases h : j < 32
  · rw [if_pos h, List.getElem?_append_left (by simp; omega), List.getElem?_take, if_pos (by omega)]
  · rw [if_neg h, List.getElem?_append_right (by simp; omega), List.getElem?_drop, List.length_take, show 8 + (j / 8 - min 4 B.length) = (j + 32) / 8 by omega, show (j + 32) % 8 = j % 8 by omega]
theorem fwordV_get (B C : List Int) (h : ∀ i, i < 4 → B[i]?.getD 0 = C[i]?.getD 0) : fwordV B = fwordV C := by
  unfold fwordV
  rw [h 0 (by omega), h 1 (by omega), h 2 (by omega), h 3 (by omega)]
theorem fwordV_inj (B C : List Int) (hb : wfs B) (hc : wfs C) (h : fwordV B = fwordV C) : ∀ i, i < 4 → B[i]?.getD 0 = C[i]?.getD 0 := by
  have b0 := bounds_u8 (hb 0)
  have b1 := bounds_u8 (hb 1)
  have b2 := bounds_u8 (hb 2)
  have b3 := bounds_u8 (hb 3)
  have c0 := bounds_u8 (hc 0)
  have c1 := bounds_u8 (hc 1)
  have c2 := bounds_u8 (hc 2)
  have c3 := bounds_u8 (hc 3)
  unfold fwordV at h
  intro i hi
  match i, hi with
  | 0, _ => omega
  | 1, _ => omega
  | 2, _ => omega
  | 3, _ => omega

theorem turned_bad {bs G : List Int} {A E mask k : Nat} (hl : bs.length ≤ 65536) (hw : wfs bs) (hk : k ≤ 32) (h : Turned (fframe bs) G A E mask k true) (hr : (32 ≤ A ∧ E = 64) ∨ (64 ≤ A ∧ E = 64 + 8 * bs.length)) : unfA G = ([], 0, 23) := by
  have hs0 := fsum_lt (fword bs.length ++ bs)
  have wF := fframe_wfs bs hw (by omega)
  have lF := fframe_length bs
  have lG : G.length = bs.length + 8 := by rw [h.length, lF]
  have e : fframe bs = fword bs.length ++ (fword (fsum (fword bs.length ++ bs)) ++ bs) := by unfold fframe; simp
  have vF : fwordV (fframe bs) = bs.length := by rw [e]; exact fwordV_fword _ (by omega) (by omega) _
  have d4 : (fframe bs).drop 4 = fword (fsum (fword bs.length ++ bs)) ++ bs := by rw [e]; exact List.drop_left' rfl
  have t4 : (fframe bs).take 4 = fword bs.length := by rw [e]; exact List.take_left' rfl
  have d8 : (fframe bs).drop 8 = bs := by
    rw [show (8 : Nat) = 4 + 4 from rfl, ← List.drop_drop, d4]; exact List.drop_left' rfl
  have sF : fwordV ((fframe bs).drop 4) = (fsum (fword bs.length ++ bs) : Nat) := by rw [d4]; exact fwordV_fword _ (by omega) (by omega) _
  have mF : (fframe bs).take 4 ++ (fframe bs).drop 8 = fword bs.length ++ bs := by rw [t4, d8]
  obtain ⟨F, eF⟩ : ∃ F, F = fframe bs := ⟨_, rfl⟩
  rw [← eF] at h wF lF vF sF mF
  clear e d4 t4 d8 eF
  have same : ∀ i, (∀ q, q < 8 → ¬ (A ≤ 8 * i + q ∧ 8 * i + q < A + k ∧ 8 * i + q < E)) → G[i]?.getD 0 = F[i]?.getD 0 := by
    intro i hi
    refine byte_eq G F h.wf wF i (fun q hq => ?_)
    rw [h.bits, if_neg (fun c => hi q hq ⟨c.1, c.2.1, c.2.2.1⟩)]
  have low : ∀ i, i < 4 → G[i]?.getD 0 = F[i]?.getD 0 := fun i hi => same i (fun q hq => by omega)
  have vG : fwordV G = bs.length := by rw [fwordV_get G F low, vF]
  have dl : (G.drop 8).take bs.length = G.drop 8 := List.take_of_length_le (by simp; omega)
  obtain ⟨i0, hi0, hE0, hm0⟩ := h.any.1 rfl
  have hne : ¬ fwordV (G.drop 4) = (fsum (G.take 4 ++ G.drop 8) : Nat) := by
    rcases hr with ⟨hA, hE⟩ | ⟨hA, hE⟩
    · have hi : ∀ i, 8 ≤ i → G[i]?.getD 0 = F[i]?.getD 0 := fun i hi => same i (fun q hq => by omega)
      have eq : G.take 4 ++ G.drop 8 = F.take 4 ++ F.drop 8 := by
        refine list_eq _ _ (by simp; omega) (fun i hlt => ?_)
        by_cases h4 : i < 4
        · rw [List.getElem?_append_left (by simp; omega), List.getElem?_append_left (by simp; omega), List.getElem?_take, List.getElem?_take, if_pos h4, if_pos h4]
          exact low i h4
        · rw [List.getElem?_append_right (by simp; omega), List.getElem?_append_right (by simp; omega), List.getElem?_drop, List.getElem?_drop, List.length_take, List.length_take, show min 4 G.length = min 4 F.length by omega]
          exact hi _ (by omega)
      rw [eq, mF, ← sF]
      intro hv
      have hb := fwordV_inj _ _ (wfs_drop h.wf 4) (wfs_drop wF 4) hv
      have hj : (A + i0) / 8 - 4 < 4 := by omega
      have hg := hb _ hj
      rw [List.getElem?_drop, List.getElem?_drop, show 4 + ((A + i0) / 8 - 4) = (A + i0) / 8 by omega] at hg
      have hbit : fbit G (A + i0) = fbit F (A + i0) := by unfold fbit; rw [hg]
      rw [h.bits, if_pos ⟨by omega, by omega, hE0, by rw [Nat.add_sub_cancel_left]; exact hm0⟩] at hbit
      exact fbit_cases F _ hbit
    · have hv : fwordV (G.drop 4) = fwordV (F.drop 4) := by
        refine fwordV_get _ _ (fun i hi => ?_)
        rw [List.getElem?_drop, List.getElem?_drop]
        exact same _ (fun q hq => by omega)
      rw [hv, sF, ← mF]
      intro hs
      have hsum : fsum (F.take 4 ++ F.drop 8) = fsum (G.take 4 ++ G.drop 8) := by omega
      have lV : (F.take 4 ++ F.drop 8).length = 4 + bs.length := by simp; omega
      have lW : (G.take 4 ++ G.drop 8).length = 4 + bs.length := by simp; omega
      unfold fsum at hsum
      rw [lV, lW] at hsum
      have r1 := Crc.run_lt 4294967295 (fbit (F.take 4 ++ F.drop 8)) (by omega) (8 * (4 + bs.length))
      have r2 := Crc.run_lt 4294967295 (fbit (G.take 4 ++ G.drop 8)) (by omega) (8 * (4 + bs.length))
      refine Crc.burst 4294967295 (by omega) (fbit (F.take 4 ++ F.drop 8)) (fbit (G.take 4 ++ G.drop 8)) (fbit_le _) (fbit_le _) (8 * (4 + bs.length)) (A - 32) (min k (E - A)) (by omega) (by omega) (fun i hi hio => ?_) ⟨i0, by omega, ?_⟩ (by omega)
      · rw [fbit_mid F (by omega), fbit_mid G (by omega)]
        obtain ⟨t, et⟩ : ∃ t, t = (if i < 32 then i else i + 32) := ⟨_, rfl⟩
        rw [← et, h.bits, if_neg]
        rintro ⟨c1, c2, c3, _⟩
        split at et <;> omega
      · rw [fbit_mid F (by omega), fbit_mid G (by omega), if_neg (by omega), show A - 32 + i0 + 32 = A + i0 by omega, h.bits, if_pos ⟨by omega, by omega, hE0, by rw [Nat.add_sub_cancel_left]; exact hm0⟩]
        exact fun h => fbit_cases F _ h.symm
  unfold unfA
  rw [lG, vG, if_neg (by omega), if_neg (by omega), if_neg (by omega), Int.toNat_natCast, dl, if_neg hne]
end Uf
end Go.Proofs.YtgenfklbponodaaDoor
