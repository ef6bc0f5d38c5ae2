/- slices.Sorted(maps.Keys(..)) of the votes by their slots, and what Chosen of package choose returns. No condition. -/
import Derived.Test.YtjhkenmlaammnaaChoBy
import Derived.Test.YtjhkenmlaammnaaChoOpen
import Derived.Test.YtjhkenmlaammnaaChoAlike
import Derived.Test.YtjhkenmlaammnaaKeysLaid
import Derived.Test.YtjhkenmlaammnaaSortedLaid
import Derived.Test.YtjhkenmlaammnaaSortILaid
import Derived.Deep.RegionHeld3
namespace Go.Proofs.Ytjhkenmlaammnaa
open Go.ChangeShapes Go.WideShapes Go.ChangeAt Go.RowKit Go.Shelf Go.Maps Go.Sort B8 Am Cz
set_option linter.unusedVariables false

theorem sortsA (m : Nat) : AnyZI.SortsIn Try.prog sortedA_ren Fence.wide m :=
  ⟨fun blk off cap ss W hH hblk hsz => callsIn_wide.2 (AnyM.slices_Sort_int sortA blk off cap ss W hH hblk hsz),
   fun p cap W => callsIn_wide.2 (AnyM.slices_Sort_int_none sortA p cap W)⟩
theorem keys_call (mb : Option Nat) (w : World) :
    Calls Try.prog 36 #[.map mb] w fun e w' => e = .returned (.func (.func 63) #[] #[.pointer (some ⟨w.heap.size, 0, none⟩)]) ∧ w' = w.alloc (.cells #[.map mb] 76) :=
  (callsIn_wide (n := 5)).1 (AnyZI.keys_in keysA Fence.wide 5 trivial rfl mb w)
theorem sorted_call {w : World} {l : List Pp} {mb : Nat} {w0 : World} {n : Int} (h : ByP w0 w l mb) (hr : rightB n (l.map Pp.pr) = true) :
    Calls Try.prog 35 #[.func (.func 63) #[] #[.pointer (some ⟨w.heap.size, 0, none⟩)]] (w.alloc (.cells #[.map (some mb)] 76)) fun e w' => ∃ a c, e = .returned (.slice a (keysV (l.map Pp.pr)).length c) ∧ Below w.heap.size w w' ∧ w'.ownsRow w.heap.size 3 1 (.slice a (keysV (l.map Pp.pr)).length c) (keysV (l.map Pp.pr)).length (I8.vals (keysV (l.map Pp.pr))) := by
  obtain ⟨B, P, N, ks, f, h1, h2, h3, h4, h5, h6⟩ := h.ex
  obtain ⟨nn, D, hown, hnN, hk, hv⟩ := h1.map
  have hbl := hown.lt
  have hsz : Maps.size D ≤ nn := by
    obtain ⟨es, clock, hb, F, hs, rfl⟩ := hown
    simp [Maps.size, length_sorted]
    exact hs
  have hown' : (w.alloc (.cells #[.map (some mb)] 76)).ownsMap Try.prog 3 held mb nn D := by
    obtain ⟨es, clock, hb, Ft, hs, hD⟩ := hown
    exact ⟨es, clock, (Below.heap_alloc _ _ mb hbl).trans hb, Ft, hs, hD⟩
  have hperm : (keysV (l.map Pp.pr)).Perm (intKeys D) := by
    obtain ⟨es, rfl, hp, hkk⟩ := hown.entries intKeyed
    refine perm_intKeys hp (fun p hp' => ?_) ((keys_sorted _).imp (fun {a b} h e => by omega)) (fun x => ?_)
    · have hh : Maps.has (.map es) p.1 = true := by
        rw [Maps.has_eq]
        exact List.any_eq_true.2 ⟨p, hp', WideAt.sameKey_self (hkk p hp')⟩
      obtain ⟨s, _, e⟩ := (hk p.1).1 hh
      exact ⟨s, e⟩
    · rw [mem_keys, hk]
      constructor
      · rintro ⟨v, hv, rfl⟩
        exact ⟨v.s, (h5 _).2 ⟨v, hv, rfl⟩, rfl⟩
      · rintro ⟨s, hs, e⟩
        have e := ikey_inj (s := x) (t := s) e
        subst e
        exact (h5 _).1 hs
  have hseq : SeqGives Fence.wide 2 Try.prog 63 #[.pointer (some ⟨w.heap.size, 0, none⟩)] encZ (fun ss => ss.Perm (intKeys D)) (Maps.size D) (w.alloc (.cells #[.map (some mb)] 76)) :=
    AnyZI.keys_gives (ρ := keysA_ren) { keysA with } Fence.wide _ trivial rfl (by omega) w.heap.size mb nn D _ (by simp) (by simp) hown'
  have cS := AnyZI.sorted_in sortedA Fence.wide 5 trivial trivial trivial trivial rfl (by omega) (sortsA _) (enters_of Try.func62 (by kernel_rfl) rfl) 63 #[.pointer (some ⟨w.heap.size, 0, none⟩)] trivial (enters_of Try.func63 (by kernel_rfl) rfl) _ _ (by unfold maxLen; omega) (by omega) _ hseq
  change CallsIn _ _ Try.prog 35 _ _ _ at cS
  refine ((callsIn_wide (n := 5)).1 cS).mono ?_
  rintro e w' ⟨v, ss, rfl, hS, hrow, hnil, hb⟩
  have e1 : ss.mergeSort (fun x y => decide (x ≤ y)) = keysV (l.map Pp.pr) := by
    have tr : ∀ a b c : Int, leI a b = true → leI b c = true → leI a c = true := fun a b c h1 h2 => by simp only [leI, decide_eq_true_eq] at *; exact Int.le_trans h1 h2
    have to : ∀ a b : Int, (leI a b || leI b a) = true := fun a b => by simp only [leI, Bool.or_eq_true, decide_eq_true_eq]; exact Int.le_total a b
    refine List.Perm.eq_of_pairwise (le := fun a b => a ≤ b) (fun a b _ _ h1 h2 => by omega) ((List.pairwise_mergeSort tr to ss).imp (fun {a b} h => by simpa [leI] using h)) ((keys_sorted _).imp (fun {a b} h => by omega)) (((List.mergeSort_perm ss leI).trans hS).trans hperm.symm)
  have e2 : ss.length = (keysV (l.map Pp.pr)).length := by rw [← e1]; simp
  rw [e1, e2] at hrow
  have hb' : Below w.heap.size w w' := ((Below.refl _ w).alloc (Nat.le_refl _) _).trans (hb.mono (by simp))
  have hrow' : w'.ownsRow w.heap.size 3 1 v (keysV (l.map Pp.pr)).length (I8.vals (keysV (l.map Pp.pr))) := row_base hrow (by simp)
  obtain ⟨_, ⟨ee, e3⟩ | ⟨g, cp, cur, ee, _⟩⟩ := id hrow'
  · refine ⟨none, 0, by rw [ee, e3], hb', ?_⟩
    rw [ee] at hrow'
    rw [e3] at hrow' ⊢
    exact hrow'
  · refine ⟨_, cp, by rw [ee], hb', ?_⟩
    rw [← ee]
    exact hrow'
end Go.Proofs.Ytjhkenmlaammnaa
