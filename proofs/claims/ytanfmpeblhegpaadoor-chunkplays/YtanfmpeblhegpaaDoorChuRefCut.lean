/- The document's Cut; pieces that are held against one another. No condition but a size. -/
import Derived.Test.YtanfmpeblhegpaaDoorChuRun
import Derived.Laws.AppendOwnNone
namespace Go.Proofs.YtanfmpeblhegpaaDoor
open Go.ChangeShapes Go.WideShapes Go.ChangeAt Go.RowKit B8 Ck
set_option linter.unusedVariables false

/-- bytes appended to nil, as a run -/
theorem copy_row {w : World} {a : Option Addr} {n cp : Nat} {bs : List Int} (ty : TypeId) (q : Sq w a n cp bs) (hr : n ≤ 140737488355328) :
    ∃ a' cp' w1, (Builtin.append_ #[30, 30] ty #[.slice none 0 0, .slice a n cp]).run Tryd.prog w = .ok (.slice a' n cp') w1 ∧ Below w.heap.size w w1 ∧ w1.ownsRow w.heap.size 5 1 (.slice a' n cp') n (B8.vals bs) := by
  obtain ⟨i0, hi, hz0, hz1, hz2⟩ := info_parts B8.info
  cases a with
  | none =>
    obtain ⟨rfl, rfl⟩ := q.noAddr rfl
    obtain rfl : bs = [] := List.eq_nil_of_length_eq_zero q.length
    exact ⟨none, 0, w, run_append_owned_none (P := Tryd.prog) w w.heap.size 30 ty 5 i0 1 Tryd.underlying30 hi (.slice none 0 0) 0 [] (World.ownsRow_nil _ _ _ _), Below.refl _ _, World.ownsRow_nil _ _ _ _⟩
  | some ad =>
    obtain ⟨v', w1, hrun, hown, hg, _⟩ := run_append_own (P := Tryd.prog) w w.heap.size 30 ty 5 i0 (.int .u8 0) 1 1 Tryd.underlying30 hi hz0 hz1 hz2 rfl (by decide) (.slice none 0 0) 0 [] (World.ownsRow_nil _ _ _ _) ad n cp (vals bs) q.valsLength (q.news ad rfl) (vals_one _) (by unfold maxLen; omega) (by omega) (Nat.le_refl _)
    rw [Nat.zero_add, List.nil_append] at hown
    obtain ⟨a', cp', rfl, _⟩ := sq_of_row q.length q.wf hown
    exact ⟨a', cp', w1, hrun, ⟨hg.os, hg.tape, hg.output, hg.size, fun k hk => hg.block k hk (by simp [Value.ownBlock])⟩, hown⟩
/-- what Cut answers, whatever the bytes -/
def cutE (bs : List Int) : Int := if 8192 < bs.length then 22 else 0
def cutAll (bs : List Int) : List Pc := if 8192 < bs.length then [] else cutL bs
theorem cutAll_length (bs : List Int) : (cutAll bs).length ≤ 16 := by
  unfold cutAll
  split
  · simp
  · rw [cutL_length]
    unfold cutN
    omega
theorem cut_all {w : World} {a : Option Addr} {len cap : Nat} {bs : List Int} (h : Sq w a len cap bs) (ht : Tab w) :
    Calls Tryd.prog 17 #[.slice a len cap] w fun e w' => ∃ a' c' l, e = .returned (.tuple #[.slice a' (cutAll bs).length c', .int .i64 (cutE bs)]) ∧ Below w.heap.size w w' ∧ Lw w' w.heap.size a' (cutAll bs).length c' l ∧ l.map Pv.pc = cutAll bs := by
  by_cases hl : 8192 < len
  · have hb : 8192 < bs.length := by rw [h.length]; exact hl
    have e1 : cutE bs = 22 := if_pos hb
    have e2 : cutAll bs = [] := if_pos hb
    rw [e1, e2]
    exact (cut_long hl).mono fun e w' ⟨he, hw⟩ => ⟨none, 0, [], he, by rw [hw]; exact Below.refl _ _, lw_nil _ _, rfl⟩
  · have hb : ¬ 8192 < bs.length := by rw [h.length]; exact hl
    have e1 : cutE bs = 0 := if_neg hb
    have e2 : cutAll bs = cutL bs := if_neg hb
    rw [e1, e2, cutL_length]
    exact cut_any h ht (by omega)
end Go.Proofs.YtanfmpeblhegpaaDoor
