/- The landed clock's Names. No condition. -/
import Derived.Test.YtoganfdpaagomaaClockTick
import Derived.Test.YtoganfdpaagomaaClockSort
import Derived.Test.YtoganfdpaagomaaClockSortNil
namespace Go.Proofs.Ytoganfdpaagomaa
open Go.ChangeShapes Go.WideShapes Go.ChangeAt Go.RowKit Cm
set_option linter.unusedVariables false

theorem Told.mono {w : World} {B B' : Nat} {v : Value} {l : List ByteArray} (h : Told w B v l) (e : B' ≤ B) : Told w B' v l := by
  obtain ⟨hl, h | ⟨g, cp, cur, h1, h2, h3⟩⟩ := h
  · exact ⟨hl, .inl h⟩
  · exact ⟨hl, .inr ⟨g, cp, cur, h1, Nat.le_trans e h2, h3⟩⟩
theorem names_take {l : List Tm} {i : Nat} (hi : i < l.length) : names (l.take (i + 1)) = names (l.take i) ++ [(g l i).name] := by
  rw [List.take_succ_eq_append_getElem hi, names, names, List.map_append, g_at hi]
  rfl
theorem names_take_len {l : List Tm} {i : Nat} (hi : i ≤ l.length) : (names (l.take i)).length = i := by rw [names_length]; simp; omega
theorem Row3.below {w w' : World} {b : Nat} {l : List Tm} (h : Row3 w b l) (hb : Below w.heap.size w w') (hl : b < w.heap.size) : Row3 w' b l := fun k hk => by
  have c : ∀ o, w'.cell? ⟨b, o, none⟩ = w.cell? ⟨b, o, none⟩ := fun o => hb.cell (p := ⟨b, o, none⟩) hl
  rw [c, c, c]
  exact h k hk
/-- between two rounds -/
def NmR (w2 wr : World) (l : List Tm) (i : Nat) (a : Option Addr) (c : Nat) : Prop := Below w2.heap.size w2 wr ∧ Told wr w2.heap.size (.slice a i c) (names (l.take i))
theorem nm_next {w2 wr W w3 : World} {l : List Tm} {i : Nat} {a : Option Addr} {c b cp : Nat} (h : NmR w2 wr l i a c) (hi : i < l.length) (hW : Below wr.heap.size wr W)
    (h3 : Told w3 w2.heap.size (.slice (some ⟨b, 0, none⟩) (i + 1) cp) (names (l.take i) ++ [(g l i).name])) (h4 : W.grownBy w3 (Value.slice a i c).ownBlock) : NmR w2 w3 l (i + 1) (some ⟨b, 0, none⟩) cp := by
  refine ⟨?_, by rw [names_take hi]; exact h3⟩
  have hB : Below w2.heap.size w2 W := h.1.trans (hW.mono h.1.size)
  exact hB.grown h4 hB.size (fun j hj => (h.2.lt j hj).1)
def NamesP (w : World) (l : List ByteArray) (e : Ending) (w' : World) : Prop := ∃ a c, e = .returned (.slice a l.length c) ∧ Told w' w.heap.size (.slice a l.length c) l ∧ Below w.heap.size w w'
set_option maxRecDepth 100000 in
set_option maxHeartbeats 1000000 in
theorem names_any {w : World} {C : Nat} {L : Ql} {s : Cs} {B : Int} (h : Cl w C L s B) :
    Calls Try.prog 13 #[.pointer (some ⟨C, 0, none⟩)] w fun e w' => NamesP w (namesS s) e w' := by
  obtain ⟨l, p1, p2, q⟩ := h.q
  have c2 := h.c2
  have c0 := q.c0
  have hl := q.len
  have hlm := h.ok.len
  have hln : l.length = s.r.length := p1.length_eq
  have CC := hide (clone_tms q.row (tcells_one l) (by omega))
  have lr : (srt s.r).length = L.m := by rw [(srt_perm s.r).length_eq, hl, hln]
  have SO : Hid (∀ (W : World) (a : Option Addr) (c : Nat), W.ownsRow w.heap.size 54 3 (.slice a L.m c) L.m (tcells l) → Below w.heap.size w W → Calls Try.prog 27 #[.slice a L.m c, .func (.func 28) #[] #[]] W fun e w' => e = .returned (.tuple #[]) ∧ Below w.heap.size w w' ∧ (0 < L.m → ∃ b, a = some ⟨b, 0, none⟩ ∧ b < w'.heap.size ∧ Row3 w' b (srt s.r))) := fun W a c hr hb => by
    rcases Nat.eq_zero_or_pos L.m with h0 | h0
    · rw [h0]
      exact (sort_none W a c _).mono fun e w' ⟨he, hw⟩ => ⟨he, by rw [hw]; exact hb, fun h => by omega⟩
    · obtain ⟨_, ⟨e1, e2⟩ | ⟨b, cp, cur, e1, e2, e3, _⟩⟩ := id hr
      · omega
      · obtain ⟨rfl, rfl⟩ : a = some ⟨b, 0, none⟩ ∧ c = cp := by simpa using e1
        have hr0 : W.ownsRow 0 54 3 (.slice (some ⟨b, 0, none⟩) L.m c) L.m (tcells l) := by
          obtain ⟨x1, ⟨y1, y2⟩ | ⟨g', cp', cur', z1, z2, z3⟩⟩ := hr
          · cases y1
          · exact ⟨x1, .inr ⟨g', cp', cur', z1, Nat.zero_le _, z3⟩⟩
        refine (sort_any hr0 (by omega) h.ok.srt p1).mono fun e w' ⟨he, hc, h3⟩ => ⟨he, ?_, fun _ => ⟨b, rfl, Nat.lt_of_lt_of_le (Array.getElem?_eq_some_iff.1 e3).1 hc.size, h3⟩⟩
        exact hb.trans (hc.below hb.size (fun k hk => by rw [hk]; exact e2))
  have EN : Hid (namesS s = names ((srt s.r).take L.m) ∧ (names ((srt s.r).take L.m)).length = L.m) := ⟨by unfold namesS; rw [← lr, List.take_length], by rw [← lr, List.take_length, names_length]⟩
  have LR := hide lr
  have HM : Hid (L.m ≤ 64) := by show _ ≤ _; omega
  clear h p1 p2 q hl hlm hln lr
  generalize srt s.r = r at SO EN LR
  generalize namesS s = nms at EN
  go_enter Try.func13, Try.ntmps13
  go_wp2_with fail
  refine CC.out.mono ?_
  rintro e w1 ⟨a', c', rfl, hb1, ho1⟩
  have CS := hide (SO.out w1 a' c' ho1 hb1)
  clear hb1 ho1
  go_wp2_with fail
  refine CS.out.mono ?_
  rintro e w2 ⟨rfl, hb2, hrow⟩
  have B2 := hide hb2
  have RW := hide hrow
  clear hb2 hrow
  go_wp2_with fail
  go_loopw [4, 6, 21] (fun nv _ iv wr => ∃ (i : Nat) (a : Option Addr) (c : Nat), i ≤ L.m ∧ iv = .int .i64 i ∧ nv = .slice a i c ∧ Hid (NmR w2 wr r i a c)) (fun _ _ iv _ => L.m - (intOf iv).toNat)
  case atStart => exact ⟨0, none, 0, Nat.zero_le _, rfl, rfl, Below.refl _ _, told_nil _ _⟩
  case round =>
    obtain ⟨i, a, c, hi, rfl, rfl, NM⟩ := hrel
    by_cases hlt : i < L.m
    · obtain ⟨b, rfl, hb, h3⟩ := RW.out (by omega)
      have hir : i < r.length := by rw [LR.out]; exact hlt
      obtain ⟨k0, k1, k2⟩ := (h3.below NM.out.1 hb) i hir
      have hm := HM.out
      have x1 : (0 : Int) ≤ (i : Int) := by omega
      have x2 : (i : Int) < (L.m : Int) := by omega
      have nl : (names (r.take i)).length = i := names_take_len (by omega)
      have TT : Told wr w2.heap.size (.slice a (names (r.take i)).length c) (names (r.take i)) := by rw [nl]; exact NM.out.2
      have TA := told_add (l := names (r.take i)) (w := wr.alloc (.cells #[.string (g r i).name, .int .i64 (g r i).due, .int .i64 (g r i).turn] 54)) (TT.same (fun k hk => Below.heap_alloc _ _ _ (TT.lt k hk).2)) (by omega) (Nat.le_trans NM.out.1.size (by simp)) (g r i).name 35
      rw [nl] at TA
      obtain ⟨b3, cp3, w3, run3, t3, g3, _⟩ := TA
      rw [show (wr.alloc (.cells #[.string (g r i).name, .int .i64 (g r i).due, .int .i64 (g r i).turn] 54)).heap.size = wr.heap.size + 1 by simp] at run3
      have RN := hide run3
      have NX : Hid (NmR w2 w3 r (i + 1) (some ⟨b3, 0, none⟩) cp3) := nm_next NM.out hir (below_alloc (Below.refl _ _) _) (by simpa [nl] using t3) g3
      clear run3 t3 g3 TT nl h3 hb hir hi
      go_wp2_with (at_builtin; refine wp_append_run _ rfl (.tmp 25) (.tmp 28) 35 rfl _ _ RN.out ?_)
      go_roundw
      case rel => exact ⟨i + 1, some ⟨b3, 0, none⟩, cp3, hlt, by go_num, rfl, NX⟩
      case measure => simp [intOf]; omega
    · obtain rfl : i = L.m := by omega
      obtain ⟨e1, e2⟩ := EN.out
      have FIN : Hid (NamesP w nms (.returned (.slice a L.m c)) wr) := by
        have := NM.out.2
        rw [e1]
        refine ⟨a, c, by rw [e2], ?_, B2.out.trans (NM.out.1.mono B2.out.size)⟩
        rw [e2]
        exact this.mono B2.out.size
      clear hi hlt e1 e2
      go_wp2_with fail
      go_ret
      exact FIN.out
end Go.Proofs.Ytoganfdpaagomaa
