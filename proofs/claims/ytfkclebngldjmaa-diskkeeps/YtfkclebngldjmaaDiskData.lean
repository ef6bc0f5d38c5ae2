/- The law folder's data of a call: what a write is of. No condition. -/
import Derived.Test.YtfkclebngldjmaaDiskOps
import Derived.Test.YtfkclebngldjmaaSm8
import Derived.ArgAppend
namespace Go.Proofs.Ytfkclebngldjmaa
open Go.ChangeShapes Go.WideShapes Go.ChangeAt Go.RowKit B8 Dm
set_option linter.unusedVariables false

/-- how many bytes, where a number says so -/
def dlen (n : Int) : Nat := ((n % 18446744073709551616) % 130).toNat
/-- what a call writes -/
def dataL (o : Opd) : List Int := if o.n = 0 then blk o.fill else (blk o.fill ++ blk o.fill ++ blk o.fill).take (dlen o.n)
theorem dlen_lt (n : Int) : dlen n < 130 := by unfold dlen; omega
theorem dataL_length (o : Opd) : (dataL o).length = if o.n = 0 then 64 else dlen o.n := by
  unfold dataL
  split
  · exact (blk_Blk _).1
  · have := dlen_lt o.n
    simp [(blk_Blk o.fill).1]
    omega
theorem dataL_le (o : Opd) : (dataL o).length ≤ 130 := by
  rw [dataL_length]
  have := dlen_lt o.n
  split <;> omega
/-- what data leaves: a list of its own, in a new block -/
def Given (w w' : World) (e : Ending) (bs : List Int) : Prop := ∃ g n cp, e = .returned (.slice (some ⟨g, 0, none⟩) n cp) ∧ Below w.heap.size w w' ∧ Sq w' (some ⟨g, 0, none⟩) n cp bs ∧ w.heap.size ≤ g ∧ g < w'.heap.size
theorem dlen_wrap (n : Int) (k : Nat) (hk : (k : Int) = (n % 18446744073709551616) % 130) : wrap64 ((IntKind.u64.wrap n).tmod 130) = (k : Int) := by
  have h1 : IntKind.u64.wrap n = n % 18446744073709551616 := by simp [IntKind.wrap, IntKind.bits, IntKind.signed]
  have h2 : 0 ≤ n % 18446744073709551616 := by omega
  rw [h1, Int.tmod_eq_emod_of_nonneg h2, ← hk]
  unfold wrap64
  omega
theorem wrap_u64 (n : Int) : IntKind.u64.wrap n = n % 18446744073709551616 := by simp [IntKind.wrap, IntKind.bits, IntKind.signed]
set_option maxRecDepth 100000 in
theorem data_any (o : Opd) (n0 : -9223372036854775808 ≤ o.n) (n1 : o.n ≤ 9223372036854775807) (w : World) :
    Calls Try.prog 21 #[.agg #[.int .i64 o.kind, .int .i64 o.at_, .int .i64 o.n, .int .u8 o.fill, .slice o.ka o.kl o.kc]] w fun e w' => Given w w' e (dataL o) := by
  obtain ⟨i0, hi, hz0, hz1, hz2⟩ := info_parts info
  obtain ⟨kind, at_, n, fill, ka, kl, kc, ks⟩ := o
  dsimp only at n0 n1 ⊢
  by_cases h0 : n = 0
  · have HD : Hid (dataL ⟨kind, at_, n, fill, ka, kl, kc, ks⟩ = blk fill) := by show _ = _; unfold dataL; rw [if_pos h0]
    subst h0
    go_enter Try.func21, Try.ntmps21
    go_wp2_with fail
    refine (block_any _ _).mono ?_
    rintro e w1 ⟨rfl, hb, hg⟩
    have B1 := hide hb
    have G1 : Hid (w1.heap[w.heap.size + 1]? = some (.cells (vals (blk fill)).toArray 5 (0, 0))) := by simpa [Hid] using hg
    have c : w1.cell? ⟨w.heap.size, 2, none⟩ = some (.int .i64 0) := by rw [hb.cell (p := ⟨w.heap.size, 2, none⟩) (by simp)]; simp
    clear hb hg
    go_wp2_with fail
    go_ret
    rw [HD.out]
    have l1 : w.heap.size + 1 < w1.heap.size := by have := (Array.getElem?_eq_some_iff.1 G1.out).1; simpa using this
    refine ⟨_, _, _, rfl, below_step (below_alloc (Below.refl _ _) _) B1.out, sq_blk G1.out, by simp, by simpa using l1⟩
  · have HD : Hid (dataL ⟨kind, at_, n, fill, ka, kl, kc, ks⟩ = (blk fill ++ blk fill ++ blk fill).take (dlen n)) := by show _ = _; unfold dataL; rw [if_neg h0]
    have hx : (n == 0) = false := by simpa using h0
    have hx2 : (n = 0) = False := by simpa using h0
    have hx3 : (n != 0) = true := by simpa using h0
    have DL := dlen_lt n
    have DE : Hid ((dlen n : Int) = (n % 18446744073709551616) % 130) := by show _ = _; unfold dlen; omega
    clear h0
    go_enter Try.func21, Try.ntmps21
    go_wp2_with fail
    refine (block_any _ _).mono ?_
    rintro e w1 ⟨rfl, hb, hg⟩
    have B1 := hide hb
    have G1 : Hid (w1.heap[w.heap.size + 1]? = some (.cells (vals (blk fill)).toArray 5 (0, 0))) := by simpa [Hid] using hg
    have Q1 := hide (sq_blk G1.out)
    have c : w1.cell? ⟨w.heap.size, 2, none⟩ = some (.int .i64 n) := by rw [hb.cell (p := ⟨w.heap.size, 2, none⟩) (by simp)]; simp
    clear hb hg
    have BL : Hid ((vals (blk fill)).length = 64 * 1) := by show _ = _; rw [vals_length, (blk_Blk fill).1]
    go_wp2_with (at_builtin; refine wpList_append_grows _ rfl (.tmp 10) (.tmp 11) 46 rfl 5 i0 (.int .u8 0) 1 1 Try.underlying46 hi hz0 hz1 hz2 rfl (by omega) _ 64 64 (vals (blk fill)) rfl (fun e => by cases e) BL.out (Q1.out.news) _ 64 64 (vals (blk fill)) rfl BL.out (Q1.out.news _ rfl) (vals_one _) (by omega) (by unfold maxLen; omega) (by omega) ?_)
    intro v2 w2 hown hgrow
    obtain ⟨g2, cp2, rfl, hg2, lt2⟩ := hown.form (by omega)
    have B2 : Hid (Below w1.heap.size w1 w2) := (Below.refl _ _).grown hgrow (Nat.le_refl _) (fun k h => by cases h)
    have O2 := hide hown
    have Q2 := hide (Q1.out.below B2.out)
    have LT1 : Hid (w.heap.size + 1 < w1.heap.size) := (Array.getElem?_eq_some_iff.1 G1.out).1
    have c2 : w2.cell? ⟨w.heap.size, 2, none⟩ = some (.int .i64 n) := (B2.out.cell (p := ⟨w.heap.size, 2, none⟩) (by have := LT1.out; show w.heap.size < w1.heap.size; omega)).trans c
    clear hown hgrow
    rw [← vals_append] at O2
    go_wp2_with (at_builtin; refine wp_append_at _ rfl (.tmp 12) (.tmp 13) rfl 0 g2 cp2 128 (blk fill ++ blk fill) rfl (row_base O2.out (Nat.zero_le _)) _ 64 64 (blk fill) rfl Q2.out (by omega) (Nat.zero_le _) ?_)
    intro g3 cp3 w3 hown hgrow hat
    have O3 := hide hown
    have HA := hide hat
    have B3 : Hid (Below w1.heap.size w1 w3) := B2.out.grown hgrow B2.out.size (fun k hk => by cases hk; exact hg2)
    have c3 : w3.cell? ⟨w.heap.size, 2, none⟩ = some (.int .i64 n) := (B3.out.cell (p := ⟨w.heap.size, 2, none⟩) (by have := LT1.out; show w.heap.size < w1.heap.size; omega)).trans c
    have hcp : 192 ≤ cp3 := by
      rcases hown.2 with ⟨e1, _⟩ | ⟨g, cap, cur, e1, _, _, e2, _⟩
      · cases e1
      · simp at e1; omega
    clear hown hgrow hat c c2
    generalize dlen n = dn at *
    have hdw := dlen_wrap n dn DE.out
    have i1 : (0 : Int) ≤ (dn : Int) := by omega
    have i2 : (dn : Int) ≤ (cp3 : Int) := by omega
    have i3 : dn ≤ cp3 := by omega
    have i4 : (cp3 = 0) = False := by simp; omega
    go_wp2_with fail
    go_ret
    rw [HD.out]
    have hq := sq_row (zs := blk fill ++ blk fill ++ blk fill) (len := 192) (by simp [(blk_Blk fill).1]) (by omega) (wfs_append (wfs_append (blk_Blk fill).2 (blk_Blk fill).2) (blk_Blk fill).2) (by simpa using O3.out)
    obtain ⟨g, cp, e, hg, q⟩ := hq
    obtain ⟨rfl, rfl⟩ : g3 = g ∧ cp3 = cp := by simpa using e
    have lg : g3 < w3.heap.size := (O3.out.lt g3 rfl).2
    have lo : w.heap.size ≤ g3 := by
      have h2 := LT1.out
      have h3 := B2.out.size
      rcases HA.out with rfl | rfl
      · omega
      · omega
    refine ⟨_, _, _, rfl, below_step (below_alloc (Below.refl _ _) _) (B1.out.trans (B3.out.mono B1.out.size)), q.take dn (by omega), lo, lg⟩
end Go.Proofs.Ytfkclebngldjmaa
