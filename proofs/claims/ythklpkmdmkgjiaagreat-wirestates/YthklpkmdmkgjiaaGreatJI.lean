/- What the landed reader of things does with one field after the other. No condition but the size. What the landed reader makes of the things whose fields are plain. No condition but the size. A writer, and a reader of things, that have just been made. No condition. -/
import Derived.Test.YthklpkmdmkgjiaaGreatJB
import Derived.Test.YthklpkmdmkgjiaaGreatJA
import Derived.Test.YthklpkmdmkgjiaaGreatJD
import Derived.Test.YthklpkmdmkgjiaaGreatJE
import Derived.Test.YthklpkmdmkgjiaaGreatJG
import Derived.Test.YthklpkmdmkgjiaaGreatJH
namespace Go.Proofs.YthklpkmdmkgjiaaGreat
open Go.ChangeShapes Go.WideShapes Go.ChangeAt Go.RowKit B8 Cm Wm
set_option linter.unusedVariables false

/-- the landed reader of things at RR, over codec's reader at R: it stands as s says, or has found a number too wide -/
structure Rst (w : World) (B RR R : Nat) (a : Option Addr) (n cp : Nat) (bs : List Int) (s1 : St) (wide : Bool) (s : St) : Prop where
  c0 : w.cell? ⟨RR, 0, none⟩ = some (.pointer (some ⟨R, 0, none⟩))
  c1 : w.cell? ⟨RR, 1, none⟩ = some (.bool wide)
  f1 : w.frozen? ⟨RR, 1, none⟩ = false
  rd : Rd w R a n cp bs s1.pl s1.err
  ne : RR ≠ R
  ap : ∀ b off, a = some ⟨b, off, none⟩ → b ≠ RR ∧ b < w.heap.size
  small : n ≤ 65536
  low : B ≤ w.heap.size
  no : wide = false → s1 = s
  yes : wide = true → s.err = 21
def RS (w : World) (B RR R : Nat) (a : Option Addr) (n cp : Nat) (bs : List Int) (s : St) : Prop := ∃ s1 wide, Rst w B RR R a n cp bs s1 wide s
/-- its blocks -/
def Rown (RR R : Nat) (w : World) (k : Nat) : Prop := k = RR ∨ k = R
/-- a block that is neither its own nor that of its bytes -/
def Far (RR R : Nat) (a : Option Addr) (M : Nat) : Prop := M ≠ RR ∧ M ≠ R ∧ ∀ b off, a = some ⟨b, off, none⟩ → b ≠ M

section
variable {w w1 : World} {B RR R : Nat} {a : Option Addr} {n cp : Nat} {bs : List Int} {s s1 : St} {wide : Bool} {M p : Nat}
theorem Rst.lt (h : Rst w B RR R a n cp bs s1 wide s) : RR < w.heap.size ∧ R < w.heap.size := ⟨World.block_lt_of_cell? w _ h.c0, World.block_lt_of_cell? w _ h.rd.c0⟩
theorem RS.lt (h : RS w B RR R a n cp bs s) : RR < w.heap.size ∧ R < w.heap.size := by obtain ⟨s1, wide, h⟩ := h; exact h.lt
theorem Rst.read (h : Rst w B RR R a n cp bs s1 wide s) (f : St → St) (hf : ∀ s, ¬ s.err = 0 → f s = s) (hr : Rd w1 R a n cp bs (f s1).pl (f s1).err) (hg : w.grownBy w1 (some R)) : Rst w1 B RR R a n cp bs (f s1) wide (f s) := by
  have hne : some RR ≠ some R := fun e => h.ne (by simpa using e)
  refine ⟨hg.cell h.c0 hne, hg.cell h.c1 hne, (World.frozen?_of_block (w := w) (hg.block RR h.lt.1 hne)).trans h.f1, hr, h.ne, fun b off e => ⟨(h.ap b off e).1, Nat.lt_of_lt_of_le (h.ap b off e).2 hg.size⟩, h.small, Nat.le_trans h.low hg.size, fun e => by rw [h.no e], fun e => ?_⟩
  rw [hf s (by rw [h.yes e]; decide)]
  exact h.yes e
theorem Rst.store (h : Rst w B RR R a n cp bs s1 wide s) (hM : Far RR R a M) (v : Value) : Rst (w.setCell ⟨M, p, none⟩ v) B RR R a n cp bs s1 wide s := by
  have hg := grown_setCell w M p v
  have hne : some RR ≠ some M := fun e => hM.1 (by simpa using e.symm)
  exact ⟨hg.cell h.c0 hne, hg.cell h.c1 hne, (World.frozen?_of_block (w := w) (hg.block RR h.lt.1 hne)).trans h.f1, h.rd.grown hg (fun e => hM.2.1 (by simpa using e.symm)) (fun b off e => fun e2 => hM.2.2 b off e (by simpa using e2)), h.ne, fun b off e => ⟨(h.ap b off e).1, by simpa [World.setCell] using (h.ap b off e).2⟩, h.small, by simpa [World.setCell] using h.low, h.no, h.yes⟩
theorem Rst.below (h : Rst w B RR R a n cp bs s1 wide s) (hb : Below w.heap.size w w1) : Rst w1 B RR R a n cp bs s1 wide s := by
  have hg := grown_below hb none
  exact ⟨hg.cell h.c0 (by simp), hg.cell h.c1 (by simp), (World.frozen?_of_block (w := w) (hg.block RR h.lt.1 (by simp))).trans h.f1, h.rd.grown hg (by simp) (by simp), h.ne, fun b off e => ⟨(h.ap b off e).1, Nat.lt_of_lt_of_le (h.ap b off e).2 hg.size⟩, h.small, Nat.le_trans h.low hg.size, h.no, h.yes⟩
theorem RS.below (h : RS w B RR R a n cp bs s) (hb : Below w.heap.size w w1) : RS w1 B RR R a n cp bs s := by obtain ⟨s1, wide, h⟩ := h; exact ⟨s1, wide, h.below hb⟩
theorem rq_below (RR R : Nat) (hb : Below w.heap.size w w1) : Stq (Rown RR R) w w1 := ⟨hb.os, hb.tape, hb.output, hb.size, fun k hk _ => hb.block k hk, fun k hk => .inl hk⟩
theorem far_own (h : Far RR R a M) (w : World) : ¬ Rown RR R w M := fun e => by rcases e with e | e; exact h.1 e; exact h.2.1 e
theorem stp_store (hM : Far RR R a M) (hg : w.grownBy w1 (some R)) (hlt : M < w.heap.size) (v : Value) : Stp (Rown RR R) M p (p + 1) w (w1.setCell ⟨M, p, none⟩ v) := by
  have hb : w1.heap[M]? = w.heap[M]? := hg.block M hlt (fun e => hM.2.1 (by simpa using e))
  refine ⟨hg.os, hg.tape, hg.output, by simpa [World.setCell] using hg.size, fun k hk hs hne => ?_, fun o ho => ?_, fun o => ?_, fun k hk => .inl hk⟩
  · rw [Below.heap_setCell _ _ _ _ hne]
    exact hg.block k hk (fun e => hs (.inr (by simpa using e)))
  · rw [World.cell?_setCell_other _ _ _ _ (by intro e; cases e; omega)]
    exact World.cell?_of_block (w := w) hb
  · rw [World.frozen?_setCell]
    exact World.frozen?_of_block (w := w) hb

/-- a field that was read, and stored -/
theorem read_store {k : Nat} {V : Value} (h : Rst w B RR R a n cp bs s1 wide s) (hM : Far RR R a M) (hlt : M < w.heap.size) (hc : ∃ v, w.cell? ⟨M, p, none⟩ = some v)
    (hg : w.grownBy w1 (some R)) (hr : Rd w1 R a n cp bs (atomA bs k s1).s.pl (atomA bs k s1).s.err) (hV : AtomV w1 (fun b => w.heap.size ≤ b ∧ b < w1.heap.size ∧ Free w1 b) V (atomA bs k s1).v) :
    RS (w1.setCell ⟨M, p, none⟩ V) B RR R a n cp bs (atomA bs k s).s ∧ ((atomA bs k s).s.err = 0 → FlatAt (w1.setCell ⟨M, p, none⟩ V) (OutF B (Rown RR R) M (w1.setCell ⟨M, p, none⟩ V)) M p [(atomA bs k s).v]) ∧ Stp (Rown RR R) M p (p + 1) w (w1.setCell ⟨M, p, none⟩ V) := by
  have hl := h.lt
  refine ⟨⟨_, _, (h.read (fun s => (atomA bs k s).s) (fun s hs => atomA_stuck bs k s hs) hr hg).store hM V⟩, fun he => ?_, stp_store hM hg hlt V⟩
  cases wide with
  | true =>
    have := h.yes rfl
    rw [atomA_stuck bs k s (by rw [this]; decide), this] at he
    exact absurd he (by decide)
  | false =>
    obtain rfl := h.no rfl
    intro j x hx
    match j, hx with
    | 0, hx =>
      have ex : (atomA bs k s1).v = x := by simpa using hx
      subst ex
      obtain ⟨v0, hv0⟩ := hc
      have hv1 := hg.cell hv0 (fun e => hM.2.1 (by simpa using e))
      refine ⟨V, World.cell?_setCell_same _ _ _ hv1, hV.same fun b hb => ?_⟩
      have hbM : b ≠ M := by omega
      refine ⟨⟨Nat.le_trans h.low hb.1, by simpa [World.setCell] using hb.2.1, fun e => ?_, hbM, hb.2.2.same (Below.heap_setCell _ _ _ _ hbM)⟩, Below.heap_setCell _ _ _ _ hbM⟩
      rcases e with e | e
      · omega
      · omega
end

theorem zag_bd (v : Nat) (h : v < 18446744073709551616) : -9223372036854775808 ≤ zag v ∧ zag v ≤ 9223372036854775807 := by
  unfold zag
  split <;> omega
theorem atomA_0 (bs : List Int) (s : St) : atomA bs 0 s = ⟨⟨0, (intA bs s).v, []⟩, (intA bs s).s⟩ := rfl
theorem atomA_1 (bs : List Int) (s : St) : atomA bs 1 s = if 4294967295 < (numA bs s).v then ⟨⟨1, 0, []⟩, ⟨s.pl, 21⟩⟩ else ⟨⟨1, ((numA bs s).v : Int), []⟩, (numA bs s).s⟩ := rfl
theorem atomA_2 (bs : List Int) (s : St) : atomA bs 2 s = ⟨⟨2, if (flagA bs s).v then 1 else 0, []⟩, (flagA bs s).s⟩ := rfl
theorem atomA_3 (bs : List Int) (s : St) : atomA bs 3 s = ⟨⟨3, 0, (textA bs 65535 s).v⟩, (textA bs 65535 s).s⟩ := rfl
theorem atomA_4 (bs : List Int) (s : St) : atomA bs 4 s = ⟨⟨4, 0, (textA bs 65535 s).v⟩, (textA bs 65535 s).s⟩ := rfl
theorem textA_le (bs : List Int) (most : Int) (s : St) : (textA bs most s).v.length ≤ bs.length := by
  by_cases h : (countA bs most s).s.err = 0
  · by_cases h2 : bs.length - (countA bs most s).s.pl < (countA bs most s).v
    · rw [textA_short _ _ _ h h2]; exact Nat.zero_le _
    · rw [textA_good _ _ _ h h2]
      show (List.take _ (List.drop _ bs)).length ≤ _
      simp; omega
  · rw [textA_fault _ _ _ h]; exact Nat.zero_le _
theorem atomV_int {w : World} {P : Nat → Prop} {bs : List Int} {s : St} (hb : wfs bs) : AtomV w P (.int .i64 (intA bs s).v) (atomA bs 0 s).v :=
  .inl ⟨rfl, rfl, zag_bd _ (numA_lt bs s (bs_bd hb))⟩
theorem atomV_flag {w : World} {P : Nat → Prop} {bs : List Int} {s : St} : AtomV w P (.bool (flagA bs s).v) (atomA bs 2 s).v := by
  refine .inr (.inr (.inl ⟨rfl, ?_⟩))
  rw [atomA_2]
  cases (flagA bs s).v
  · exact .inr ⟨rfl, rfl⟩
  · exact .inl ⟨rfl, rfl⟩
theorem atomV_bytesF {w w1 : World} {bs : List Int} {s : St} {V : Value} (h : Handed w.heap.size (textA bs 65535 s).v V w1) (hl : bs.length ≤ 65536) : AtomV w1 (fun b => w.heap.size ≤ b ∧ b < w1.heap.size ∧ Free w1 b) V (atomA bs 4 s).v := by
  obtain ⟨a, c, rfl, m⟩ := h
  refine .inr (.inr (.inr (.inr ⟨rfl, a, _, c, rfl, m.sq, ?_, fun b off e h0 => ?_⟩)))
  · have := textA_le bs 65535 s; omega
  · obtain ⟨g, cur, e1, e2, e3, _⟩ := m.2 _ e
    cases e1
    exact ⟨e2, (by rcases Nat.lt_or_ge b w1.heap.size with h | h; exact h; rw [Array.getElem?_eq_none h] at e3; cases e3), _, _, e3⟩
theorem atomV_bytes {w w1 : World} {bs : List Int} {s : St} {V : Value} (h : Handed w.heap.size (textA bs 65535 s).v V w1) (hl : bs.length ≤ 65536) : AtomV w1 (fun b => w.heap.size ≤ b ∧ b < w1.heap.size) V (atomA bs 4 s).v := (atomV_bytesF h hl).same fun b hb => ⟨⟨hb.1, hb.2.1⟩, rfl⟩
theorem atomV_text {w : World} {P : Nat → Prop} {bs : List Int} {s : St} (hw : wfs (textA bs 65535 s).v) (hl : bs.length ≤ 65536) : AtomV w P (.string (strOfNums (textA bs 65535 s).v)) (atomA bs 3 s).v := by
  refine .inr (.inr (.inr (.inl ⟨rfl, _, rfl, (strB_of _ hw).symm, ?_⟩)))
  have := textA_le bs 65535 s
  show (textA bs 65535 s).v.length ≤ _
  omega

theorem rflag_any {w : World} {B RR R : Nat} {a : Option Addr} {n cp : Nat} {bs : List Int} {s : St} {M p : Nat} (h : RS w B RR R a n cp bs s) (hM : Far RR R a M) (hlt : M < w.heap.size) (hr : Room w M p 1) :
    Calls Tryz.prog 123 #[.pointer (some ⟨RR, 0, none⟩), .pointer (some ⟨M, p, none⟩)] w fun e w' => e = .returned (.tuple #[]) ∧ RS w' B RR R a n cp bs (atomA bs 2 s).s ∧ ((atomA bs 2 s).s.err = 0 → FlatAt w' (OutF B (Rown RR R) M w') M p [(atomA bs 2 s).v]) ∧ Stp (Rown RR R) M p (p + 1) w w' := by
  obtain ⟨s1, wide, h⟩ := h
  have c0 := h.c0
  have C := hide (cflag_any (s := s1) h.rd)
  have H := hide h
  have HM := hide hM
  obtain ⟨hc, hf⟩ := hr 0 (by omega)
  have HC := hide hc
  have hf : w.frozen? ⟨M, p, none⟩ = false := hf
  clear h hM hr hc
  go_enter Tryz.func123, Tryz.ntmps123
  go_wp2_with fail
  refine C.out.mono ?_
  rintro e w1 ⟨rfl, hr1, hg1⟩
  have hne : some M ≠ some R := fun e => HM.out.2.1 (by simpa using e)
  obtain ⟨v0, hv0⟩ := HC.out
  have c1 : w1.cell? ⟨M, p, none⟩ = some v0 := hg1.cell hv0 hne
  have f1 : w1.frozen? ⟨M, p, none⟩ = false := (World.frozen?_of_block (w := w) (hg1.block M hlt hne)).trans hf
  have RSx := hide (read_store (k := 2) (V := .bool (flagA bs s1).v) H.out HM.out hlt HC.out hg1 hr1 atomV_flag)
  clear hr1 hg1 hv0 hne hf c0
  go_wp2_with fail
  refine bodyPost_end (results_none rfl _ _ _) rfl ?_
  exact ⟨rfl, RSx.out⟩
theorem rerrno_any {w : World} {B RR R : Nat} {a : Option Addr} {n cp : Nat} {bs : List Int} {s : St} {M p : Nat} (h : RS w B RR R a n cp bs s) (hM : Far RR R a M) (hlt : M < w.heap.size) (hr : Room w M p 1) :
    Calls Tryz.prog 122 #[.pointer (some ⟨RR, 0, none⟩), .pointer (some ⟨M, p, none⟩)] w fun e w' => e = .returned (.tuple #[]) ∧ RS w' B RR R a n cp bs (atomA bs 0 s).s ∧ ((atomA bs 0 s).s.err = 0 → FlatAt w' (OutF B (Rown RR R) M w') M p [(atomA bs 0 s).v]) ∧ Stp (Rown RR R) M p (p + 1) w w' := by
  obtain ⟨s1, wide, h⟩ := h
  have c0 := h.c0
  have C := hide (cint_any (s := s1) h.rd)
  have H := hide h
  have HM := hide hM
  obtain ⟨hc, hf⟩ := hr 0 (by omega)
  have HC := hide hc
  have hf : w.frozen? ⟨M, p, none⟩ = false := hf
  clear h hM hr hc
  go_enter Tryz.func122, Tryz.ntmps122
  go_wp2_with fail
  refine C.out.mono ?_
  rintro e w1 ⟨rfl, hr1, hg1⟩
  have hne : some M ≠ some R := fun e => HM.out.2.1 (by simpa using e)
  obtain ⟨v0, hv0⟩ := HC.out
  have c1 : w1.cell? ⟨M, p, none⟩ = some v0 := hg1.cell hv0 hne
  have f1 : w1.frozen? ⟨M, p, none⟩ = false := (World.frozen?_of_block (w := w) (hg1.block M hlt hne)).trans hf
  have RSx := hide (read_store (k := 0) (V := .int .i64 (intA bs s1).v) H.out HM.out hlt HC.out hg1 hr1 (atomV_int H.out.rd.sq.wf))
  clear hr1 hg1 hv0 hne hf c0
  go_wp2_with fail
  refine bodyPost_end (results_none rfl _ _ _) rfl ?_
  exact ⟨rfl, RSx.out⟩
theorem rbytes_any {w : World} {B RR R : Nat} {a : Option Addr} {n cp : Nat} {bs : List Int} {s : St} {M p : Nat} (h : RS w B RR R a n cp bs s) (hM : Far RR R a M) (hlt : M < w.heap.size) (hr : Room w M p 1) :
    Calls Tryz.prog 120 #[.pointer (some ⟨RR, 0, none⟩), .pointer (some ⟨M, p, none⟩)] w fun e w' => e = .returned (.tuple #[]) ∧ RS w' B RR R a n cp bs (atomA bs 4 s).s ∧ ((atomA bs 4 s).s.err = 0 → FlatAt w' (OutF B (Rown RR R) M w') M p [(atomA bs 4 s).v]) ∧ Stp (Rown RR R) M p (p + 1) w w' := by
  obtain ⟨s1, wide, h⟩ := h
  have c0 := h.c0
  have C := hide (ctext_any (s := s1) 65535 (by omega) h.rd)
  have H := hide h
  have HM := hide hM
  obtain ⟨hc, hf⟩ := hr 0 (by omega)
  have HC := hide hc
  have hf : w.frozen? ⟨M, p, none⟩ = false := hf
  clear h hM hr hc
  go_enter Tryz.func120, Tryz.ntmps120
  go_wp2_with fail
  refine C.out.mono ?_
  rintro e w1 ⟨V, rfl, hh1, hr1, hg1⟩
  obtain ⟨av, cv, rfl, hm1⟩ := hh1
  have hne : some M ≠ some R := fun e => HM.out.2.1 (by simpa using e)
  obtain ⟨v0, hv0⟩ := HC.out
  have c1 : w1.cell? ⟨M, p, none⟩ = some v0 := hg1.cell hv0 hne
  have f1 : w1.frozen? ⟨M, p, none⟩ = false := (World.frozen?_of_block (w := w) (hg1.block M hlt hne)).trans hf
  have RSx := hide (read_store (k := 4) H.out HM.out hlt HC.out hg1 hr1 (atomV_bytesF ⟨av, cv, rfl, hm1⟩ (by rw [H.out.rd.sq.length]; exact H.out.small)))
  clear hm1 hr1 hg1 hv0 hne hf c0
  go_wp2_with fail
  refine bodyPost_end (results_none rfl _ _ _) rfl ?_
  exact ⟨rfl, RSx.out⟩

theorem flatA_rep (bs : List Int) (k j : Nat) (s : St) : flatA bs (List.replicate (j + 1) k) s = ⟨(flatA bs (List.replicate j k) s).v ++ [(atomA bs k (flatA bs (List.replicate j k) s).s).v], (atomA bs k (flatA bs (List.replicate j k) s).s).s⟩ := by
  rw [List.replicate_succ', flatA_append]
  rfl
/-- one field more -/
theorem flat_more {w w1 : World} {B RR R M o j : Nat} {bs : List Int} {k : Nat} {s : St} (hF : (flatA bs (List.replicate j k) s).s.err = 0 → FlatAt w (OutF B (Rown RR R) M w) M o (flatA bs (List.replicate j k) s).v)
    (h1 : (atomA bs k (flatA bs (List.replicate j k) s).s).s.err = 0 → FlatAt w1 (OutF B (Rown RR R) M w1) M (o + j) [(atomA bs k (flatA bs (List.replicate j k) s).s).v]) (hs : Stp (Rown RR R) M (o + j) (o + j + 1) w w1) :
    (flatA bs (List.replicate (j + 1) k) s).s.err = 0 → FlatAt w1 (OutF B (Rown RR R) M w1) M o (flatA bs (List.replicate (j + 1) k) s).v := by
  intro he
  rw [flatA_rep] at he ⊢
  have hj : (flatA bs (List.replicate j k) s).v.length = j := by rw [flatA_length]; simp
  have e0 := err_back (fun s => atomA bs k s) (fun s hs => atomA_stuck bs k s hs) _ he
  refine ((hF e0).stepF hs (.inr (by rw [hj]; omega))).append ?_
  rw [hj]
  exact h1 he

theorem rints_any {w : World} {B RR R : Nat} {a : Option Addr} {n cp : Nat} {bs : List Int} {s : St} {L M o k c : Nat} (h : RS w B RR R a n cp bs s) (hM : Far RR R a M) (hlt : M < w.heap.size) (hr : Room w M o k) (hm : k ≤ 1000000)
    (hL : L < w.heap.size ∧ L ≠ M ∧ L ≠ RR ∧ L ≠ R) (hp : ∀ j, j < k → w.cell? ⟨L, j, none⟩ = some (.pointer (some ⟨M, o + j, none⟩))) :
    Calls Tryz.prog 124 #[.pointer (some ⟨RR, 0, none⟩), .slice (some ⟨L, 0, none⟩) k c] w fun e w' => e = .returned (.tuple #[]) ∧ RS w' B RR R a n cp bs (flatA bs (List.replicate k 0) s).s ∧ ((flatA bs (List.replicate k 0) s).s.err = 0 → FlatAt w' (OutF B (Rown RR R) M w') M o (flatA bs (List.replicate k 0) s).v) ∧ Stp (Rown RR R) M o (o + k) w w' := by
  have H := hide h
  have HM := hide hM
  have HR := hide hr
  have HP := hide hp
  have HL := hide hL
  clear h hM hr hp hL
  go_enter Tryz.func124, Tryz.ntmps124
  go_wp2_with fail
  go_loopw [8] (fun i wr => ∃ j : Nat, j ≤ k ∧ i = .int .i64 j ∧ Hid (RS wr B RR R a n cp bs (flatA bs (List.replicate j 0) s).s) ∧ Hid ((flatA bs (List.replicate j 0) s).s.err = 0 → FlatAt wr (OutF B (Rown RR R) M wr) M o (flatA bs (List.replicate j 0) s).v) ∧ Hid (Stp (Rown RR R) M o (o + j) w wr)) (fun i _ => k - (intOf i).toNat)
  case atStart => exact ⟨0, Nat.zero_le _, rfl, H, fun _ => FlatAt.nil, Stp.refl _ _ _ _ _⟩
  case round =>
    obtain ⟨j, hj, rfl, HW, HF, HS⟩ := hrel
    by_cases hjk : j < k
    · have hi : (j : Int) < (k : Int) := by omega
      have c1 : wr.cell? ⟨L, j, none⟩ = some (.pointer (some ⟨M, o + j, none⟩)) := (World.cell?_of_block (w := w) (HS.out.block L HL.out.1 (fun e => by rcases e with e | e; exact HL.out.2.2.1 e; exact HL.out.2.2.2 e) HL.out.2.1)).trans (HP.out j hjk)
      obtain ⟨⟨v0, hv0⟩, hf0⟩ := HR.out j hjk
      have hv0 : wr.cell? ⟨M, o + j, none⟩ = some v0 := (HS.out.cell (o + j) (by omega)).trans hv0
      have hf0 : wr.frozen? ⟨M, o + j, none⟩ = false := (HS.out.frozen (o + j)).trans hf0
      obtain ⟨s1, wide, h⟩ := HW.out
      have c0 := h.c0
      have C := hide (cint_any (s := s1) h.rd)
      have H1 := hide h
      have LT : Hid (M < wr.heap.size) := Nat.lt_of_lt_of_le hlt HS.out.size
      clear h HW
      go_wp2_with fail
      refine C.out.mono ?_
      rintro e w1 ⟨rfl, hr1, hg1⟩
      have hne : some M ≠ some R := fun e => HM.out.2.1 (by simpa using e)
      have c2 : w1.cell? ⟨M, o + j, none⟩ = some v0 := hg1.cell hv0 hne
      have f2 : w1.frozen? ⟨M, o + j, none⟩ = false := (World.frozen?_of_block (w := wr) (hg1.block M LT.out hne)).trans hf0
      have RSx := hide (read_store (k := 0) (V := .int .i64 (intA bs s1).v) (p := o + j) H1.out HM.out LT.out ⟨v0, hv0⟩ hg1 hr1 (atomV_int H1.out.rd.sq.wf))
      clear hr1 hg1 hv0 hne hf0 c0
      go_wp2_with fail
      go_roundw
      case rel =>
        obtain ⟨g1, g2, g3⟩ := RSx.out
        refine ⟨j + 1, by omega, by go_num, ?_, flat_more HF.out g2 g3, (HS.out.wider (Nat.le_refl _) (by omega)).trans (g3.wider (by omega) (by omega))⟩
        show RS _ _ _ _ _ _ _ _ _
        rw [flatA_rep]
        exact g1
      case measure => simp [intOf]; omega
    · obtain rfl : j = k := by omega
      go_wp2_with fail
      refine bodyPost_end (results_none rfl _ _ _) rfl ?_
      exact ⟨rfl, HW.out, HF.out, HS.out⟩
theorem rtexts_any {w : World} {B RR R : Nat} {a : Option Addr} {n cp : Nat} {bs : List Int} {s : St} {L M o k c : Nat} (h : RS w B RR R a n cp bs s) (hM : Far RR R a M) (hlt : M < w.heap.size) (hr : Room w M o k) (hm : k ≤ 1000000)
    (hL : L < w.heap.size ∧ L ≠ M ∧ L ≠ RR ∧ L ≠ R) (hp : ∀ j, j < k → w.cell? ⟨L, j, none⟩ = some (.pointer (some ⟨M, o + j, none⟩))) :
    Calls Tryz.prog 126 #[.pointer (some ⟨RR, 0, none⟩), .slice (some ⟨L, 0, none⟩) k c] w fun e w' => e = .returned (.tuple #[]) ∧ RS w' B RR R a n cp bs (flatA bs (List.replicate k 3) s).s ∧ ((flatA bs (List.replicate k 3) s).s.err = 0 → FlatAt w' (OutF B (Rown RR R) M w') M o (flatA bs (List.replicate k 3) s).v) ∧ Stp (Rown RR R) M o (o + k) w w' := by
  have H := hide h
  have HM := hide hM
  have HR := hide hr
  have HP := hide hp
  have HL := hide hL
  clear h hM hr hp hL
  go_enter Tryz.func126, Tryz.ntmps126
  go_wp2_with fail
  go_loopw [8] (fun i wr => ∃ j : Nat, j ≤ k ∧ i = .int .i64 j ∧ Hid (RS wr B RR R a n cp bs (flatA bs (List.replicate j 3) s).s) ∧ Hid ((flatA bs (List.replicate j 3) s).s.err = 0 → FlatAt wr (OutF B (Rown RR R) M wr) M o (flatA bs (List.replicate j 3) s).v) ∧ Hid (Stp (Rown RR R) M o (o + j) w wr)) (fun i _ => k - (intOf i).toNat)
  case atStart => exact ⟨0, Nat.zero_le _, rfl, H, fun _ => FlatAt.nil, Stp.refl _ _ _ _ _⟩
  case round =>
    obtain ⟨j, hj, rfl, HW, HF, HS⟩ := hrel
    by_cases hjk : j < k
    · have hi : (j : Int) < (k : Int) := by omega
      have c1 : wr.cell? ⟨L, j, none⟩ = some (.pointer (some ⟨M, o + j, none⟩)) := (World.cell?_of_block (w := w) (HS.out.block L HL.out.1 (fun e => by rcases e with e | e; exact HL.out.2.2.1 e; exact HL.out.2.2.2 e) HL.out.2.1)).trans (HP.out j hjk)
      obtain ⟨⟨v0, hv0⟩, hf0⟩ := HR.out j hjk
      have hv0 : wr.cell? ⟨M, o + j, none⟩ = some v0 := (HS.out.cell (o + j) (by omega)).trans hv0
      have hf0 : wr.frozen? ⟨M, o + j, none⟩ = false := (HS.out.frozen (o + j)).trans hf0
      obtain ⟨s1, wide, h⟩ := HW.out
      have c0 := h.c0
      have C := hide (ctext_any (s := s1) 65535 (by omega) h.rd)
      have H1 := hide h
      have LT : Hid (M < wr.heap.size) := Nat.lt_of_lt_of_le hlt HS.out.size
      clear h HW
      go_wp2_with fail
      refine C.out.mono ?_
      rintro e w1 ⟨V, rfl, hh1, hr1, hg1⟩
      obtain ⟨av, cv, rfl, hm1⟩ := hh1
      have hcv := bytes_string hm1.sq
      have HWf := hide hm1.sq.wf
      have hne : some M ≠ some R := fun e => HM.out.2.1 (by simpa using e)
      have c2 : w1.cell? ⟨M, o + j, none⟩ = some v0 := hg1.cell hv0 hne
      have f2 : w1.frozen? ⟨M, o + j, none⟩ = false := (World.frozen?_of_block (w := wr) (hg1.block M LT.out hne)).trans hf0
      have RSx := hide (read_store (k := 3) (V := .string (strOfNums (textA bs 65535 s1).v)) (p := o + j) H1.out HM.out LT.out ⟨v0, hv0⟩ hg1 hr1 (atomV_text HWf.out (by rw [H1.out.rd.sq.length]; exact H1.out.small)))
      clear hm1 hr1 hg1 hv0 hne hf0 c0
      go_wp2_with fail
      go_roundw
      case rel =>
        obtain ⟨g1, g2, g3⟩ := RSx.out
        refine ⟨j + 1, by omega, by go_num, ?_, flat_more HF.out g2 g3, (HS.out.wider (Nat.le_refl _) (by omega)).trans (g3.wider (by omega) (by omega))⟩
        show RS _ _ _ _ _ _ _ _ _
        rw [flatA_rep]
        exact g1
      case measure => simp [intOf]; omega
    · obtain rfl : j = k := by omega
      go_wp2_with fail
      refine bodyPost_end (results_none rfl _ _ _) rfl ?_
      exact ⟨rfl, HW.out, HF.out, HS.out⟩

theorem rcount_any {w : World} {B RR R : Nat} {a : Option Addr} {n cp : Nat} {bs : List Int} {s : St} (x : Int) (h : RS w B RR R a n cp bs s) :
    Calls Tryz.prog 121 #[.pointer (some ⟨RR, 0, none⟩), .int .i64 x] w fun e w' => ∃ k : Nat, k ≤ 1024 ∧ e = .returned (.int .i64 k) ∧ RS w' B RR R a n cp bs (countA bs 1024 s).s ∧ ((countA bs 1024 s).s.err = 0 → k = (countA bs 1024 s).v) ∧ Stq (Rown RR R) w w' := by
  obtain ⟨s1, wide, h⟩ := h
  have c0 := h.c0
  have C := hide (ccount_any (s := s1) 1024 (by omega) h.rd)
  have H := hide h
  clear h
  go_enter Tryz.func121, Tryz.ntmps121
  go_wp2_with fail
  refine C.out.mono ?_
  rintro e w1 ⟨rfl, hr1, hg1⟩
  have R1 := hide (H.out.read (fun s => (countA bs 1024 s).s) (fun s hs => by rw [countA_stuck _ _ _ hs]) hr1 hg1)
  have G1 := hide hg1
  clear hr1 hg1 c0
  go_wp2_with fail
  go_ret
  have hle := countA_le bs 1024 s1
  refine ⟨(countA bs 1024 s1).v, by omega, rfl, ⟨_, _, R1.out⟩, fun he => ?_, ⟨G1.out.os, G1.out.tape, G1.out.output, G1.out.size, fun k hk hs => G1.out.block k hk (fun e => hs (.inr (by simpa using e))), fun k hk => .inl hk⟩⟩
  cases wide with
  | true =>
    have hy := H.out.yes rfl
    rw [countA_stuck bs 1024 s (by rw [hy]; decide)] at he
    rw [hy] at he
    exact absurd he (by decide)
  | false => rw [H.out.no rfl]
theorem rend_any {w : World} {B RR R : Nat} {a : Option Addr} {n cp : Nat} {bs : List Int} {s : St} (h : RS w B RR R a n cp bs s) :
    Calls Tryz.prog 56 #[.pointer (some ⟨RR, 0, none⟩)] w fun e w' => e = .returned (.int .i64 (endA bs s)) ∧ ∃ m, w' = w.drewN m := by
  obtain ⟨s1, wide, h⟩ := h
  have c0 := h.c0
  have c1 := h.c1
  cases wide with
  | true =>
    have HE : Hid (endA bs s = 21) := by
      show _ = _
      have := h.yes rfl
      unfold endA
      rw [if_neg (by rw [this]; decide), this]
    clear h
    go_enter Tryz.func56, Tryz.ntmps56
    go_wp2_with fail
    go_ret
    rw [HE.out]
    exact ⟨rfl, 0, rfl⟩
  | false =>
    obtain rfl := h.no rfl
    have C := hide (cend_any h.rd)
    clear h
    go_enter Tryz.func56, Tryz.ntmps56
    go_wp2_with fail
    refine C.out.mono ?_
    rintro e w1 ⟨rfl, m, rfl⟩
    go_wp2_with fail
    go_ret
    exact ⟨rfl, m, rfl⟩
end Go.Proofs.YthklpkmdmkgjiaaGreat

namespace Go.Proofs.YthklpkmdmkgjiaaGreat
open Go.ChangeShapes Go.WideShapes Go.ChangeAt Go.RowKit B8 Cm Wm
set_option linter.unusedVariables false

theorem nilr_ints (a : Addr) (w : World) : (nilAhead 319 131 (.pointer (some a)) "purse/wire.ints").run Tryz.prog w = .ok (some false) w := by kernel_rfl
theorem methr_ints (a : Addr) (w : World) : (method 319 131 (.pointer (some a)) "purse/wire.ints").run Tryz.prog w = .ok (124, .pointer (some a)) w := by kernel_rfl
theorem callr_ints (args : Array Value) (w : World) : (callFunc 124 args).run Tryz.prog w = .ok (.enter 124 args) w := by kernel_rfl
theorem nilr_texts (a : Addr) (w : World) : (nilAhead 319 131 (.pointer (some a)) "purse/wire.texts").run Tryz.prog w = .ok (some false) w := by kernel_rfl
theorem methr_texts (a : Addr) (w : World) : (method 319 131 (.pointer (some a)) "purse/wire.texts").run Tryz.prog w = .ok (126, .pointer (some a)) w := by kernel_rfl
theorem callr_texts (args : Array Value) (w : World) : (callFunc 126 args).run Tryz.prog w = .ok (.enter 126 args) w := by kernel_rfl
theorem nilr_bytes (a : Addr) (w : World) : (nilAhead 319 131 (.pointer (some a)) "purse/wire.bytes").run Tryz.prog w = .ok (some false) w := by kernel_rfl
theorem methr_bytes (a : Addr) (w : World) : (method 319 131 (.pointer (some a)) "purse/wire.bytes").run Tryz.prog w = .ok (120, .pointer (some a)) w := by kernel_rfl
theorem callr_bytes (args : Array Value) (w : World) : (callFunc 120 args).run Tryz.prog w = .ok (.enter 120 args) w := by kernel_rfl
theorem nilr_flag (a : Addr) (w : World) : (nilAhead 319 131 (.pointer (some a)) "purse/wire.flag").run Tryz.prog w = .ok (some false) w := by kernel_rfl
theorem methr_flag (a : Addr) (w : World) : (method 319 131 (.pointer (some a)) "purse/wire.flag").run Tryz.prog w = .ok (123, .pointer (some a)) w := by kernel_rfl
theorem callr_flag (args : Array Value) (w : World) : (callFunc 123 args).run Tryz.prog w = .ok (.enter 123 args) w := by kernel_rfl
theorem nilr_errno (a : Addr) (w : World) : (nilAhead 319 131 (.pointer (some a)) "purse/wire.errno").run Tryz.prog w = .ok (some false) w := by kernel_rfl
theorem methr_errno (a : Addr) (w : World) : (method 319 131 (.pointer (some a)) "purse/wire.errno").run Tryz.prog w = .ok (122, .pointer (some a)) w := by kernel_rfl
theorem callr_errno (args : Array Value) (w : World) : (callFunc 122 args).run Tryz.prog w = .ok (.enter 122 args) w := by kernel_rfl
theorem nilr_count (a : Addr) (w : World) : (nilAhead 319 131 (.pointer (some a)) "purse/wire.count").run Tryz.prog w = .ok (some false) w := by kernel_rfl
theorem methr_count (a : Addr) (w : World) : (method 319 131 (.pointer (some a)) "purse/wire.count").run Tryz.prog w = .ok (121, .pointer (some a)) w := by kernel_rfl
theorem callr_count (args : Array Value) (w : World) : (callFunc 121 args).run Tryz.prog w = .ok (.enter 121 args) w := by kernel_rfl
/-- a walk that reads a thing at M, from o on: it stands behind the fields of these kinds -/
def RI (B RR R : Nat) (a : Option Addr) (n cp : Nat) (bs : List Int) (s : St) (M o : Nat) (w : World) (pre : List Nat) (u : World) : Prop :=
  RS u B RR R a n cp bs (flatA bs pre s).s ∧ ((flatA bs pre s).s.err = 0 → FlatAt u (OutF B (Rown RR R) M u) M o (flatA bs pre s).v) ∧ Stp (Rown RR R) M o (o + pre.length) w u
/-- what reading fields of these kinds from p on brings about -/
def RP (B RR R : Nat) (a : Option Addr) (n cp : Nat) (bs : List Int) (s : St) (M p : Nat) (w : World) (ks : List Nat) (e : Ending) (u : World) : Prop :=
  e = .returned (.tuple #[]) ∧ RI B RR R a n cp bs s M p w ks u
section
variable {B RR R : Nat} {a : Option Addr} {n cp : Nat} {bs : List Int} {s : St} {M o : Nat} {w u u' : World} {pre ks : List Nat}
theorem RI.start (h : RS w B RR R a n cp bs s) : RI B RR R a n cp bs s M o w [] w := ⟨h, fun _ => FlatAt.nil, Stp.refl _ _ _ _ _⟩
theorem RI.more (h : RI B RR R a n cp bs s M o w pre u) (g : RI B RR R a n cp bs (flatA bs pre s).s M (o + pre.length) u ks u') : RI B RR R a n cp bs s M o w (pre ++ ks) u' := by
  have hp : (flatA bs pre s).v.length = pre.length := flatA_length bs pre s
  refine ⟨?_, fun he => ?_, ?_⟩
  · rw [flatA_append]; exact g.1
  · rw [flatA_append] at he ⊢
    have e0 := err_back (fun s => flatA bs ks s) (fun s hs => flatA_stuck bs ks s hs) _ he
    refine ((h.2.1 e0).stepF g.2.2 (.inr (by rw [hp]; omega))).append ?_
    rw [hp]
    exact g.2.1 he
  · rw [List.length_append]
    exact (h.2.2.wider (Nat.le_refl _) (by omega)).trans (g.2.2.wider (by omega) (by omega))
theorem RI.room {N k : Nat} (h : RI B RR R a n cp bs s M o w pre u) (hr : Room w M o N) (hk : pre.length + k ≤ N) : Room u M (o + pre.length) k := (hr.part hk).step h.2.2 (.inl (Nat.le_refl _))
theorem RI.lt (h : RI B RR R a n cp bs s M o w pre u) (hM : M < w.heap.size) : M < u.heap.size := Nat.lt_of_lt_of_le hM h.2.2.size
end
theorem ptr_cells' (w : World) (cs : Array Value) (T : TypeId) (M o n : Nat) (hc : ∀ j, j < n → cs[j]? = some (.pointer (some ⟨M, o + j, none⟩))) : ∀ j, j < n → (w.alloc (.cells cs T)).drew.cell? ⟨w.heap.size, j, none⟩ = some (.pointer (some ⟨M, o + j, none⟩)) := by
  intro j hj
  have : (w.alloc (.cells cs T)).drew.heap[w.heap.size]? = some (.cells cs T) := heap_alloc_new w _
  unfold World.cell?
  rw [this]
  exact hc j hj
theorem room_stq {S : World → Nat → Prop} {w w1 : World} {M o n : Nat} (h : Room w M o n) (g : Stq S w w1) (hM : M < w.heap.size) (hS : ¬ S w M) : Room w1 M o n := h.step (g.to hM hS 0 0) (.inl (Nat.zero_le _))
theorem ri_stq {B RR R : Nat} {a : Option Addr} {n cp : Nat} {bs : List Int} {s : St} {M p : Nat} {w w1 u : World} {ks : List Nat} (g : Stq (Rown RR R) w w1) (hM : M < w.heap.size) (hF : Far RR R a M) (h : RI B RR R a n cp bs s M p w1 ks u) : RI B RR R a n cp bs s M p w ks u :=
  ⟨h.1, h.2.1, (g.to hM (far_own hF w) p (p + ks.length)).trans h.2.2⟩
section
variable {B RR R : Nat} {a : Option Addr} {n cp : Nat} {bs : List Int} {s : St} {M p k : Nat} {w : World}
theorem below_ptrs' (w : World) (o : Obj) : Below w.heap.size w (w.alloc o).drew := (Below.alloc (Below.refl _ _) (Nat.le_refl _) o).drew
theorem rints_call (h : RS w B RR R a n cp bs s) (hF : Far RR R a M) (hM : M < w.heap.size) (hr : Room w M p k) (cs : Array Value) (T : TypeId) (hc : ∀ j, j < k → cs[j]? = some (.pointer (some ⟨M, p + j, none⟩))) (hm : k ≤ 1000000 := by omega) :
    Calls Tryz.prog 124 #[.pointer (some ⟨RR, 0, none⟩), .slice (some ⟨w.heap.size, 0, none⟩) k k] (w.alloc (.cells cs T)).drew (RP B RR R a n cp bs s M p w (List.replicate k 0)) := by
  have hb := below_ptrs' w (.cells cs T)
  have hq := rq_below RR R hb
  have hl := h.lt
  refine (rints_any (c := k) (h.below hb) hF (Nat.lt_of_lt_of_le hM hb.size) (room_stq hr hq hM (far_own hF w)) hm ⟨by simp, by omega, by omega, by omega⟩ (ptr_cells' w cs T M p k hc)).mono fun e w' ⟨h1, h2, h3, h4⟩ => ⟨h1, ri_stq hq hM hF ⟨h2, h3, ?_⟩⟩
  rw [List.length_replicate]
  exact h4
theorem rtexts_call (h : RS w B RR R a n cp bs s) (hF : Far RR R a M) (hM : M < w.heap.size) (hr : Room w M p k) (cs : Array Value) (T : TypeId) (hc : ∀ j, j < k → cs[j]? = some (.pointer (some ⟨M, p + j, none⟩))) (hm : k ≤ 1000000 := by omega) :
    Calls Tryz.prog 126 #[.pointer (some ⟨RR, 0, none⟩), .slice (some ⟨w.heap.size, 0, none⟩) k k] (w.alloc (.cells cs T)).drew (RP B RR R a n cp bs s M p w (List.replicate k 3)) := by
  have hb := below_ptrs' w (.cells cs T)
  have hq := rq_below RR R hb
  have hl := h.lt
  refine (rtexts_any (c := k) (h.below hb) hF (Nat.lt_of_lt_of_le hM hb.size) (room_stq hr hq hM (far_own hF w)) hm ⟨by simp, by omega, by omega, by omega⟩ (ptr_cells' w cs T M p k hc)).mono fun e w' ⟨h1, h2, h3, h4⟩ => ⟨h1, ri_stq hq hM hF ⟨h2, h3, ?_⟩⟩
  rw [List.length_replicate]
  exact h4
theorem below_drew' (w : World) : Below w.heap.size w w.drew := (Below.refl _ _).drew
theorem rflag_call (h : RS w B RR R a n cp bs s) (hF : Far RR R a M) (hM : M < w.heap.size) (hr : Room w M p 1) :
    Calls Tryz.prog 123 #[.pointer (some ⟨RR, 0, none⟩), .pointer (some ⟨M, p, none⟩)] w.drew (RP B RR R a n cp bs s M p w [2]) :=
  (rflag_any (h.below (below_drew' w)) hF hM hr).mono fun e w' ⟨h1, h2, h3, h4⟩ => ⟨h1, ri_stq (rq_below RR R (below_drew' w)) hM hF ⟨h2, h3, h4⟩⟩
theorem rerrno_call (h : RS w B RR R a n cp bs s) (hF : Far RR R a M) (hM : M < w.heap.size) (hr : Room w M p 1) :
    Calls Tryz.prog 122 #[.pointer (some ⟨RR, 0, none⟩), .pointer (some ⟨M, p, none⟩)] w.drew (RP B RR R a n cp bs s M p w [0]) :=
  (rerrno_any (h.below (below_drew' w)) hF hM hr).mono fun e w' ⟨h1, h2, h3, h4⟩ => ⟨h1, ri_stq (rq_below RR R (below_drew' w)) hM hF ⟨h2, h3, h4⟩⟩
theorem rbytes_call (h : RS w B RR R a n cp bs s) (hF : Far RR R a M) (hM : M < w.heap.size) (hr : Room w M p 1) :
    Calls Tryz.prog 120 #[.pointer (some ⟨RR, 0, none⟩), .pointer (some ⟨M, p, none⟩)] w.drew (RP B RR R a n cp bs s M p w [4]) :=
  (rbytes_any (h.below (below_drew' w)) hF hM hr).mono fun e w' ⟨h1, h2, h3, h4⟩ => ⟨h1, ri_stq (rq_below RR R (below_drew' w)) hM hF ⟨h2, h3, h4⟩⟩
end

theorem rop_any {B RR R : Nat} {a : Option Addr} {n cp : Nat} {bs : List Int} {s : St} {M o : Nat} {w : World} (h : RS w B RR R a n cp bs s) (hF : Far RR R a M) (hM : M < w.heap.size) (hr : Room w M o 6) :
    Calls Tryz.prog 64 #[.iface 131 (.pointer (some ⟨RR, 0, none⟩)), .pointer (some ⟨M, o, none⟩)] w (RP B RR R a n cp bs s M o w [0, 3, 3, 0, 0, 0]) := by
  exact go_op (M := M) (o := o) nilr_ints methr_ints callr_ints nilr_texts methr_texts callr_texts
    (R0 := RI B RR R a n cp bs s M o w [])
    (R1 := RI B RR R a n cp bs s M o w [0])
    (R2 := RI B RR R a n cp bs s M o w [0, 3, 3])
    (R3 := RI B RR R a n cp bs s M o w [0, 3, 3, 0, 0, 0])
    (fun u hu => (rints_call hu.1 hF (hu.lt hM) (hu.room hr (show 0 + 1 ≤ 6 by omega)) #[.pointer (some ⟨M, o, none⟩)] 82 (fun j hj => match j, hj with | 0, _ => rfl)).mono fun e w' ⟨h1, h2⟩ => ⟨h1, hu.more h2⟩)
    (fun u hu => (rtexts_call hu.1 hF (hu.lt hM) (hu.room hr (show 1 + 2 ≤ 6 by omega)) #[.pointer (some ⟨M, o + 1, none⟩), .pointer (some ⟨M, o + 2, none⟩)] 86 (fun j hj => match j, hj with | 0, _ => rfl | 1, _ => rfl)).mono fun e w' ⟨h1, h2⟩ => ⟨h1, hu.more h2⟩)
    (fun u hu => (rints_call hu.1 hF (hu.lt hM) (hu.room hr (show 3 + 3 ≤ 6 by omega)) #[.pointer (some ⟨M, o + 3, none⟩), .pointer (some ⟨M, o + 4, none⟩), .pointer (some ⟨M, o + 5, none⟩)] 82 (fun j hj => match j, hj with | 0, _ => rfl | 1, _ => rfl | 2, _ => rfl)).mono fun e w' ⟨h1, h2⟩ => ⟨h1, hu.more h2⟩)
    w (RI.start h)

theorem rplan_any {B RR R : Nat} {a : Option Addr} {n cp : Nat} {bs : List Int} {s : St} {M o : Nat} {w : World} (h : RS w B RR R a n cp bs s) (hF : Far RR R a M) (hM : M < w.heap.size) (hr : Room w M o 7) :
    Calls Tryz.prog 42 #[.iface 131 (.pointer (some ⟨RR, 0, none⟩)), .pointer (some ⟨M, o, none⟩)] w (RP B RR R a n cp bs s M o w [0, 0, 0, 3, 3, 0, 0]) := by
  exact go_plan (M := M) (o := o) nilr_ints methr_ints callr_ints nilr_texts methr_texts callr_texts
    (R0 := RI B RR R a n cp bs s M o w [])
    (R1 := RI B RR R a n cp bs s M o w [0, 0, 0])
    (R2 := RI B RR R a n cp bs s M o w [0, 0, 0, 3, 3])
    (R3 := RI B RR R a n cp bs s M o w [0, 0, 0, 3, 3, 0, 0])
    (fun u hu => (rints_call hu.1 hF (hu.lt hM) (hu.room hr (show 0 + 3 ≤ 7 by omega)) #[.pointer (some ⟨M, o, none⟩), .pointer (some ⟨M, o + 1, none⟩), .pointer (some ⟨M, o + 2, none⟩)] 82 (fun j hj => match j, hj with | 0, _ => rfl | 1, _ => rfl | 2, _ => rfl)).mono fun e w' ⟨h1, h2⟩ => ⟨h1, hu.more h2⟩)
    (fun u hu => (rtexts_call hu.1 hF (hu.lt hM) (hu.room hr (show 3 + 2 ≤ 7 by omega)) #[.pointer (some ⟨M, o + 3, none⟩), .pointer (some ⟨M, o + 4, none⟩)] 86 (fun j hj => match j, hj with | 0, _ => rfl | 1, _ => rfl)).mono fun e w' ⟨h1, h2⟩ => ⟨h1, hu.more h2⟩)
    (fun u hu => (rints_call hu.1 hF (hu.lt hM) (hu.room hr (show 5 + 2 ≤ 7 by omega)) #[.pointer (some ⟨M, o + 5, none⟩), .pointer (some ⟨M, o + 6, none⟩)] 82 (fun j hj => match j, hj with | 0, _ => rfl | 1, _ => rfl)).mono fun e w' ⟨h1, h2⟩ => ⟨h1, hu.more h2⟩)
    w (RI.start h)






theorem rmark_any {B RR R : Nat} {a : Option Addr} {n cp : Nat} {bs : List Int} {s : St} {M o : Nat} {w : World} (h : RS w B RR R a n cp bs s) (hF : Far RR R a M) (hM : M < w.heap.size) (hr : Room w M o 7) :
    Calls Tryz.prog 33 #[.iface 131 (.pointer (some ⟨RR, 0, none⟩)), .pointer (some ⟨M, o, none⟩)] w (RP B RR R a n cp bs s M o w [0, 0, 2, 0, 0, 0, 0]) := by
  exact go_mark (M := M) (o := o) nilr_ints methr_ints callr_ints nilr_flag methr_flag callr_flag nilr_errno methr_errno callr_errno
    (R0 := RI B RR R a n cp bs s M o w [])
    (R1 := RI B RR R a n cp bs s M o w [0, 0])
    (R2 := RI B RR R a n cp bs s M o w [0, 0, 2])
    (R3 := RI B RR R a n cp bs s M o w [0, 0, 2, 0])
    (R4 := RI B RR R a n cp bs s M o w [0, 0, 2, 0, 0, 0, 0])
    (fun u hu => (rints_call hu.1 hF (hu.lt hM) (hu.room hr (show 0 + 2 ≤ 7 by omega)) #[.pointer (some ⟨M, o, none⟩), .pointer (some ⟨M, o + 1, none⟩)] 82 (fun j hj => match j, hj with | 0, _ => rfl | 1, _ => rfl)).mono fun e w' ⟨h1, h2⟩ => ⟨h1, hu.more h2⟩)
    (fun u hu => (rflag_call hu.1 hF (hu.lt hM) (hu.room hr (show 2 + 1 ≤ 7 by omega))).mono fun e w' ⟨h1, h2⟩ => ⟨h1, hu.more h2⟩)
    (fun u hu => (rerrno_call hu.1 hF (hu.lt hM) (hu.room hr (show 3 + 1 ≤ 7 by omega))).mono fun e w' ⟨h1, h2⟩ => ⟨h1, hu.more h2⟩)
    (fun u hu => (rints_call hu.1 hF (hu.lt hM) (hu.room hr (show 4 + 3 ≤ 7 by omega)) #[.pointer (some ⟨M, o + 4, none⟩), .pointer (some ⟨M, o + 5, none⟩), .pointer (some ⟨M, o + 6, none⟩)] 82 (fun j hj => match j, hj with | 0, _ => rfl | 1, _ => rfl | 2, _ => rfl)).mono fun e w' ⟨h1, h2⟩ => ⟨h1, hu.more h2⟩)
    w (RI.start h)

theorem rwait_any {B RR R : Nat} {a : Option Addr} {n cp : Nat} {bs : List Int} {s : St} {M o : Nat} {w : World} (h : RS w B RR R a n cp bs s) (hF : Far RR R a M) (hM : M < w.heap.size) (hr : Room w M o 11) :
    Calls Tryz.prog 36 #[.iface 131 (.pointer (some ⟨RR, 0, none⟩)), .pointer (some ⟨M, o, none⟩)] w (RP B RR R a n cp bs s M o w [0, 0, 0, 0, 0, 0, 3, 3, 0, 0, 0]) := by
  exact go_wait (M := M) (o := o) nilr_ints methr_ints callr_ints
    (R0 := RI B RR R a n cp bs s M o w [])
    (R1 := RI B RR R a n cp bs s M o w [0, 0, 0, 0, 0])
    (R2 := RI B RR R a n cp bs s M o w [0, 0, 0, 0, 0, 0, 3, 3, 0, 0, 0])
    (fun u hu => (rints_call hu.1 hF (hu.lt hM) (hu.room hr (show 0 + 5 ≤ 11 by omega)) #[.pointer (some ⟨M, o, none⟩), .pointer (some ⟨M, o + 1, none⟩), .pointer (some ⟨M, o + 2, none⟩), .pointer (some ⟨M, o + 3, none⟩), .pointer (some ⟨M, o + 4, none⟩)] 82 (fun j hj => match j, hj with | 0, _ => rfl | 1, _ => rfl | 2, _ => rfl | 3, _ => rfl | 4, _ => rfl)).mono fun e w' ⟨h1, h2⟩ => ⟨h1, hu.more h2⟩)
    (fun u hu => (rop_any hu.1 hF (hu.lt hM) (hu.room hr (show 5 + 6 ≤ 11 by omega))).mono fun e w' ⟨h1, h2⟩ => ⟨h1, hu.more h2⟩)
    w (RI.start h)

theorem rdeal_any {B RR R : Nat} {a : Option Addr} {n cp : Nat} {bs : List Int} {s : St} {M o : Nat} {w : World} (h : RS w B RR R a n cp bs s) (hF : Far RR R a M) (hM : M < w.heap.size) (hr : Room w M o 8) :
    Calls Tryz.prog 39 #[.iface 131 (.pointer (some ⟨RR, 0, none⟩)), .pointer (some ⟨M, o, none⟩)] w (RP B RR R a n cp bs s M o w [0, 0, 3, 3, 0, 0, 0, 0]) := by
  exact go_deal (M := M) (o := o) nilr_ints methr_ints callr_ints nilr_texts methr_texts callr_texts
    (R0 := RI B RR R a n cp bs s M o w [])
    (R1 := RI B RR R a n cp bs s M o w [0, 0])
    (R2 := RI B RR R a n cp bs s M o w [0, 0, 3, 3])
    (R3 := RI B RR R a n cp bs s M o w [0, 0, 3, 3, 0, 0, 0, 0])
    (fun u hu => (rints_call hu.1 hF (hu.lt hM) (hu.room hr (show 0 + 2 ≤ 8 by omega)) #[.pointer (some ⟨M, o, none⟩), .pointer (some ⟨M, o + 1, none⟩)] 82 (fun j hj => match j, hj with | 0, _ => rfl | 1, _ => rfl)).mono fun e w' ⟨h1, h2⟩ => ⟨h1, hu.more h2⟩)
    (fun u hu => (rtexts_call hu.1 hF (hu.lt hM) (hu.room hr (show 2 + 2 ≤ 8 by omega)) #[.pointer (some ⟨M, o + 2, none⟩), .pointer (some ⟨M, o + 3, none⟩)] 86 (fun j hj => match j, hj with | 0, _ => rfl | 1, _ => rfl)).mono fun e w' ⟨h1, h2⟩ => ⟨h1, hu.more h2⟩)
    (fun u hu => (rints_call hu.1 hF (hu.lt hM) (hu.room hr (show 4 + 4 ≤ 8 by omega)) #[.pointer (some ⟨M, o + 4, none⟩), .pointer (some ⟨M, o + 5, none⟩), .pointer (some ⟨M, o + 6, none⟩), .pointer (some ⟨M, o + 7, none⟩)] 82 (fun j hj => match j, hj with | 0, _ => rfl | 1, _ => rfl | 2, _ => rfl | 3, _ => rfl)).mono fun e w' ⟨h1, h2⟩ => ⟨h1, hu.more h2⟩)
    w (RI.start h)


theorem rcommand_any {B RR R : Nat} {a : Option Addr} {n cp : Nat} {bs : List Int} {s : St} {M o : Nat} {w : World} (h : RS w B RR R a n cp bs s) (hF : Far RR R a M) (hM : M < w.heap.size) (hr : Room w M o 25) :
    Calls Tryz.prog 59 #[.iface 131 (.pointer (some ⟨RR, 0, none⟩)), .pointer (some ⟨M, o, none⟩)] w (RP B RR R a n cp bs s M o w [0, 0, 0, 0, 0, 0, 3, 0, 0, 0, 2, 0, 3, 3, 0, 0, 0, 0, 0, 0, 3, 3, 0, 0, 4]) := by
  exact go_command (M := M) (o := o) nilr_ints methr_ints callr_ints nilr_texts methr_texts callr_texts nilr_flag methr_flag callr_flag nilr_bytes methr_bytes callr_bytes
    (R0 := RI B RR R a n cp bs s M o w [])
    (R1 := RI B RR R a n cp bs s M o w [0, 0, 0, 0, 0, 0])
    (R2 := RI B RR R a n cp bs s M o w [0, 0, 0, 0, 0, 0, 3])
    (R3 := RI B RR R a n cp bs s M o w [0, 0, 0, 0, 0, 0, 3, 0, 0, 0])
    (R4 := RI B RR R a n cp bs s M o w [0, 0, 0, 0, 0, 0, 3, 0, 0, 0, 2])
    (R5 := RI B RR R a n cp bs s M o w [0, 0, 0, 0, 0, 0, 3, 0, 0, 0, 2, 0, 3, 3, 0, 0, 0])
    (R6 := RI B RR R a n cp bs s M o w [0, 0, 0, 0, 0, 0, 3, 0, 0, 0, 2, 0, 3, 3, 0, 0, 0, 0, 0, 0, 3, 3, 0, 0])
    (R7 := RI B RR R a n cp bs s M o w [0, 0, 0, 0, 0, 0, 3, 0, 0, 0, 2, 0, 3, 3, 0, 0, 0, 0, 0, 0, 3, 3, 0, 0, 4])
    (fun u hu => (rints_call hu.1 hF (hu.lt hM) (hu.room hr (show 0 + 6 ≤ 25 by omega)) #[.pointer (some ⟨M, o, none⟩), .pointer (some ⟨M, o + 1, none⟩), .pointer (some ⟨M, o + 2, none⟩), .pointer (some ⟨M, o + 3, none⟩), .pointer (some ⟨M, o + 4, none⟩), .pointer (some ⟨M, o + 5, none⟩)] 82 (fun j hj => match j, hj with | 0, _ => rfl | 1, _ => rfl | 2, _ => rfl | 3, _ => rfl | 4, _ => rfl | 5, _ => rfl)).mono fun e w' ⟨h1, h2⟩ => ⟨h1, hu.more h2⟩)
    (fun u hu => (rtexts_call hu.1 hF (hu.lt hM) (hu.room hr (show 6 + 1 ≤ 25 by omega)) #[.pointer (some ⟨M, o + 6, none⟩)] 86 (fun j hj => match j, hj with | 0, _ => rfl)).mono fun e w' ⟨h1, h2⟩ => ⟨h1, hu.more h2⟩)
    (fun u hu => (rints_call hu.1 hF (hu.lt hM) (hu.room hr (show 7 + 3 ≤ 25 by omega)) #[.pointer (some ⟨M, o + 7, none⟩), .pointer (some ⟨M, o + 8, none⟩), .pointer (some ⟨M, o + 9, none⟩)] 82 (fun j hj => match j, hj with | 0, _ => rfl | 1, _ => rfl | 2, _ => rfl)).mono fun e w' ⟨h1, h2⟩ => ⟨h1, hu.more h2⟩)
    (fun u hu => (rflag_call hu.1 hF (hu.lt hM) (hu.room hr (show 10 + 1 ≤ 25 by omega))).mono fun e w' ⟨h1, h2⟩ => ⟨h1, hu.more h2⟩)
    (fun u hu => (rop_any hu.1 hF (hu.lt hM) (hu.room hr (show 11 + 6 ≤ 25 by omega))).mono fun e w' ⟨h1, h2⟩ => ⟨h1, hu.more h2⟩)
    (fun u hu => (rplan_any hu.1 hF (hu.lt hM) (hu.room hr (show 17 + 7 ≤ 25 by omega))).mono fun e w' ⟨h1, h2⟩ => ⟨h1, hu.more h2⟩)
    (fun u hu => (rbytes_call hu.1 hF (hu.lt hM) (hu.room hr (show 24 + 1 ≤ 25 by omega))).mono fun e w' ⟨h1, h2⟩ => ⟨h1, hu.more h2⟩)
    w (RI.start h)


end Go.Proofs.YthklpkmdmkgjiaaGreat

namespace Go.Proofs.YthklpkmdmkgjiaaGreat
open Go.ChangeShapes Go.WideShapes Go.ChangeAt Go.RowKit B8 Cm Wm
set_option linter.unusedVariables false

theorem ws_new {B : Nat} (w : World) (hB : B ≤ w.heap.size) : WS (w.alloc (.cells #[.slice none 0 0, .bool false] 78)) B w.heap.size [] :=
  ⟨.slice none 0 0, [], false, by simp, by simp, by simp, by simp, World.ownsRow_nil _ _ _ _, wfs_nil, fun _ => ⟨rfl, rfl⟩, fun h => absurd h (by decide), by simp [Value.ownBlock], by simp, hB⟩
theorem wown_first (w : World) {k : Nat} (h : Wown w.heap.size (w.alloc (.cells #[.slice none 0 0, .bool false] 78)) k) : k = w.heap.size := by
  rcases h with h | ⟨v, h1, h2⟩
  · exact h
  · have : (w.alloc (.cells #[.slice none 0 0, .bool false] 78)).cell? ⟨w.heap.size, 0, none⟩ = some (.slice none 0 0) := by simp
    rw [this] at h1
    obtain rfl := Option.some.inj h1
    simp [Value.ownBlock] at h2


theorem rs_new {w w4 : World} {B R n : Nat} {bs : List Int} (hB : B ≤ w4.heap.size) (hm : Made w w4 R n bs) (hR : w.heap.size ≤ R) (hn : n ≤ 65536) : ∃ a cp, RS (w4.alloc (.cells #[.pointer (some ⟨R, 0, none⟩), .bool false] 135)) B w4.heap.size R a n cp bs ⟨0, 0⟩ ∧ ∀ b off, a = some ⟨b, off, none⟩ → w.heap.size ≤ b := by
  obtain ⟨a, cp, hr, hb⟩ := hm
  have hlt := World.block_lt_of_cell? w4 _ hr.c0
  have hbl : Below w4.heap.size w4 (w4.alloc (.cells #[.pointer (some ⟨R, 0, none⟩), .bool false] 135)) := Below.alloc (Below.refl _ _) (Nat.le_refl _) _
  have hlt' : R < w4.heap.size := hlt
  exact ⟨a, cp, ⟨⟨0, 0⟩, false, by simp, by simp, by simp, hr.grown (grown_below hbl none) (by simp) (by simp), by omega, fun b off e => ⟨by have := (hb b off e).2; omega, by have := (hb b off e).2; simp; omega⟩, hn, Nat.le_trans hB hbl.size, fun _ => rfl, fun h => by cases h⟩, fun b off e => (hb b off e).1⟩
end Go.Proofs.YthklpkmdmkgjiaaGreat
