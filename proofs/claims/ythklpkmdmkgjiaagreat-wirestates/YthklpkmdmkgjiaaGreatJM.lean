/- The document's walk as it reads: one field after the other. No condition but the size. What the document's walk reads of the things whose fields are plain. No condition but the size. The document's walk that has just been made: to write, to read. No condition. -/
import Derived.Test.YthklpkmdmkgjiaaGreatJI
import Derived.Test.YthklpkmdmkgjiaaGreatJC
import Derived.Deep.Cut
import Derived.Test.YthklpkmdmkgjiaaGreatJK
import Derived.Test.YthklpkmdmkgjiaaGreatJL
import Derived.Test.YthklpkmdmkgjiaaGreatJA
namespace Go.Proofs.YthklpkmdmkgjiaaGreat
open Go.ChangeShapes Go.WideShapes Go.ChangeAt Go.RowKit B8 Cm Wm
set_option linter.unusedVariables false

/-- the document's walk at W, which reads by the document's reader at R: it stands as s says -/
structure XS (w : World) (B W R : Nat) (a : Option Addr) (n cp : Nat) (bs : List Int) (s : St) : Prop where
  c1 : w.cell? ⟨W, 1, none⟩ = some (.pointer (some ⟨R, 0, none⟩))
  rd : Rd w R a n cp bs s.pl s.err
  ne : W ≠ R
  ap : ∀ b off, a = some ⟨b, off, none⟩ → b ≠ W ∧ b < w.heap.size
  home : ∃ b off, a = some ⟨b, off, none⟩
  small : n ≤ 65536
  low : B ≤ w.heap.size

section
variable {w w1 : World} {B W R : Nat} {a : Option Addr} {n cp : Nat} {bs : List Int} {s s' : St} {M p : Nat}
theorem XS.lt (h : XS w B W R a n cp bs s) : W < w.heap.size ∧ R < w.heap.size := ⟨World.block_lt_of_cell? w _ h.c1, World.block_lt_of_cell? w _ h.rd.c0⟩
theorem XS.read (h : XS w B W R a n cp bs s) (hr : Rd w1 R a n cp bs s'.pl s'.err) (hg : w.grownBy w1 (some R)) : XS w1 B W R a n cp bs s' := by
  have hne : some W ≠ some R := fun e => h.ne (by simpa using e)
  exact ⟨hg.cell h.c1 hne, hr, h.ne, fun b off e => ⟨(h.ap b off e).1, Nat.lt_of_lt_of_le (h.ap b off e).2 hg.size⟩, h.home, h.small, Nat.le_trans h.low hg.size⟩
theorem XS.store (h : XS w B W R a n cp bs s) (hM : Far W R a M) (v : Value) : XS (w.setCell ⟨M, p, none⟩ v) B W R a n cp bs s := by
  have hg := grown_setCell w M p v
  have hne : some W ≠ some M := fun e => hM.1 (by simpa using e.symm)
  exact ⟨hg.cell h.c1 hne, h.rd.grown hg (fun e => hM.2.1 (by simpa using e.symm)) (fun b off e => fun e2 => hM.2.2 b off e (by simpa using e2)), h.ne, fun b off e => ⟨(h.ap b off e).1, by simpa [World.setCell] using (h.ap b off e).2⟩, h.home, h.small, by simpa [World.setCell] using h.low⟩
theorem XS.below (h : XS w B W R a n cp bs s) (hb : Below w.heap.size w w1) : XS w1 B W R a n cp bs s := by
  have hg := grown_below hb none
  exact ⟨hg.cell h.c1 (by simp), h.rd.grown hg (by simp) (by simp), h.ne, fun b off e => ⟨(h.ap b off e).1, Nat.lt_of_lt_of_le (h.ap b off e).2 hg.size⟩, h.home, h.small, Nat.le_trans h.low hg.size⟩
/-- a field that was read, and stored -/
theorem xread_store {k : Nat} {V : Value} (h : XS w B W R a n cp bs s) (hM : Far W R a M) (hlt : M < w.heap.size) (hc : ∃ v, w.cell? ⟨M, p, none⟩ = some v)
    (hg : w.grownBy w1 (some R)) (hr : Rd w1 R a n cp bs (atomA bs k s).s.pl (atomA bs k s).s.err) (hV : AtomV w1 (fun b => w.heap.size ≤ b ∧ b < w1.heap.size) V (atomA bs k s).v) :
    XS (w1.setCell ⟨M, p, none⟩ V) B W R a n cp bs (atomA bs k s).s ∧ FlatAt (w1.setCell ⟨M, p, none⟩ V) (OutB B (Rown W R) M (w1.setCell ⟨M, p, none⟩ V)) M p [(atomA bs k s).v] ∧ Stp (Rown W R) M p (p + 1) w (w1.setCell ⟨M, p, none⟩ V) := by
  have hl := h.lt
  refine ⟨(h.read hr hg).store hM V, ?_, stp_store hM hg hlt V⟩
  intro j x hx
  match j, hx with
  | 0, hx =>
    have ex : (atomA bs k s).v = x := by simpa using hx
    subst ex
    obtain ⟨v0, hv0⟩ := hc
    have hv1 := hg.cell hv0 (fun e => hM.2.1 (by simpa using e))
    refine ⟨V, World.cell?_setCell_same _ _ _ hv1, hV.same fun b hb => ?_⟩
    have hbM : b ≠ M := by omega
    refine ⟨⟨Nat.le_trans h.low hb.1, by simpa [World.setCell] using hb.2, fun e => ?_, hbM⟩, Below.heap_setCell _ _ _ _ hbM⟩
    rcases e with e | e
    · omega
    · omega
/-- what reading one field of this kind at p brings about -/
def XP1 (B W R : Nat) (a : Option Addr) (n cp : Nat) (bs : List Int) (s : St) (M p : Nat) (w : World) (k : Nat) (e : Ending) (u : World) : Prop :=
  e = .returned (.tuple #[]) ∧ XS u B W R a n cp bs (atomA bs k s).s ∧ FlatAt u (OutB B (Rown W R) M u) M p [(atomA bs k s).v] ∧ Stp (Rown W R) M p (p + 1) w u
end

theorem xnum_any {w : World} {B W R : Nat} {a : Option Addr} {n cp : Nat} {bs : List Int} {s : St} {M p : Nat} (h : XS w B W R a n cp bs s) (hM : Far W R a M) (hlt : M < w.heap.size) (hr : Room w M p 1) :
    Calls Tryz.prog 47 #[.pointer (some ⟨W, 0, none⟩), .pointer (some ⟨M, p, none⟩)] w (XP1 B W R a n cp bs s M p w 0) := by
  have c1 := h.c1
  have C := hide (int_any (s := s) h.rd)
  have H := hide h
  have HM := hide hM
  obtain ⟨hc, hf⟩ := hr 0 (by omega)
  have HC := hide hc
  have hf : w.frozen? ⟨M, p, none⟩ = false := hf
  clear h hM hr hc
  go_enter Tryz.func47, Tryz.ntmps47
  go_wp2_with fail
  refine C.out.mono ?_
  rintro e w1 ⟨rfl, hr1, hg1⟩
  have hne : some M ≠ some R := fun e => HM.out.2.1 (by simpa using e)
  obtain ⟨v0, hv0⟩ := HC.out
  have c2 : w1.cell? ⟨M, p, none⟩ = some v0 := hg1.cell hv0 hne
  have f1 : w1.frozen? ⟨M, p, none⟩ = false := (World.frozen?_of_block (w := w) (hg1.block M hlt hne)).trans hf
  have RSx := hide (xread_store (k := 0) (V := .int .i64 (intA bs s).v) H.out HM.out hlt HC.out hg1 hr1 (atomV_int H.out.rd.sq.wf))
  clear hr1 hg1 hv0 hne hf c1
  go_wp2_with fail
  refine bodyPost_end (results_none rfl _ _ _) rfl ?_
  exact ⟨rfl, RSx.out⟩
theorem xflag_any {w : World} {B W R : Nat} {a : Option Addr} {n cp : Nat} {bs : List Int} {s : St} {M p : Nat} (h : XS w B W R a n cp bs s) (hM : Far W R a M) (hlt : M < w.heap.size) (hr : Room w M p 1) :
    Calls Tryz.prog 45 #[.pointer (some ⟨W, 0, none⟩), .pointer (some ⟨M, p, none⟩)] w (XP1 B W R a n cp bs s M p w 2) := by
  have c1 := h.c1
  have C := hide (flag_any (s := s) h.rd)
  have H := hide h
  have HM := hide hM
  obtain ⟨hc, hf⟩ := hr 0 (by omega)
  have HC := hide hc
  have hf : w.frozen? ⟨M, p, none⟩ = false := hf
  clear h hM hr hc
  go_enter Tryz.func45, Tryz.ntmps45
  go_wp2_with fail
  refine C.out.mono ?_
  rintro e w1 ⟨rfl, hr1, hg1⟩
  have hne : some M ≠ some R := fun e => HM.out.2.1 (by simpa using e)
  obtain ⟨v0, hv0⟩ := HC.out
  have c2 : w1.cell? ⟨M, p, none⟩ = some v0 := hg1.cell hv0 hne
  have f1 : w1.frozen? ⟨M, p, none⟩ = false := (World.frozen?_of_block (w := w) (hg1.block M hlt hne)).trans hf
  have RSx := hide (xread_store (k := 2) (V := .bool (flagA bs s).v) H.out HM.out hlt HC.out hg1 hr1 atomV_flag)
  clear hr1 hg1 hv0 hne hf c1
  go_wp2_with fail
  refine bodyPost_ret (results_none rfl _ _ _) rfl ?_
  exact ⟨rfl, RSx.out⟩
theorem textA_wfs {bs : List Int} (h : wfs bs) (most : Int) (s : St) : wfs (textA bs most s).v := by
  by_cases h1 : (countA bs most s).s.err = 0
  · by_cases h2 : bs.length - (countA bs most s).s.pl < (countA bs most s).v
    · rw [textA_short _ _ _ h1 h2]; exact wfs_nil
    · rw [textA_good _ _ _ h1 h2]; exact wfs_take (wfs_drop h _) _
  · rw [textA_fault _ _ _ h1]; exact wfs_nil
theorem xbytes_any {w : World} {B W R : Nat} {a : Option Addr} {n cp : Nat} {bs : List Int} {s : St} {M p : Nat} (h : XS w B W R a n cp bs s) (hM : Far W R a M) (hlt : M < w.heap.size) (hr : Room w M p 1) :
    Calls Tryz.prog 54 #[.pointer (some ⟨W, 0, none⟩), .pointer (some ⟨M, p, none⟩)] w (XP1 B W R a n cp bs s M p w 4) := by
  have c1 := h.c1
  have C := hide (text_any (s := s) 65535 (by omega) h.home h.rd)
  have H := hide h
  have HM := hide hM
  obtain ⟨hc, hf⟩ := hr 0 (by omega)
  have HC := hide hc
  have hf : w.frozen? ⟨M, p, none⟩ = false := hf
  clear h hM hr hc
  go_enter Tryz.func54, Tryz.ntmps54
  go_wp2_with fail
  refine C.out.mono ?_
  rintro e w1 ⟨v, rfl, hown, hr1, hg1⟩
  obtain ⟨av, cv, rfl, hm1⟩ := mine_of_row rfl (textA_wfs H.out.rd.sq.wf 65535 s) hown
  have hne : some M ≠ some R := fun e => HM.out.2.1 (by simpa using e)
  obtain ⟨v0, hv0⟩ := HC.out
  have c2 : w1.cell? ⟨M, p, none⟩ = some v0 := hg1.cell hv0 hne
  have f1 : w1.frozen? ⟨M, p, none⟩ = false := (World.frozen?_of_block (w := w) (hg1.block M hlt hne)).trans hf
  have RSx := hide (xread_store (k := 4) H.out HM.out hlt HC.out hg1 hr1 (atomV_bytes ⟨av, cv, rfl, hm1⟩ (by rw [H.out.rd.sq.length]; exact H.out.small)))
  clear hm1 hown hr1 hg1 hv0 hne hf c1
  go_wp2_with fail
  refine bodyPost_ret (results_none rfl _ _ _) rfl ?_
  exact ⟨rfl, RSx.out⟩
theorem xtext_any {w : World} {B W R : Nat} {a : Option Addr} {n cp : Nat} {bs : List Int} {s : St} {M p : Nat} (h : XS w B W R a n cp bs s) (hM : Far W R a M) (hlt : M < w.heap.size) (hr : Room w M p 1) :
    Calls Tryz.prog 46 #[.pointer (some ⟨W, 0, none⟩), .pointer (some ⟨M, p, none⟩)] w (XP1 B W R a n cp bs s M p w 3) := by
  have hl := h.lt
  obtain ⟨hc, hf⟩ := hr 0 (by omega)
  have hf : w.frozen? ⟨M, p, none⟩ = false := hf
  obtain ⟨v0, hc⟩ := hc
  have hc : w.cell? ⟨M, p, none⟩ = some v0 := hc
  have hb1 : Below w.heap.size w (w.alloc (.cells #[.slice none 0 0] 29)) := Below.alloc (Below.refl _ _) (Nat.le_refl _) _
  have hn0 : (w.alloc (.cells #[.slice none 0 0] 29)).cell? ⟨w.heap.size, 0, none⟩ = some (.slice none 0 0) := by simp
  have hnf : (w.alloc (.cells #[.slice none 0 0] 29)).frozen? ⟨w.heap.size, 0, none⟩ = false := by simp
  obtain ⟨w1, e1⟩ : ∃ w1, w1 = w.alloc (.cells #[.slice none 0 0] 29) := ⟨_, rfl⟩
  rw [← e1] at hb1 hn0 hnf
  have E1 := hide e1.symm
  have h1 := h.below hb1
  have hlN : w.heap.size < w1.heap.size := World.block_lt_of_cell? w1 _ hn0
  have farN : Far W R a w.heap.size := ⟨by omega, by omega, fun b off e => by have := (h.ap b off e).2; omega⟩
  have roomN : Room w1 w.heap.size 0 1 := fun j hj => by
    obtain rfl : j = 0 := by omega
    exact ⟨⟨_, hn0⟩, hnf⟩
  have CB := hide (xbytes_any h1 farN hlN roomN)
  have c1 := h1.c1
  have H := hide h
  have HM := hide hM
  have HB1 := hide hb1
  have HC := hide hc
  have HF := hide hf
  have LN := hide hlN
  clear h h1 farN roomN hb1 hn0 hnf hM hr e1 hc hf
  go_enter Tryz.func46, Tryz.ntmps46
  go_upto_region 1 with fail
  rw [E1.out]
  clear E1
  go_wp2_with fail
  refine CB.out.mono ?_
  rintro e u ⟨rfl, hx, hfl, hst⟩
  obtain ⟨v, hcN, hv⟩ := hfl 0 _ rfl
  obtain ⟨av, kv, cv, rfl, q, _, _⟩ : ∃ av kv cv, v = .slice av kv cv ∧ Sq u av kv cv (textA bs 65535 s).v ∧ kv ≤ 140737488351232 ∧ ∀ b off, av = some ⟨b, off, none⟩ → 0 < kv → OutB B (Rown W R) w.heap.size u b := by
    rcases hv with hv | hv | hv | hv | hv
    · exact absurd (show (4 : Nat) = 0 from hv.1) (by decide)
    · exact absurd (show (4 : Nat) = 1 from hv.1) (by decide)
    · exact absurd (show (4 : Nat) = 2 from hv.1) (by decide)
    · exact absurd (show (4 : Nat) = 3 from hv.1) (by decide)
    · exact hv.2
  have hcN : u.cell? ⟨w.heap.size, 0, none⟩ = some (.slice av kv cv) := hcN
  have hcv := bytes_string q
  have hlt1 : M < w1.heap.size := Nat.lt_of_lt_of_le hlt HB1.out.size
  have blkM : u.heap[M]? = w.heap[M]? := (hst.block M hlt1 (far_own HM.out w1) (by omega)).trans (HB1.out.block M hlt)
  have cM : u.cell? ⟨M, p, none⟩ = some v0 := (World.cell?_of_block (w := w) blkM).trans HC.out
  have fM : u.frozen? ⟨M, p, none⟩ = false := (World.frozen?_of_block (w := w) blkM).trans HF.out
  have FIN : Hid (XS (u.setCell ⟨M, p, none⟩ (.string (strOfNums (textA bs 65535 s).v))) B W R a n cp bs (atomA bs 3 s).s ∧ FlatAt (u.setCell ⟨M, p, none⟩ (.string (strOfNums (textA bs 65535 s).v))) (OutB B (Rown W R) M (u.setCell ⟨M, p, none⟩ (.string (strOfNums (textA bs 65535 s).v)))) M p [(atomA bs 3 s).v] ∧ Stp (Rown W R) M p (p + 1) w (u.setCell ⟨M, p, none⟩ (.string (strOfNums (textA bs 65535 s).v)))) := by
    refine ⟨hx.store HM.out _, fun j x hx => ?_, ?_⟩
    · match j, hx with
      | 0, hx =>
        have ex : (atomA bs 3 s).v = x := by simpa using hx
        subst ex
        exact ⟨_, World.cell?_setCell_same _ _ _ cM, atomV_text (textA_wfs H.out.rd.sq.wf 65535 s) (by rw [H.out.rd.sq.length]; exact H.out.small)⟩
    · have hq : Stq (Rown W R) w u := hst.inner (rq_below W R HB1.out) (Nat.le_refl _)
      exact ⟨hq.os, hq.tape, hq.output, by simpa [World.setCell] using hq.size, fun k hk hs hne => (Below.heap_setCell _ _ _ _ hne).trans (hq.block k hk hs), fun o ho => by
        rw [World.cell?_setCell_other _ _ _ _ (by intro e; cases e; omega)]; exact World.cell?_of_block (w := w) blkM, fun o => by rw [World.frozen?_setCell]; exact World.frozen?_of_block (w := w) blkM, fun k hk => .inl hk⟩
  clear hx hfl hst hv q blkM hlt1 CB H HM HB1 HC HF LN
  go_wp2_with fail
  refine bodyPost_end (results_none rfl _ _ _) rfl ?_
  exact ⟨rfl, FIN.out⟩
/-- a walk that reads a thing at M, from o on: it stands behind the fields of these kinds -/
def XI (B W R : Nat) (a : Option Addr) (n cp : Nat) (bs : List Int) (s : St) (M o : Nat) (w : World) (pre : List Nat) (u : World) : Prop :=
  XS u B W R a n cp bs (flatA bs pre s).s ∧ FlatAt u (OutB B (Rown W R) M u) M o (flatA bs pre s).v ∧ Stp (Rown W R) M o (o + pre.length) w u
def XP (B W R : Nat) (a : Option Addr) (n cp : Nat) (bs : List Int) (s : St) (M p : Nat) (w : World) (ks : List Nat) (e : Ending) (u : World) : Prop :=
  e = .returned (.tuple #[]) ∧ XI B W R a n cp bs s M p w ks u
section
variable {B W R : Nat} {a : Option Addr} {n cp : Nat} {bs : List Int} {s : St} {M o : Nat} {w u u' : World} {pre ks : List Nat}
theorem XI.start (h : XS w B W R a n cp bs s) : XI B W R a n cp bs s M o w [] w := ⟨h, FlatAt.nil, Stp.refl _ _ _ _ _⟩
theorem XI.more (h : XI B W R a n cp bs s M o w pre u) (g : XI B W R a n cp bs (flatA bs pre s).s M (o + pre.length) u ks u') : XI B W R a n cp bs s M o w (pre ++ ks) u' := by
  have hp : (flatA bs pre s).v.length = pre.length := flatA_length bs pre s
  refine ⟨?_, ?_, ?_⟩
  · rw [flatA_append]; exact g.1
  · rw [flatA_append]
    refine (h.2.1.stepB g.2.2 (.inr (by rw [hp]; omega))).append ?_
    rw [hp]
    exact g.2.1
  · rw [List.length_append]
    exact (h.2.2.wider (Nat.le_refl _) (by omega)).trans (g.2.2.wider (by omega) (by omega))
theorem XI.room {N k : Nat} (h : XI B W R a n cp bs s M o w pre u) (hr : Room w M o N) (hk : pre.length + k ≤ N) : Room u M (o + pre.length) k := (hr.part hk).step h.2.2 (.inl (Nat.le_refl _))
theorem XI.lt (h : XI B W R a n cp bs s M o w pre u) (hM : M < w.heap.size) : M < u.heap.size := Nat.lt_of_lt_of_le hM h.2.2.size
theorem XP1.to {k : Nat} {e : Ending} (h : XP1 B W R a n cp bs s M o w k e u) : XP B W R a n cp bs s M o w [k] e u := ⟨h.1, h.2.1, h.2.2.1, h.2.2.2⟩
end
theorem xnums_any {w : World} {B W R : Nat} {a : Option Addr} {n cp : Nat} {bs : List Int} {s : St} {L M o k c : Nat} (h : XS w B W R a n cp bs s) (hM : Far W R a M) (hlt : M < w.heap.size) (hr : Room w M o k) (hm : k ≤ 1000000)
    (hL : L < w.heap.size ∧ L ≠ M ∧ L ≠ W ∧ L ≠ R) (hp : ∀ j, j < k → w.cell? ⟨L, j, none⟩ = some (.pointer (some ⟨M, o + j, none⟩))) :
    Calls Tryz.prog 44 #[.pointer (some ⟨W, 0, none⟩), .slice (some ⟨L, 0, none⟩) k c] w (XP B W R a n cp bs s M o w (List.replicate k 0)) := by
  have H := hide h
  have HM := hide hM
  have HR := hide hr
  have HP := hide hp
  have HL := hide hL
  clear h hM hr hp hL
  go_enter Tryz.func44, Tryz.ntmps44
  go_wp2_with fail
  go_loopw [4] (fun i wr => ∃ j : Nat, j ≤ k ∧ i = .int .i64 j ∧ Hid (XI B W R a n cp bs s M o w (List.replicate j 0) wr)) (fun i _ => k - (intOf i).toNat)
  case atStart => exact ⟨0, Nat.zero_le _, rfl, XI.start H.out⟩
  case round =>
    obtain ⟨j, hj, rfl, HW⟩ := hrel
    by_cases hjk : j < k
    · have hi : (j : Int) < (k : Int) := by omega
      have c1 : wr.cell? ⟨L, j, none⟩ = some (.pointer (some ⟨M, o + j, none⟩)) := (World.cell?_of_block (w := w) (HW.out.2.2.block L HL.out.1 (fun e => by rcases e with e | e; exact HL.out.2.2.1 e; exact HL.out.2.2.2 e) HL.out.2.1)).trans (HP.out j hjk)
      have rm := HW.out.room (k := 1) HR.out (by rw [List.length_replicate]; omega)
      rw [List.length_replicate] at rm
      have C := hide (xnum_any HW.out.1 HM.out (HW.out.lt hlt) rm)
      clear rm
      go_wp2_with fail
      refine C.out.mono ?_
      rintro e w2 h2
      obtain ⟨rfl, h3⟩ := h2.to
      have HX : Hid (XI B W R a n cp bs s M o w (List.replicate (j + 1) 0) w2) := by
        show XI _ _ _ _ _ _ _ _ _ _ _ _ _
        rw [List.replicate_succ']
        refine HW.out.more ?_
        rw [List.length_replicate]
        exact h3
      clear h2 h3 C
      go_wp2_with fail
      go_roundw
      case rel => exact ⟨j + 1, by omega, by go_num, HX⟩
      case measure => simp [intOf]; omega
    · obtain rfl : j = k := by omega
      go_wp2_with fail
      refine bodyPost_end (results_none rfl _ _ _) rfl ?_
      exact ⟨rfl, HW.out⟩
theorem xend_any {w : World} {B W R : Nat} {a : Option Addr} {n cp : Nat} {bs : List Int} {s : St} (h : XS w B W R a n cp bs s) :
    Calls Tryz.prog 19 #[.pointer (some ⟨R, 0, none⟩)] w fun e w' => e = .returned (.int .i64 (endA bs s)) ∧ ∃ m, w' = w.drewN m := end_any h.rd
end Go.Proofs.YthklpkmdmkgjiaaGreat

namespace Go.Proofs.YthklpkmdmkgjiaaGreat
open Go.ChangeShapes Go.WideShapes Go.ChangeAt Go.RowKit B8 Cm Wm
set_option linter.unusedVariables false

theorem ptr_cellsx (w : World) (cs : Array Value) (T : TypeId) (M o n : Nat) (hc : ∀ j, j < n → cs[j]? = some (.pointer (some ⟨M, o + j, none⟩))) : ∀ j, j < n → (w.alloc (.cells cs T)).drew.cell? ⟨w.heap.size, j, none⟩ = some (.pointer (some ⟨M, o + j, none⟩)) := by
  intro j hj
  have : (w.alloc (.cells cs T)).drew.heap[w.heap.size]? = some (.cells cs T) := heap_alloc_new w _
  unfold World.cell?
  rw [this]
  exact hc j hj
section
variable {B W R : Nat} {a : Option Addr} {n cp : Nat} {bs : List Int} {s : St} {M p k : Nat} {w : World}
theorem below_ptrsx (w : World) (o : Obj) : Below w.heap.size w (w.alloc o).drew := (Below.alloc (Below.refl _ _) (Nat.le_refl _) o).drew
theorem xi_stq {w1 u : World} {ks : List Nat} (g : Stq (Rown W R) w w1) (hM : M < w.heap.size) (hF : Far W R a M) (h : XI B W R a n cp bs s M p w1 ks u) : XI B W R a n cp bs s M p w ks u :=
  ⟨h.1, h.2.1, (g.to hM (far_own hF w) p (p + ks.length)).trans h.2.2⟩
theorem xnums_call (h : XS w B W R a n cp bs s) (hF : Far W R a M) (hM : M < w.heap.size) (hr : Room w M p k) (cs : Array Value) (T : TypeId) (hc : ∀ j, j < k → cs[j]? = some (.pointer (some ⟨M, p + j, none⟩))) (hm : k ≤ 1000000 := by omega) :
    Calls Tryz.prog 44 #[.pointer (some ⟨W, 0, none⟩), .slice (some ⟨w.heap.size, 0, none⟩) k k] (w.alloc (.cells cs T)).drew (XP B W R a n cp bs s M p w (List.replicate k 0)) := by
  have hb := below_ptrsx w (.cells cs T)
  have hq := rq_below W R hb
  have hl := h.lt
  exact (xnums_any (c := k) (h.below hb) hF (Nat.lt_of_lt_of_le hM hb.size) (hr.step (hq.to hM (far_own hF w) 0 0) (.inl (Nat.zero_le _))) hm ⟨by simp, by omega, by omega, by omega⟩ (ptr_cellsx w cs T M p k hc)).mono fun e w' ⟨h1, h2⟩ => ⟨h1, xi_stq hq hM hF h2⟩
theorem xnum_call (h : XS w B W R a n cp bs s) (hF : Far W R a M) (hM : M < w.heap.size) (hr : Room w M p 1) :
    Calls Tryz.prog 47 #[.pointer (some ⟨W, 0, none⟩), .pointer (some ⟨M, p, none⟩)] w (XP B W R a n cp bs s M p w [0]) := (xnum_any h hF hM hr).mono fun e w' h => h.to
theorem xflag_call (h : XS w B W R a n cp bs s) (hF : Far W R a M) (hM : M < w.heap.size) (hr : Room w M p 1) :
    Calls Tryz.prog 45 #[.pointer (some ⟨W, 0, none⟩), .pointer (some ⟨M, p, none⟩)] w (XP B W R a n cp bs s M p w [2]) := (xflag_any h hF hM hr).mono fun e w' h => h.to
theorem xbytes_call (h : XS w B W R a n cp bs s) (hF : Far W R a M) (hM : M < w.heap.size) (hr : Room w M p 1) :
    Calls Tryz.prog 54 #[.pointer (some ⟨W, 0, none⟩), .pointer (some ⟨M, p, none⟩)] w (XP B W R a n cp bs s M p w [4]) := (xbytes_any h hF hM hr).mono fun e w' h => h.to
theorem xtext_call (h : XS w B W R a n cp bs s) (hF : Far W R a M) (hM : M < w.heap.size) (hr : Room w M p 1) :
    Calls Tryz.prog 46 #[.pointer (some ⟨W, 0, none⟩), .pointer (some ⟨M, p, none⟩)] w (XP B W R a n cp bs s M p w [3]) := (xtext_any h hF hM hr).mono fun e w' h => h.to
end

theorem xop_any {B W R : Nat} {a : Option Addr} {n cp : Nat} {bs : List Int} {s : St} {M o : Nat} {w : World} (h : XS w B W R a n cp bs s) (hF : Far W R a M) (hM : M < w.heap.size) (hr : Room w M o 6) :
    Calls Tryz.prog 89 #[.pointer (some ⟨W, 0, none⟩), .pointer (some ⟨M, o, none⟩)] w (XP B W R a n cp bs s M o w [0, 3, 3, 0, 0, 0]) := by
  exact doc_op (M := M) (o := o) (W := W)
    (R0 := XI B W R a n cp bs s M o w [])
    (R1 := XI B W R a n cp bs s M o w [0])
    (R2 := XI B W R a n cp bs s M o w [0, 3])
    (R3 := XI B W R a n cp bs s M o w [0, 3, 3])
    (R4 := XI B W R a n cp bs s M o w [0, 3, 3, 0, 0, 0])
    (fun u hu => (xnum_call hu.1 hF (hu.lt hM) (hu.room hr (show 0 + 1 ≤ 6 by omega))).mono fun e w' ⟨h1, h2⟩ => ⟨h1, hu.more h2⟩)
    (fun u hu => (xtext_call hu.1 hF (hu.lt hM) (hu.room hr (show 1 + 1 ≤ 6 by omega))).mono fun e w' ⟨h1, h2⟩ => ⟨h1, hu.more h2⟩)
    (fun u hu => (xtext_call hu.1 hF (hu.lt hM) (hu.room hr (show 2 + 1 ≤ 6 by omega))).mono fun e w' ⟨h1, h2⟩ => ⟨h1, hu.more h2⟩)
    (fun u hu => (xnums_call hu.1 hF (hu.lt hM) (hu.room hr (show 3 + 3 ≤ 6 by omega)) #[.pointer (some ⟨M, o + 3, none⟩), .pointer (some ⟨M, o + 4, none⟩), .pointer (some ⟨M, o + 5, none⟩)] 82 (fun j hj => match j, hj with | 0, _ => rfl | 1, _ => rfl | 2, _ => rfl)).mono fun e w' ⟨h1, h2⟩ => ⟨h1, hu.more h2⟩)
    w (XI.start h)

theorem xplan_any {B W R : Nat} {a : Option Addr} {n cp : Nat} {bs : List Int} {s : St} {M o : Nat} {w : World} (h : XS w B W R a n cp bs s) (hF : Far W R a M) (hM : M < w.heap.size) (hr : Room w M o 7) :
    Calls Tryz.prog 53 #[.pointer (some ⟨W, 0, none⟩), .pointer (some ⟨M, o, none⟩)] w (XP B W R a n cp bs s M o w [0, 0, 0, 3, 3, 0, 0]) := by
  exact doc_plan (M := M) (o := o) (W := W)
    (R0 := XI B W R a n cp bs s M o w [])
    (R1 := XI B W R a n cp bs s M o w [0, 0, 0])
    (R2 := XI B W R a n cp bs s M o w [0, 0, 0, 3])
    (R3 := XI B W R a n cp bs s M o w [0, 0, 0, 3, 3])
    (R4 := XI B W R a n cp bs s M o w [0, 0, 0, 3, 3, 0, 0])
    (fun u hu => (xnums_call hu.1 hF (hu.lt hM) (hu.room hr (show 0 + 3 ≤ 7 by omega)) #[.pointer (some ⟨M, o, none⟩), .pointer (some ⟨M, o + 1, none⟩), .pointer (some ⟨M, o + 2, none⟩)] 82 (fun j hj => match j, hj with | 0, _ => rfl | 1, _ => rfl | 2, _ => rfl)).mono fun e w' ⟨h1, h2⟩ => ⟨h1, hu.more h2⟩)
    (fun u hu => (xtext_call hu.1 hF (hu.lt hM) (hu.room hr (show 3 + 1 ≤ 7 by omega))).mono fun e w' ⟨h1, h2⟩ => ⟨h1, hu.more h2⟩)
    (fun u hu => (xtext_call hu.1 hF (hu.lt hM) (hu.room hr (show 4 + 1 ≤ 7 by omega))).mono fun e w' ⟨h1, h2⟩ => ⟨h1, hu.more h2⟩)
    (fun u hu => (xnums_call hu.1 hF (hu.lt hM) (hu.room hr (show 5 + 2 ≤ 7 by omega)) #[.pointer (some ⟨M, o + 5, none⟩), .pointer (some ⟨M, o + 6, none⟩)] 82 (fun j hj => match j, hj with | 0, _ => rfl | 1, _ => rfl)).mono fun e w' ⟨h1, h2⟩ => ⟨h1, hu.more h2⟩)
    w (XI.start h)





theorem xwait_any {B W R : Nat} {a : Option Addr} {n cp : Nat} {bs : List Int} {s : St} {M o : Nat} {w : World} (h : XS w B W R a n cp bs s) (hF : Far W R a M) (hM : M < w.heap.size) (hr : Room w M o 11) :
    Calls Tryz.prog 72 #[.pointer (some ⟨W, 0, none⟩), .pointer (some ⟨M, o, none⟩)] w (XP B W R a n cp bs s M o w [0, 0, 0, 0, 0, 0, 3, 3, 0, 0, 0]) := by
  exact doc_wait (M := M) (o := o) (W := W)
    (R0 := XI B W R a n cp bs s M o w [])
    (R1 := XI B W R a n cp bs s M o w [0, 0, 0, 0, 0])
    (R2 := XI B W R a n cp bs s M o w [0, 0, 0, 0, 0, 0, 3, 3, 0, 0, 0])
    (fun u hu => (xnums_call hu.1 hF (hu.lt hM) (hu.room hr (show 0 + 5 ≤ 11 by omega)) #[.pointer (some ⟨M, o, none⟩), .pointer (some ⟨M, o + 1, none⟩), .pointer (some ⟨M, o + 2, none⟩), .pointer (some ⟨M, o + 3, none⟩), .pointer (some ⟨M, o + 4, none⟩)] 82 (fun j hj => match j, hj with | 0, _ => rfl | 1, _ => rfl | 2, _ => rfl | 3, _ => rfl | 4, _ => rfl)).mono fun e w' ⟨h1, h2⟩ => ⟨h1, hu.more h2⟩)
    (fun u hu => (xop_any hu.1 hF (hu.lt hM) (hu.room hr (show 5 + 6 ≤ 11 by omega))).mono fun e w' ⟨h1, h2⟩ => ⟨h1, hu.more h2⟩)
    w (XI.start h)

theorem xdeal_any {B W R : Nat} {a : Option Addr} {n cp : Nat} {bs : List Int} {s : St} {M o : Nat} {w : World} (h : XS w B W R a n cp bs s) (hF : Far W R a M) (hM : M < w.heap.size) (hr : Room w M o 8) :
    Calls Tryz.prog 73 #[.pointer (some ⟨W, 0, none⟩), .pointer (some ⟨M, o, none⟩)] w (XP B W R a n cp bs s M o w [0, 0, 3, 3, 0, 0, 0, 0]) := by
  exact doc_deal (M := M) (o := o) (W := W)
    (R0 := XI B W R a n cp bs s M o w [])
    (R1 := XI B W R a n cp bs s M o w [0, 0])
    (R2 := XI B W R a n cp bs s M o w [0, 0, 3])
    (R3 := XI B W R a n cp bs s M o w [0, 0, 3, 3])
    (R4 := XI B W R a n cp bs s M o w [0, 0, 3, 3, 0, 0, 0, 0])
    (fun u hu => (xnums_call hu.1 hF (hu.lt hM) (hu.room hr (show 0 + 2 ≤ 8 by omega)) #[.pointer (some ⟨M, o, none⟩), .pointer (some ⟨M, o + 1, none⟩)] 82 (fun j hj => match j, hj with | 0, _ => rfl | 1, _ => rfl)).mono fun e w' ⟨h1, h2⟩ => ⟨h1, hu.more h2⟩)
    (fun u hu => (xtext_call hu.1 hF (hu.lt hM) (hu.room hr (show 2 + 1 ≤ 8 by omega))).mono fun e w' ⟨h1, h2⟩ => ⟨h1, hu.more h2⟩)
    (fun u hu => (xtext_call hu.1 hF (hu.lt hM) (hu.room hr (show 3 + 1 ≤ 8 by omega))).mono fun e w' ⟨h1, h2⟩ => ⟨h1, hu.more h2⟩)
    (fun u hu => (xnums_call hu.1 hF (hu.lt hM) (hu.room hr (show 4 + 4 ≤ 8 by omega)) #[.pointer (some ⟨M, o + 4, none⟩), .pointer (some ⟨M, o + 5, none⟩), .pointer (some ⟨M, o + 6, none⟩), .pointer (some ⟨M, o + 7, none⟩)] 82 (fun j hj => match j, hj with | 0, _ => rfl | 1, _ => rfl | 2, _ => rfl | 3, _ => rfl)).mono fun e w' ⟨h1, h2⟩ => ⟨h1, hu.more h2⟩)
    w (XI.start h)


theorem xholder_any {B W R : Nat} {a : Option Addr} {n cp : Nat} {bs : List Int} {s : St} {M o : Nat} {w : World} (h : XS w B W R a n cp bs s) (hF : Far W R a M) (hM : M < w.heap.size) (hr : Room w M o 4) :
    Calls Tryz.prog 93 #[.pointer (some ⟨W, 0, none⟩), .pointer (some ⟨M, o, none⟩)] w (XP B W R a n cp bs s M o w [0, 0, 0, 0]) := by
  exact doc_holder (M := M) (o := o) (W := W)
    (R0 := XI B W R a n cp bs s M o w [])
    (R1 := XI B W R a n cp bs s M o w [0, 0, 0, 0])
    (fun u hu => (xnums_call hu.1 hF (hu.lt hM) (hu.room hr (show 0 + 4 ≤ 4 by omega)) #[.pointer (some ⟨M, o, none⟩), .pointer (some ⟨M, o + 1, none⟩), .pointer (some ⟨M, o + 2, none⟩), .pointer (some ⟨M, o + 3, none⟩)] 82 (fun j hj => match j, hj with | 0, _ => rfl | 1, _ => rfl | 2, _ => rfl | 3, _ => rfl)).mono fun e w' ⟨h1, h2⟩ => ⟨h1, hu.more h2⟩)
    w (XI.start h)

theorem xlock_any {B W R : Nat} {a : Option Addr} {n cp : Nat} {bs : List Int} {s : St} {M o : Nat} {w : World} (h : XS w B W R a n cp bs s) (hF : Far W R a M) (hM : M < w.heap.size) (hr : Room w M o 4) :
    Calls Tryz.prog 87 #[.pointer (some ⟨W, 0, none⟩), .pointer (some ⟨M, o, none⟩)] w (XP B W R a n cp bs s M o w [0, 0, 0, 0]) := by
  exact doc_lock (M := M) (o := o) (W := W)
    (R0 := XI B W R a n cp bs s M o w [])
    (R1 := XI B W R a n cp bs s M o w [0, 0, 0, 0])
    (fun u hu => (xnums_call hu.1 hF (hu.lt hM) (hu.room hr (show 0 + 4 ≤ 4 by omega)) #[.pointer (some ⟨M, o, none⟩), .pointer (some ⟨M, o + 1, none⟩), .pointer (some ⟨M, o + 2, none⟩), .pointer (some ⟨M, o + 3, none⟩)] 82 (fun j hj => match j, hj with | 0, _ => rfl | 1, _ => rfl | 2, _ => rfl | 3, _ => rfl)).mono fun e w' ⟨h1, h2⟩ => ⟨h1, hu.more h2⟩)
    w (XI.start h)

theorem xEnd_any {B W R : Nat} {a : Option Addr} {n cp : Nat} {bs : List Int} {s : St} {M o : Nat} {w : World} (h : XS w B W R a n cp bs s) (hF : Far W R a M) (hM : M < w.heap.size) (hr : Room w M o 2) :
    Calls Tryz.prog 74 #[.pointer (some ⟨W, 0, none⟩), .pointer (some ⟨M, o, none⟩)] w (XP B W R a n cp bs s M o w [0, 0]) := by
  exact doc_end (M := M) (o := o) (W := W)
    (R0 := XI B W R a n cp bs s M o w [])
    (R1 := XI B W R a n cp bs s M o w [0, 0])
    (fun u hu => (xnums_call hu.1 hF (hu.lt hM) (hu.room hr (show 0 + 2 ≤ 2 by omega)) #[.pointer (some ⟨M, o, none⟩), .pointer (some ⟨M, o + 1, none⟩)] 82 (fun j hj => match j, hj with | 0, _ => rfl | 1, _ => rfl)).mono fun e w' ⟨h1, h2⟩ => ⟨h1, hu.more h2⟩)
    w (XI.start h)

theorem xspan_any {B W R : Nat} {a : Option Addr} {n cp : Nat} {bs : List Int} {s : St} {M o : Nat} {w : World} (h : XS w B W R a n cp bs s) (hF : Far W R a M) (hM : M < w.heap.size) (hr : Room w M o 2) :
    Calls Tryz.prog 85 #[.pointer (some ⟨W, 0, none⟩), .pointer (some ⟨M, o, none⟩)] w (XP B W R a n cp bs s M o w [0, 0]) := by
  exact doc_span (M := M) (o := o) (W := W)
    (R0 := XI B W R a n cp bs s M o w [])
    (R1 := XI B W R a n cp bs s M o w [0, 0])
    (fun u hu => (xnums_call hu.1 hF (hu.lt hM) (hu.room hr (show 0 + 2 ≤ 2 by omega)) #[.pointer (some ⟨M, o, none⟩), .pointer (some ⟨M, o + 1, none⟩)] 82 (fun j hj => match j, hj with | 0, _ => rfl | 1, _ => rfl)).mono fun e w' ⟨h1, h2⟩ => ⟨h1, hu.more h2⟩)
    w (XI.start h)



end Go.Proofs.YthklpkmdmkgjiaaGreat

namespace Go.Proofs.YthklpkmdmkgjiaaGreat
open Go.ChangeShapes Go.WideShapes Go.ChangeAt Go.RowKit B8 Cm Wm
set_option linter.unusedVariables false

theorem vs_new {B : Nat} (w : World) (hB : B ≤ w.heap.size) : VS (w.alloc (.cells #[.slice none 0 0, .pointer none, .bool false] 48)) B w.heap.size 65536 [] :=
  ⟨.slice none 0 0, [], false, by simp, by simp, by simp, by simp, by simp, World.ownsRow_nil _ _ _ _, wfs_nil, fun _ => ⟨rfl, rfl⟩, fun h => absurd h (by decide), by simp [Value.ownBlock], by simp, by decide, hB⟩
theorem vown_first (w : World) {k : Nat} (h : Wown w.heap.size (w.alloc (.cells #[.slice none 0 0, .pointer none, .bool false] 48)) k) : k = w.heap.size := by
  rcases h with h | ⟨v, h1, h2⟩
  · exact h
  · have : (w.alloc (.cells #[.slice none 0 0, .pointer none, .bool false] 48)).cell? ⟨w.heap.size, 0, none⟩ = some (.slice none 0 0) := by simp
    rw [this] at h1
    obtain rfl := Option.some.inj h1
    simp [Value.ownBlock] at h2
theorem din_long {w : World} {a : Option Addr} {n cp : Nat} {bs : List Int} (q : Sq w a n cp bs) (hn : n ≤ 140737488351232) (hl : 65536 < n) :
    Calls Tryz.prog 18 #[.slice a n cp] w fun e w' => ∃ W, e = .returned (.tuple #[.pointer (some ⟨W, 0, none⟩), .int .i64 22]) ∧ Below w.heap.size w w' := by
  have i1 : (65536 : Int) < (n : Int) := by omega
  have q0 : Sq w none 0 0 [] := ⟨rfl, Nat.le_refl _, fun _ => rfl, fun h => absurd h (by omega), wfs_nil⟩
  have CN := hide (new_any q0 (by omega))
  clear q q0
  go_enter Tryz.func18, Tryz.ntmps18
  go_wp2_with fail
  refine CN.out.mono ?_
  rintro e w1 ⟨R, rfl, hf, hb, hR⟩
  have HB := hide hb
  clear hf hb hR CN
  go_wp2_with fail
  go_ret2
  exact ⟨_, rfl, below_alloc HB.out _⟩
theorem din_short {w : World} {B : Nat} {a : Option Addr} {n cp : Nat} {bs : List Int} (hB : B ≤ w.heap.size) (q : Sq w a n cp bs) (hl : n ≤ 65536) :
    Calls Tryz.prog 18 #[.slice a n cp] w fun e w' => ∃ W R ad cpd, e = .returned (.tuple #[.pointer (some ⟨W, 0, none⟩), .int .i64 0]) ∧ XS w' B W R ad n cpd bs ⟨0, 0⟩ ∧ Below w.heap.size w w' ∧ w.heap.size ≤ W ∧ w.heap.size ≤ R ∧ ∀ b off, ad = some ⟨b, off, none⟩ → w.heap.size ≤ b := by
  have i1 : (n : Int) ≤ (65536 : Int) := by omega
  have CN := hide (new_any q (by omega))
  have HBb := hide hB
  clear q hB
  go_enter Tryz.func18, Tryz.ntmps18
  go_wp2_with fail
  refine CN.out.mono ?_
  rintro e w1 ⟨R, rfl, hf, hb, hR⟩
  have HF := hide hf
  have HB := hide hb
  have HR := hide hR
  clear hf hb hR CN
  go_wp2_with fail
  go_ret2
  obtain ⟨g, off, cpd, hr, hg, hg2⟩ := HF.out
  have hbl : Below w1.heap.size w1 (w1.alloc (.cells #[.slice none 0 0, .pointer (some ⟨R, 0, none⟩), .bool false] 48)) := Below.alloc (Below.refl _ _) (Nat.le_refl _) _
  have hlt : R < w1.heap.size := World.block_lt_of_cell? w1 _ hr.c0
  refine ⟨w1.heap.size, R, some ⟨g, off, none⟩, cpd, rfl, ⟨by simp, hr.grown (grown_below hbl none) (by simp) (by simp), by omega, fun b o e => ?_, ⟨g, off, rfl⟩, hl, Nat.le_trans HBb.out (Nat.le_trans HB.out.size hbl.size)⟩, below_alloc HB.out _, HB.out.size, HR.out, fun b o e => ?_⟩
  · cases e
    refine ⟨by omega, ?_⟩
    simp
    omega
  · cases e
    exact hg
end Go.Proofs.YthklpkmdmkgjiaaGreat
