/- What the document's walk reads of a uint32, and of a piece. No condition but the size. -/
import Derived.Test.YtmajhkmgdkbjoaaGreatJM
import Derived.Test.YtmajhkmgdkbjoaaGreatJK
namespace Go.Proofs.YtmajhkmgdkbjoaaGreat
open Go.ChangeShapes Go.WideShapes Go.ChangeAt Go.RowKit B8 Cm Wm
set_option linter.unusedVariables false

set_option maxRecDepth 100000 in
theorem xsum_any {w : World} {B W R : Nat} {a : Option Addr} {n cp : Nat} {bs : List Int} {s : St} {M p : Nat} (h : XS w B W R a n cp bs s) (hM : Far W R a M) (hlt : M < w.heap.size) (hr : Room w M p 1) :
    Calls Tryz.prog 52 #[.pointer (some ⟨W, 0, none⟩), .pointer (some ⟨M, p, none⟩)] w (XP1 B W R a n cp bs s M p w 1) := by
  have c1 := h.c1
  have r1 := h.rd.c1
  have C := hide (num_any (s := s) h.rd)
  have hbd := numA_lt bs s (bs_bd h.rd.sq.wf)
  have H := hide h
  have HM := hide hM
  obtain ⟨hc, hf⟩ := hr 0 (by omega)
  have HC := hide hc
  have hf : w.frozen? ⟨M, p, none⟩ = false := hf
  have hle := h.rd.place
  obtain ⟨V, eV⟩ : ∃ V, V = (numA bs s).v := ⟨_, rfl⟩
  rw [← eV] at hbd C
  have EV := hide eV
  have LT : Hid (W < w.heap.size ∧ R < w.heap.size) := h.lt
  clear h hM hr hc eV
  go_enter Tryz.func52, Tryz.ntmps52
  go_wp2_with fail
  refine C.out.mono ?_
  rintro e w1 ⟨rfl, hr1, hg1⟩
  have hne : some M ≠ some R := fun e => HM.out.2.1 (by simpa using e)
  have hnW : some W ≠ some R := fun e => H.out.ne (by simpa using e)
  obtain ⟨v0, hv0⟩ := HC.out
  have c2 : w1.cell? ⟨M, p, none⟩ = some v0 := hg1.cell hv0 hne
  have f1 : w1.frozen? ⟨M, p, none⟩ = false := (World.frozen?_of_block (w := w) (hg1.block M hlt hne)).trans hf
  have cW : w1.cell? ⟨W, 1, none⟩ = some (.pointer (some ⟨R, 0, none⟩)) := hg1.cell c1 hnW
  by_cases hw : 4294967295 < V
  · have hw' : (4294967295 : Int) < (V : Int) := by omega
    have EA : Hid (atomA bs 1 s = ⟨⟨1, 0, []⟩, ⟨s.pl, 21⟩⟩) := by
      show _ = _
      unfold atomA
      rw [if_neg (by decide), if_pos rfl, if_pos (by rw [← EV.out]; exact hw)]
    have q1 := hr1.c1
    have q2 := hr1.c2
    have g1 := hr1.f1
    have g2 := hr1.f2
    have hr2 := (hr1.moved s.pl hle).failed 21
    have hg2 : w.grownBy ((w1.setCell ⟨R, 1, none⟩ (.int .i64 s.pl)).setCell ⟨R, 2, none⟩ (.int .i64 21)) (some R) := (hg1.trans (grown_setCell w1 R 1 _)).trans (grown_setCell _ R 2 _)
    have e1 : (w1.setCell ⟨R, 1, none⟩ (.int .i64 s.pl)).cell? ⟨W, 1, none⟩ = some (.pointer (some ⟨R, 0, none⟩)) := (grown_setCell w1 R 1 _).cell cW hnW
    have e2 : ((w1.setCell ⟨R, 1, none⟩ (.int .i64 s.pl)).setCell ⟨R, 2, none⟩ (.int .i64 21)).cell? ⟨M, p, none⟩ = some v0 := hg2.cell hv0 hne
    have e3 : ((w1.setCell ⟨R, 1, none⟩ (.int .i64 s.pl)).setCell ⟨R, 2, none⟩ (.int .i64 21)).frozen? ⟨M, p, none⟩ = false := (World.frozen?_of_block (w := w) (hg2.block M hlt hne)).trans hf
    have e4 : (w1.setCell ⟨R, 1, none⟩ (.int .i64 s.pl)).frozen? ⟨R, 2, none⟩ = false := by simpa using g2
    have e5 : (w1.setCell ⟨R, 1, none⟩ (.int .i64 s.pl)).cell? ⟨R, 2, none⟩ = some (.int .i64 (numA bs s).s.err) := by rw [World.cell?_setCell_other _ _ _ _ (by simp)]; exact q2
    have RSx := hide (xread_store (k := 1) (V := .int .u32 0) (w1 := ((w1.setCell ⟨R, 1, none⟩ (.int .i64 s.pl)).setCell ⟨R, 2, none⟩ (.int .i64 21))) H.out HM.out hlt HC.out hg2 (by rw [EA.out]; exact hr2) (by rw [EA.out]; exact .inr (.inl ⟨rfl, rfl, by show (0 : Int) ≤ 0; omega, by show (0 : Int) ≤ 4294967295; omega⟩)))
    clear hr1 hg1 hv0 hne hf c1 hr2 hg2 hw hle
    go_wp2_with fail
    refine bodyPost_end (results_none rfl _ _ _) rfl ?_
    exact ⟨rfl, RSx.out⟩
  · have hw' : (V : Int) ≤ (4294967295 : Int) := by omega
    have EA : Hid (atomA bs 1 s = ⟨⟨1, (V : Int), []⟩, (numA bs s).s⟩) := by
      show _ = _
      unfold atomA
      rw [if_neg (by decide), if_pos rfl, if_neg (by rw [← EV.out]; exact hw), ← EV.out]
    have ew : IntKind.u32.wrap (V : Int) = V := by simp [IntKind.wrap, IntKind.bits, IntKind.signed]; omega
    have RSx := hide (xread_store (k := 1) (V := .int .u32 (V : Int)) H.out HM.out hlt HC.out hg1 (by rw [EA.out]; exact hr1) (by rw [EA.out]; exact .inr (.inl ⟨rfl, rfl, by show (0 : Int) ≤ (V : Int); omega, by show (V : Int) ≤ 4294967295; omega⟩)))
    clear hr1 hg1 hv0 hne hf c1 hw hle
    go_wp2_with fail
    refine bodyPost_end (results_none rfl _ _ _) rfl ?_
    exact ⟨rfl, RSx.out⟩
theorem xsum_call {B W R : Nat} {a : Option Addr} {n cp : Nat} {bs : List Int} {s : St} {M p : Nat} {w : World} (h : XS w B W R a n cp bs s) (hF : Far W R a M) (hM : M < w.heap.size) (hr : Room w M p 1) :
    Calls Tryz.prog 52 #[.pointer (some ⟨W, 0, none⟩), .pointer (some ⟨M, p, none⟩)] w (XP B W R a n cp bs s M p w [1]) := (xsum_any h hF hM hr).mono fun e w' h => h.to
theorem xpiece_any {B W R : Nat} {a : Option Addr} {n cp : Nat} {bs : List Int} {s : St} {M o : Nat} {w : World} (h : XS w B W R a n cp bs s) (hF : Far W R a M) (hM : M < w.heap.size) (hr : Room w M o 4) :
    Calls Tryz.prog 29 #[.pointer (some ⟨W, 0, none⟩), .pointer (some ⟨M, o, none⟩)] w (XP B W R a n cp bs s M o w [0, 0, 1, 4]) := by
  exact doc_piece (M := M) (o := o) (W := W)
    (R0 := XI B W R a n cp bs s M o w [])
    (R1 := XI B W R a n cp bs s M o w [0, 0])
    (R2 := XI B W R a n cp bs s M o w [0, 0, 1])
    (R3 := XI B W R a n cp bs s M o w [0, 0, 1, 4])
    (fun u hu => (xnums_call hu.1 hF (hu.lt hM) (hu.room hr (show 0 + 2 ≤ 4 by omega)) #[.pointer (some ⟨M, o, none⟩), .pointer (some ⟨M, o + 1, none⟩)] 79 (fun j hj => match j, hj with | 0, _ => rfl | 1, _ => rfl)).mono fun e w' ⟨h1, h2⟩ => ⟨h1, hu.more h2⟩)
    (fun u hu => (xsum_call hu.1 hF (hu.lt hM) (hu.room hr (show 2 + 1 ≤ 4 by omega))).mono fun e w' ⟨h1, h2⟩ => ⟨h1, hu.more h2⟩)
    (fun u hu => (xbytes_call hu.1 hF (hu.lt hM) (hu.room hr (show 3 + 1 ≤ 4 by omega))).mono fun e w' ⟨h1, h2⟩ => ⟨h1, hu.more h2⟩)
    w (XI.start h)
end Go.Proofs.YtmajhkmgdkbjoaaGreat
