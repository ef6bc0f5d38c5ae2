/- ChunkOrder: in which order pieces come, and how often, plays no part in what a box lacks and has. Condition: the table of the half bytes is as the program's text lays it (the card). -/
import Derived.Test.YtokdlkfjimihjaaDoorChuRun
import Derived.Test.YtokdlkfjimihjaaDoorChuBackMath
import Derived.Test.YtokdlkfjimihjaaDoorPlI
import Derived.Test.YtokdlkfjimihjaaDoorCards
import Derived.Test.YtokdlkfjimihjaaDoorTie
import Derived.Deep.DeepHandedRow
import Derived.Lib.LaidTab
namespace Go.Proofs.YtokdlkfjimihjaaDoor
namespace ChunkOrder
open Go.ChangeShapes Go.WideShapes Go.ChangeAt Go.RowKit B8 Ck
set_option linter.unusedVariables false

set_option maxRecDepth 100000 in
theorem long {W : World} {a a2 : Option Addr} {len cap m2 c2 : Nat} (hl : 8192 < len) (ht : Tab W) :
    Calls Tryd.prog 8 #[.slice a len cap, .slice a2 m2 c2] W fun e w' => e = .returned (.bool true) ∧ Below W.heap.size W w' := by
  have C := hide (cut_long (w := W) (a := a) (cap := cap) hl)
  have HT := hide ht
  have j : (8192 : Int) < (len : Int) := by omega
  clear ht
  go_enter Tryd.func8, Tryd.ntmps8
  go_wp2_with fail
  refine C.out.mono ?_
  rintro e w1 ⟨rfl, rfl⟩
  go_wp2_with fail
  refine (awake_any HT.out).mono ?_
  rintro e w2 ⟨rfl, hb2⟩
  have B2 := hide hb2
  clear hb2
  go_wp2_with fail
  refine (awake_any (HT.out.below B2.out)).mono ?_
  rintro e w3 ⟨rfl, hb3⟩
  have B3 := hide (below_step B2.out hb3)
  clear hb3
  go_wp2_with fail
  go_ret
  exact ⟨rfl, B3.out⟩
/-- the number that an order's number stands for -/
def idx (x : Int) (n : Nat) : Nat := (x % 18446744073709551616 % (n : Int)).toNat
theorem idx_lt (x : Int) {n : Nat} (h : 0 < n) : idx x n < n := by
  unfold idx
  have h1 := Int.emod_nonneg (x % 18446744073709551616) (show (n : Int) ≠ 0 by omega)
  have h2 := Int.emod_lt_of_pos (x % 18446744073709551616) (show 0 < (n : Int) by omega)
  omega
theorem idx_wrap (x : Int) {n : Nat} (h : 0 < n) (hn : n ≤ 16) : wrap64 ((IntKind.u64.wrap x).tmod (n : Int)) = ((idx x n : Nat) : Int) := by
  have h0 := Int.emod_nonneg (x % 18446744073709551616) (show (n : Int) ≠ 0 by omega)
  have h2 := Int.emod_lt_of_pos (x % 18446744073709551616) (show 0 < (n : Int) by omega)
  rw [wrapU, Int.tmod_eq_emod_of_nonneg (by omega)]
  unfold idx
  rw [Int.toNat_of_nonneg h0]
  unfold wrap64
  omega
theorem pc_at {l : List Pv} {bs : List Int} (he : l.map Pv.pc = cutL bs) {k : Nat} {p : Pv} (hp : l[k]? = some p) : p.pc = cutP bs k := by
  have h1 : (l.map Pv.pc)[k]? = some p.pc := by rw [List.getElem?_map, hp]; rfl
  rw [he] at h1
  unfold cutL at h1
  rw [List.getElem?_map] at h1
  obtain ⟨j, hj, e⟩ := Option.map_eq_some_iff.1 h1
  have := (List.getElem?_eq_some_iff.1 hj)
  obtain ⟨hlt, e2⟩ := this
  simp at e2
  subst e2
  exact e.symm
/-- two boxes that were made since V, apart -/
structure Tw (V w : World) (B : Nat) (mo : Option Nat) (s : Bx) (B2 : Nat) (mo2 : Option Nat) (s2 : Bx) : Prop where
  a : BxN V w B mo s
  b : BxN V w B2 mo2 s2
  ap : ∀ k, BM B mo k → ¬ BM B2 mo2 k
section
variable {V w w' : World} {B B2 : Nat} {mo mo2 : Option Nat} {s s2 : Bx}
theorem Tw.symm (h : Tw V w B mo s B2 mo2 s2) : Tw V w B2 mo2 s2 B mo s := ⟨h.b, h.a, fun k h1 h2 => h.ap k h2 h1⟩
theorem Tw.next (h : Tw V w B mo s B2 mo2 s2) (hb : Below w.heap.size w w') : Tw V w' B mo s B2 mo2 s2 := ⟨h.a.next hb, h.b.next hb, h.ap⟩
theorem Tw.put (h : Tw V w B mo s B2 mo2 s2) {p : Pv} (hp : POk w (fun _ => True) p) :
    Calls Tryd.prog 18 #[.pointer (some ⟨B, 0, none⟩), .agg #[.int .i64 p.k, .int .i64 p.of, .int .u32 p.sum, .slice p.a p.m p.cp]] w fun e w' => e = .returned (.int .i64 (putE s p.pc)) ∧ ∃ mo', Tw V w' B mo' (putS s p.pc) B2 mo2 s2 :=
  (put_any h.a.bm hp (fun _ _ => trivial)).mono fun e w' ⟨h1, hmv⟩ => by
    obtain ⟨hc, mo', hm, hor⟩ := hmv
    have hbel : Below V.heap.size V w' := h.a.below.trans (hc.below h.a.below.size h.a.base)
    have hb2 := h.b.bm.chg hc (fun k hk => ⟨h.ap k hk, .inr (h.a.bm.noB k hk)⟩)
    refine ⟨h1, mo', ⟨hbel, hm, fun k hk => ?_⟩, ⟨hbel, hb2, h.b.base⟩, fun k hk hk2 => ?_⟩
    · rcases hk with hk | hk
      · exact h.a.base k (.inl hk)
      · rcases hor k hk with h4 | h4
        · exact h.a.base k (.inr h4)
        · exact Nat.le_trans h.a.below.size h4
    · rcases hk with hk | hk
      · exact h.ap k (.inl hk) hk2
      · rcases hor k hk with h4 | h4
        · exact h.ap k (.inr h4) hk2
        · have := h.b.bm.lt k hk2
          omega
end
/-- the numbers that were put by the first k, or by those from k on -/
def Fst (zs : List Int) (n k : Nat) (j : Nat) : Prop := ∃ i, i < k ∧ j = idx (zs[i]?.getD 0) n
def Lst (zs : List Int) (n k m : Nat) (j : Nat) : Prop := ∃ i, k ≤ i ∧ i < m ∧ j = idx (zs[i]?.getD 0) n
theorem jn_like {bs : List Int} {D D' : Nat → Prop} {s : Bx} (h : Jn bs D s) (hd : ∀ j, D j ↔ D' j) : Jn bs D' s := ⟨fun j hj hx => h.yes j hj ((hd j).2 hx), fun j hj hx => h.no j hj (fun y => hx ((hd j).1 y)), h.of, h.ok⟩
theorem fst_succ (zs : List Int) (n k j : Nat) : Fst zs n k j ∨ j = idx (zs[k]?.getD 0) n ↔ Fst zs n (k + 1) j := by
  constructor
  · rintro (⟨i, h1, h2⟩ | h)
    · exact ⟨i, by omega, h2⟩
    · exact ⟨k, by omega, h⟩
  · rintro ⟨i, h1, h2⟩
    by_cases e : i = k
    · subst e; exact .inr h2
    · exact .inl ⟨i, by omega, h2⟩
theorem lst_succ (zs : List Int) (n k m j : Nat) (hk : k < m) : (Lst zs n (k + 1) m j ∨ j = idx (zs[k]?.getD 0) n) ∨ j = idx (zs[k]?.getD 0) n ↔ Lst zs n k m j := by
  constructor
  · rintro ((⟨i, h1, h2, h3⟩ | h) | h)
    · exact ⟨i, by omega, h2, h3⟩
    · exact ⟨k, by omega, hk, h⟩
    · exact ⟨k, by omega, hk, h⟩
  · rintro ⟨i, h1, h2, h3⟩
    by_cases e : i = k
    · subst e; exact .inr h3
    · exact .inl (.inl ⟨i, by omega, h2, h3⟩)
set_option maxRecDepth 100000 in
set_option maxHeartbeats 4000000 in
theorem short {W : World} {a a2 : Option Addr} {len cap m2 c2 : Nat} {bs zs : List Int} (h : Sq W a len cap bs) (hl : len ≤ 8192) (h2 : I8.Sq W a2 m2 c2 zs) (hr : m2 ≤ 17592186043904) (ht : Tab W) :
    Calls Tryd.prog 8 #[.slice a len cap, .slice a2 m2 c2] W fun e w' => e = .returned (.bool true) ∧ Below W.heap.size W w' := by
  have H := hide h
  have H2 := hide h2
  have HT := hide ht
  have C := hide (cut_any h ht hl)
  have HL : Hid (bs.length ≤ 8192) := by show _ ≤ _; rw [h.length]; exact hl
  obtain ⟨n, en⟩ : ∃ n, n = cutN bs := ⟨_, rfl⟩
  have n1 : 1 ≤ n := by rw [en]; unfold cutN; omega
  have n2 : n ≤ 16 := by have := HL.out; rw [en]; unfold cutN; omega
  rw [← en] at C
  have EN := hide en
  have j1 : ((n : Int) == 0) = false := by simp; omega
  clear h h2 ht en
  go_enter Tryd.func8, Tryd.ntmps8
  go_wp2_with fail
  refine C.out.mono ?_
  rintro e w1 ⟨al, cl, l, rfl, hb1, hl1, he1⟩
  have B1 := hide hb1
  have L1 : Hid (Ls w1 (fun _ => True) al n l) := hl1.ls (by omega) (fun _ _ => trivial)
  have HE := hide he1
  clear hb1 hl1 he1 C
  go_wp2_with fail
  refine (awake_any (HT.out.below B1.out)).mono ?_
  rintro e V ⟨rfl, hb2⟩
  have BV : Hid (Below W.heap.size W V) := below_step B1.out hb2
  have LV := hide (L1.out.below hb2)
  clear hb2 L1 B1
  go_wp2_with fail
  refine (bxn_new V (Below.refl V.heap.size V)).mono ?_
  rintro e w3 ⟨rfl, hb3, hn3⟩
  have N3 := hide hn3
  obtain ⟨B, eB⟩ : ∃ B, B = V.heap.size := ⟨_, rfl⟩
  rw [← eB] at N3
  clear hb3 hn3
  rw [← eB]
  clear eB
  go_wp2_with fail
  refine (bxn_new w3 (Below.refl w3.heap.size w3)).mono ?_
  rintro e w4 ⟨rfl, hb4, hn4⟩
  have A4 := hide (N3.out.next hb4)
  have M4 := hide hn4
  obtain ⟨B2, eB2⟩ : ∃ B2, B2 = w3.heap.size := ⟨_, rfl⟩
  rw [← eB2] at M4
  have APT : Hid (∀ k, BM B none k → ¬ BM B2 none k) := fun k hk hk2 => by
    have h1 := N3.out.bm.lt k hk
    rcases hk2 with hk2 | hk2
    · omega
    · cases hk2
  have M5 : Hid (BxN V w4 B2 none newS) := ⟨A4.out.below, M4.out.bm, fun k hk => Nat.le_trans N3.out.below.size (M4.out.base k hk)⟩
  clear hb4 hn4 M4 N3
  rw [← eB2]
  clear eB2
  go_wp2_with fail
  have T5 : Hid (Tw V w4 B none newS B2 none newS) := ⟨A4.out, M5.out, APT.out⟩
  clear A4 M5 APT
  go_loopw [9] (fun x wr => ∃ (k : Nat) (mo : Option Nat) (s : Bx), k ≤ m2 ∧ x = .int .i64 k ∧ Hid (Tw V wr B mo s B2 none newS) ∧ Hid (Jn bs (Fst zs n k) s)) (fun x _ => m2 - (intOf x).toNat)
  case atStart => exact ⟨0, none, newS, Nat.zero_le _, rfl, T5, jn_like (jn_new bs) (fun j => ⟨fun h => h.elim, fun ⟨i, hi, _⟩ => absurd hi (by omega)⟩)⟩
  case round =>
    obtain ⟨k, mo, s, hk, rfl, HN, HJ⟩ := hrel
    by_cases hlt : k < m2
    · have i1 : (k : Int) < (m2 : Int) := by omega
      have i2 : (0 : Int) ≤ (k : Int) := by omega
      obtain ⟨b2, o2, rfl, hc2⟩ := (H2.out.below (below_step BV.out HN.out.a.below)).cells (by omega)
      have d0 := hc2 k hlt
      obtain ⟨x, ex⟩ : ∃ x : Int, x = zs[k]?.getD 0 := ⟨_, rfl⟩
      rw [← ex] at d0
      obtain ⟨i, ei⟩ : ∃ i, i = idx x n := ⟨_, rfl⟩
      have iw := idx_wrap x (show 0 < n by omega) n2
      have ilt : i < n := by rw [ei]; exact idx_lt x (by omega)
      rw [← ei] at iw
      have i3 : (i : Int) < (n : Int) := by omega
      have i4 : (0 : Int) ≤ (i : Int) := by omega
      obtain ⟨b, off, p, rfl, _, hp, hpl, c0, c1, c2, c3⟩ := (LV.out.below HN.out.a.below).at ilt
      have PC : Hid (p.pc = cutP bs i) := pc_at HE.out hp
      have CP := hide (HN.out.put (any_ok ((LV.out.below HN.out.a.below).each p hpl)))
      have ic : i < cutN bs := by rw [← EN.out]; exact ilt
      rw [PC.out, jn_putE HJ.out HL.out ic] at CP
      have J3 : Hid (Jn bs (Fst zs n (k + 1)) (putS s (cutP bs i))) := jn_like (jn_put HJ.out HL.out ic).1 (fun j => by rw [ei, ex]; exact fst_succ zs n k j)
      clear hc2 ex ei hp hpl ic
      go_wp2_with fail
      refine CP.out.mono ?_
      rintro e w6 ⟨rfl, mo6, hn6⟩
      have N6 := hide hn6
      clear hn6 c0 c1 c2 c3 d0 iw
      go_wp2_with fail
      go_roundw
      case rel => exact ⟨k + 1, mo6, _, by omega, by go_num, N6, J3⟩
      case measure => simp [intOf]; omega
    · have hkm : k = m2 := by omega
      clear hk hlt T5
      subst hkm
      have mw : IntKind.i64.wrap ((k : Int) - 1) = (k : Int) - 1 := by rw [IntKind.wrap_i64]; omega
      go_wp2_with fail
      go_loopw [10, 11] (fun x _ wr => ∃ (q : Nat) (mo2 : Option Nat) (s2 : Bx), q ≤ k ∧ x = .int .i64 ((q : Int) - 1) ∧ Hid (Tw V wr B mo s B2 mo2 s2) ∧ Hid (Jn bs (Lst zs n q k) s2)) (fun x _ _ => (intOf x + 1).toNat)
      case atStart => exact ⟨k, none, newS, Nat.le_refl _, rfl, HN, jn_like (jn_new bs) (fun j => ⟨fun h => h.elim, fun ⟨i, h1, h2, _⟩ => absurd h1 (by omega)⟩)⟩
      case round =>
        obtain ⟨q, mo2, s2, hq, rfl, HN2, HJ2⟩ := hrel
        cases q with
        | succ q =>
          rw [show (((q + 1 : Nat) : Int) - 1) = (q : Int) by omega]
          have i1 : (q : Int) < (k : Int) := by omega
          have i2 : (0 : Int) ≤ (q : Int) := by omega
          obtain ⟨b2, o2, rfl, hc2⟩ := (H2.out.below (below_step BV.out HN2.out.a.below)).cells (by omega)
          have d0 := hc2 q (by omega)
          obtain ⟨x, ex⟩ : ∃ x : Int, x = zs[q]?.getD 0 := ⟨_, rfl⟩
          rw [← ex] at d0
          obtain ⟨i, ei⟩ : ∃ i, i = idx x n := ⟨_, rfl⟩
          have iw := idx_wrap x (show 0 < n by omega) n2
          have ilt : i < n := by rw [ei]; exact idx_lt x (by omega)
          rw [← ei] at iw
          have i3 : (i : Int) < (n : Int) := by omega
          have i4 : (0 : Int) ≤ (i : Int) := by omega
          have L6 := hide (LV.out.below HN2.out.a.below)
          obtain ⟨b, off, p, rfl, hbl, hp, hpl, c0, c1, c2, c3⟩ := LV.out.at ilt
          have LB := hide hbl
          have e0 := (HN2.out.a.below.cell (p := ⟨b, off + i * 4, none⟩) hbl).trans c0
          have e1 := (HN2.out.a.below.cell (p := ⟨b, off + i * 4 + 1, none⟩) hbl).trans c1
          have e2 := (HN2.out.a.below.cell (p := ⟨b, off + i * 4 + 2, none⟩) hbl).trans c2
          have e3 := (HN2.out.a.below.cell (p := ⟨b, off + i * 4 + 3, none⟩) hbl).trans c3
          have C0 := hide c0
          have C1 := hide c1
          have C2 := hide c2
          have C3 := hide c3
          have PC : Hid (p.pc = cutP bs i) := pc_at HE.out hp
          have PL := hide hpl
          have CP := hide (HN2.out.symm.put (any_ok (L6.out.each p hpl)))
          have ic : Hid (i < cutN bs) := by show _ < _; rw [← EN.out]; exact ilt
          rw [PC.out, jn_putE HJ2.out HL.out ic.out] at CP
          have JA := hide (jn_put HJ2.out HL.out ic.out).1
          have JB : Hid (Jn bs (Lst zs n q k) (putS (putS s2 (cutP bs i)) (cutP bs i))) := jn_like (jn_put JA.out HL.out ic.out).1 (fun j => by rw [ei, ex]; exact lst_succ zs n q k j (by omega))
          clear hc2 ex ei hp hpl hbl c0 c1 c2 c3
          go_wp2_with fail
          refine CP.out.mono ?_
          rintro e w6 ⟨rfl, mo6, hn6⟩
          have N6 := hide hn6
          have CP2 := hide (hn6.put (any_ok ((LV.out.below hn6.a.below).each p PL.out)))
          rw [PC.out, jn_putE JA.out HL.out ic.out] at CP2
          have f0 := (hn6.a.below.cell (p := ⟨b, off + i * 4, none⟩) LB.out).trans C0.out
          have f1 := (hn6.a.below.cell (p := ⟨b, off + i * 4 + 1, none⟩) LB.out).trans C1.out
          have f2 := (hn6.a.below.cell (p := ⟨b, off + i * 4 + 2, none⟩) LB.out).trans C2.out
          have f3 := (hn6.a.below.cell (p := ⟨b, off + i * 4 + 3, none⟩) LB.out).trans C3.out
          clear hn6 e0 e1 e2 e3 d0 CP
          go_wp2_with fail
          refine CP2.out.mono ?_
          rintro e w7 ⟨rfl, mo7, hn7⟩
          have N7 := hide hn7.symm
          clear hn7 f0 f1 f2 f3 CP2 iw
          have mq : IntKind.i64.wrap ((q : Int) - 1) = (q : Int) - 1 := by rw [IntKind.wrap_i64]; omega
          go_wp2_with fail
          go_roundw
          case rel => exact ⟨q, mo7, _, by omega, rfl, N7, JB⟩
          case measure => first | (simp [intOf]; done) | (simp [intOf]; omega)
        | zero =>
          clear mw
          have EXT : Hid (missL s = missL s2 ∧ doneB s = doneB s2 ∧ doneL s = doneL s2) := jn_ext HJ.out HJ2.out (fun j _ => ⟨fun ⟨i, h1, h2⟩ => ⟨i, by omega, h1, h2⟩, fun ⟨i, _, h1, h2⟩ => ⟨i, h1, h2⟩⟩)
          have JD := hide (jn_done HJ.out)
          have MW : Hid (I8.wfs (missL s)) := missL_wfs s HJ.out.ok
          have DW : Hid (wfs (doneL s)) := HN2.out.a.bm.wfsD
          have DLE : Hid ((doneL s).length ≤ 8192) := doneL_length HJ.out.ok
          have LACK : Hid (∀ j : Nat, j < k → ∀ x ∈ missL s, ((idx (zs[j]?.getD 0) n : Nat) : Int) ≠ x) := fun j hj x hx e => by
            have hD : Fst zs n k (idx (zs[j]?.getD 0) n) := ⟨j, hj, rfl⟩
            have hlt := idx_lt (zs[j]?.getD 0) (show 0 < n by omega)
            rw [EN.out] at hlt
            have hn : s.ps ≠ [] := fun e2 => (jn_nil HJ.out).1 e2 _ (by rw [EN.out]; exact hlt) hD
            obtain ⟨y, h1, h2, h3⟩ := jn_lack HJ.out hn hx
            exact h3 (by rw [show y = idx (zs[j]?.getD 0) n by omega]; exact hD)
          have LM : Hid ((missL s).length ≤ 16) := by
            show _ ≤ _
            have h1 := missN_length s.ps (max s.of 1).toNat
            have h2 := HJ.out.ok.of
            unfold missL
            omega
          have CA := hide (done_any HN2.out.a.bm (HT.out.below (below_step BV.out HN2.out.a.below)))
          obtain ⟨nX, eX⟩ : ∃ nX, nX = (doneL s).length := ⟨_, rfl⟩
          obtain ⟨nL, eL⟩ : ∃ nL, nL = (missL s).length := ⟨_, rfl⟩
          rw [← eX] at CA DLE
          rw [← eL] at LM
          obtain ⟨dB, eD⟩ : ∃ dB, dB = doneB s := ⟨_, rfl⟩
          rw [← eD] at CA
          have EX := hide eX
          have EL := hide eL
          have ED := hide eD
          clear eX eL eD
          go_wp2_with fail
          refine CA.out.mono ?_
          rintro e w8 ⟨aX, cX, rfl, hb8, hr8⟩
          have T8 := hide (HN2.out.next hb8)
          have X8 := hide hr8
          have CB := hide (done_any T8.out.b.bm (HT.out.below (below_step BV.out T8.out.a.below)))
          rw [← EXT.out.2.2, ← EXT.out.2.1, ← EX.out, ← ED.out] at CB
          clear hb8 hr8 CA
          go_wp2_with fail
          refine CB.out.mono ?_
          rintro e w9 ⟨aY, cY, rfl, hb9, hr9⟩
          have T9 := hide (T8.out.next hb9)
          have X9 := hide (row_below X8.out hb9)
          have Y9 := hide hr9
          have CC := hide (missing_any T9.out.a.bm)
          rw [← EL.out] at CC
          clear hb9 hr9 CB T8 X8
          go_wp2_with fail
          refine CC.out.mono ?_
          rintro e u ⟨aK, cK, rfl, hb10, hr10⟩
          have T10 := hide (T9.out.next hb10)
          have SX : Hid (Sq u aX nX cX (doneL s)) := by
            obtain ⟨x1, y1, e1, q1⟩ := sq_of_row EX.out.symm DW.out (row_below X9.out hb10)
            obtain ⟨rfl, rfl⟩ : aX = x1 ∧ cX = y1 := by simpa using e1
            exact q1
          have SY : Hid (Sq u aY nX cY (doneL s)) := by
            obtain ⟨x1, y1, e1, q1⟩ := sq_of_row EX.out.symm DW.out (row_below Y9.out hb10)
            obtain ⟨rfl, rfl⟩ : aY = x1 ∧ cY = y1 := by simpa using e1
            exact q1
          have SK : Hid (I8.Sq u aK nL cK (missL s)) := by
            obtain ⟨x1, y1, e1, q1⟩ := I8.sq_of_row EL.out.symm MW.out hr10
            obtain ⟨rfl, rfl⟩ : aK = x1 ∧ cK = y1 := by simpa using e1
            exact q1
          have SO : Hid (I8.Sq u a2 k c2 zs) := H2.out.below (below_step BV.out T10.out.a.below)
          clear hb10 hr10 CC T9 X9 Y9
          go_wp2_with fail
          go_loopw [17, 18] (fun x _ wr => ∃ i t : Nat, i ≤ nL ∧ x = .int .i64 i ∧ wr = u.drewN t) (fun x _ _ => nL - (intOf x).toNat)
          case atStart => exact ⟨0, 0, Nat.zero_le _, rfl, rfl⟩
          case round =>
            obtain ⟨i, t, hi, rfl, rfl⟩ := hrel
            by_cases hil : i < nL
            · have j5 : (i : Int) < (nL : Int) := by omega
              have j6 : (0 : Int) ≤ (i : Int) := by omega
              go_wp2_with fail
              go_loopw [18] (fun y wr => ∃ j t : Nat, j ≤ k ∧ y = .int .i64 j ∧ wr = u.drewN t) (fun y _ => k - (intOf y).toNat)
              case atStart => exact ⟨0, t, Nat.zero_le _, rfl, rfl⟩
              case round =>
                obtain ⟨j, t2, hj, rfl, rfl⟩ := hrel
                by_cases hjl : j < k
                · have j7 : (j : Int) < (k : Int) := by omega
                  have j8 : (0 : Int) ≤ (j : Int) := by omega
                  obtain ⟨b2, o2, rfl, hc2⟩ := SO.out.cells (by omega)
                  obtain ⟨b3, o3, rfl, hc3⟩ := SK.out.cells (by omega)
                  have d0 := hc2 j hjl
                  have d1 := hc3 i hil
                  obtain ⟨x, ex⟩ : ∃ x : Int, x = zs[j]?.getD 0 := ⟨_, rfl⟩
                  obtain ⟨z, ez⟩ : ∃ z : Int, z = (missL s)[i]?.getD 0 := ⟨_, rfl⟩
                  rw [← ex] at d0
                  rw [← ez] at d1
                  obtain ⟨g, eg⟩ : ∃ g, g = idx x n := ⟨_, rfl⟩
                  have iw := idx_wrap x (show 0 < n by omega) n2
                  rw [← eg] at iw
                  have ne : (((g : Nat) : Int) == z) = false := by
                    have hz : z ∈ missL s := by
                      have hl : i < (missL s).length := by rw [← EL.out]; exact hil
                      rw [ez, List.getElem?_eq_getElem hl]
                      exact List.getElem_mem hl
                    have := LACK.out j hjl z hz
                    rw [← ex, ← eg] at this
                    simpa using this
                  clear ex ez eg hc2 hc3
                  go_wp2_with fail
                  go_quiet (fail)
                  go_wp2_with fail
                  go_roundw
                  case rel => exact ⟨j + 1, _, by omega, by go_num, rfl⟩
                  case measure => simp [intOf]; omega
                · have lm := LM.out
                  go_wp2_with fail
                  go_roundw
                  case rel => exact ⟨i + 1, _, by omega, by go_num, rfl⟩
                  case measure => simp [intOf]; omega
            · have i9 : ¬ (i : Int) < (nL : Int) := by omega
              have T11 : Hid (Tw V (u.drewN t) B mo s B2 mo2 s2) := T10.out.next (below_drewN8 (Below.refl _ _) _)
              have CM := hide (missing_any T11.out.b.bm)
              rw [← EXT.out.1, ← EL.out] at CM
              go_wp2_with fail
              refine CM.out.mono ?_
              rintro e w12 ⟨a12, c12, rfl, hb12, hr12⟩
              have B12 : Hid (Below W.heap.size W w12) := below_step BV.out (below_step T11.out.a.below hb12)
              have bu : Below u.heap.size u w12 := (below_drewN8 (Below.refl _ _) t).trans hb12
              have CE : Hid (Calls Tryd.prog 22 #[.slice aK nL cK, .slice a12 nL c12] w12 fun e w' => e = .returned (.bool true) ∧ ∃ n, w' = w12.drewN n) := by
                obtain ⟨x2, y2, e2, q2⟩ := I8.sq_of_row EL.out.symm MW.out hr12
                obtain ⟨rfl, rfl⟩ : a12 = x2 ∧ c12 = y2 := by simpa using e2
                exact I8.plain_sq (SK.out.below bu) q2 (by have := LM.out; omega)
              have SX2 := hide (SX.out.below bu)
              have SY2 := hide (SY.out.below bu)
              clear hb12 hr12 bu CM
              go_wp2_with fail
              refine CE.out.mono ?_
              rintro e w13 ⟨rfl, n13, e13⟩
              have CY : Hid (Calls Tryd.prog 25 #[.slice aX nX cX, .slice aY nX cY] w13 fun e w' => e = .returned (.bool true) ∧ Below w13.heap.size w13 w') := by
                rw [e13]
                exact bytes_lit (SX2.out.drew n13) (SY2.out.drew n13) (by have := DLE.out; omega) (by simp)
              have B13 : Hid (Below W.heap.size W w13) := by rw [e13]; exact below_drewN8 B12.out _
              clear e13 CE
              go_wp2_with fail
              refine CY.out.mono ?_
              rintro e w14 ⟨rfl, hb14⟩
              have B14 : Hid (Below W.heap.size W w14) := below_step B13.out hb14
              clear hb14 CY
              by_cases hm : missL s = []
              · obtain rfl : dB = true := by rw [ED.out, JD.out.1, decide_eq_true hm]
                obtain rfl : nL = 0 := by rw [EL.out, hm]; rfl
                go_wp2_with fail
                go_ret
                exact ⟨rfl, B14.out⟩
              · obtain rfl : dB = false := by rw [ED.out, JD.out.1, decide_eq_false hm]
                have nz : 0 < nL := by rw [EL.out]; exact List.length_pos_iff.2 hm
                have zL : ((nL : Int) == 0) = false := by simp; omega
                go_wp2_with fail
                go_ret
                exact ⟨by first | rfl | simp, B14.out⟩
theorem walk {W : World} {a a2 : Option Addr} {len cap m2 c2 : Nat} {bs zs : List Int} (h : Sq W a len cap bs) (hc : cap * 1 ≤ 140737488351232) (h2 : I8.Sq W a2 m2 c2 zs) (hr : c2 * 8 ≤ 140737488351232) (ht : Tab W) :
    Calls Tryd.prog 8 #[.slice a len cap, .slice a2 m2 c2] W fun e w' => e = .returned (.bool true) ∧ Below W.heap.size W w' := by
  by_cases hl : len ≤ 8192
  · exact short h hl h2 (by have := h2.lecap; omega) ht
  · exact long (by omega) ht
theorem gTab : Tryd.prog.globalNamed "purse/codec.halves" = some 0 := by kernel_rfl
theorem gTabType : (Tryd.prog.globals[0]?).map (·.type) = some 66 := by kernel_rfl
theorem cellsT : Tryd.prog.cellsOf 66 = 16 := by kernel_rfl
theorem cellsE : Tryd.prog.cellsOf 31 = 1 := by kernel_rfl
theorem table {W : World} (h : laidMetH Tryd.prog Rows.chunkOrderRow.laid W) : Tab W := by
  have t : Lib.TabIs Tryd.prog W "purse/codec.halves" .u32 Crc.tab := Lib.tabIs_of_head (rest := []) gTab gTabType Tryd.underlying66 Tryd.underlying31 cellsE cellsT h
  intro j hj
  rw [t.cell gTab j hj]
  simp [List.getD]
theorem contract (H : Type) (enc : TypeId × Value → H) (W : World) (base : Nat) (args : Array Value) (ds gs : List (DataW H)) (before : List MemPlace)
    (hval0 : ∀ (j : Nat) t v, Tryd.f8.params[j]? = some t → args[j]? = some v → Value.okWide Tryd.prog W .any base t v)
    (hW : DataW.Whole enc Tryd.prog Tryd.f8.params.toList Rows.chunkOrderSpec.vars false W args.toList ds gs before)
    (hsz0 : (DataW.weightsEach Tryd.prog (Tryd.f8.params.toList ++ Rows.chunkOrderSpec.plain.varTypes Tryd.prog) (ds ++ gs)).all (· ≤ reachBytes) = true) (hL : laidMetH Tryd.prog Rows.chunkOrderRow.laid W) :
    Calls Tryd.prog 8 args W fun e W' => ∃ v, e = .returned v ∧ Rows.chunkOrderSpec.post enc Tryd.prog Tryd.f8 false true false false W args v W' := by
  have hsz : (DataW.weightsEach Tryd.prog (Tryd.f8.params.toList ++ Rows.chunkOrderSpec.plain.varTypes Tryd.prog) (ds ++ gs)).all (· ≤ reachBytes) = true := hsz0
  have hval : ∀ (j : Nat) t v, Tryd.f8.params[j]? = some t → args[j]? = some v → Value.okWide Tryd.prog W .any base t v := hval0
  have hW' := hW
  obtain ⟨p, q, hA0, hV, rfl, hfz, hnd⟩ := hW
  have hA : DataW.TrodAll enc Tryd.prog W 0 (fun _ => true) true Tryd.f8.params.toList args.toList ds p := hA0
  rw [Tryd.params8] at hA hval hsz
  obtain ⟨v0, vs0, d0, ds0, p0, q0, hargs, rfl, rfl, h0, r0⟩ := trodAll_cons hA
  obtain ⟨v1, vs1, d1, ds1, p1, q1, rfl, rfl, rfl, h1, r1⟩ := trodAll_cons r0
  obtain ⟨rfl, rfl, rfl⟩ := trodAll_nil r1
  obtain rfl : args = #[v0, v1] := by cases args; simp_all
  obtain ⟨rfl, rfl⟩ := trodVars_none hV
  have lt0 : ∀ x ∈ p0, x.block < W.heap.size := by obtain ⟨m, hm⟩ := h0; exact DataW.trod_lt m _ _ _ hm
  obtain ⟨a, len, cap, bs, rfl, h⟩ := open_sq_sized (hval 0 22 v0 rfl rfl) h0 (fun elems spare e => by have h := hsz; rw [e] at h; exact sized_slice h (j := 0) (t := 22) (e := 5) rfl rfl Tryd.underlying22)
  have lt1 : ∀ x ∈ p1, x.block < W.heap.size := by obtain ⟨m, hm⟩ := h1; exact DataW.trod_lt m _ _ _ hm
  obtain ⟨a2, m2, c2, zs, rfl, h2⟩ := I8.open_sq_sized (hval 1 45 v1 rfl rfl) h1 (fun elems spare e => by have h := hsz; rw [e] at h; exact sized_slice h (j := 1) (t := 45) (e := 3) rfl rfl Tryd.underlying45)
  clear hA0 hval0
  refine (walk h.1 h.2 h2.1 h2.2 (table hL)).mono fun e W' ⟨he, bel⟩ => ?_
  subst he
  exact ⟨_, rfl, _, _, _, [], _, [], hW', trodAll_mk1 (shut_bool Tryd.underlying4 _), (trodAll_cons_mk (Below.trod laidOut (by kernel_rfl) (of_decide_eq_true (by kernel_rfl)) h0 bel lt0) (trodAll_cons_mk (Below.trod laidOut (by kernel_rfl) (of_decide_eq_true (by kernel_rfl)) h1 bel lt1) trodAll_mk0)), rfl, bel.frame _, fun h => by cases h⟩

noncomputable def laidWorld (os : Os) : World :=
  { World.holding Tryd.prog os ⟨#[], #[], []⟩ with heap := (World.holding Tryd.prog os ⟨#[], #[], []⟩).heap.modify 0 fun
      | .cells _ t frozen => .cells #[.int .u32 0, .int .u32 498536548, .int .u32 997073096, .int .u32 651767980, .int .u32 1994146192, .int .u32 1802195444, .int .u32 1303535960, .int .u32 1342533948, .int .u32 3988292384, .int .u32 4027552580, .int .u32 3604390888, .int .u32 3412177804, .int .u32 2607071920, .int .u32 2262029012, .int .u32 2685067896, .int .u32 3183342108] t frozen
      | o => o }
theorem laid_met (os : Os) : laidMet Tryd.prog Rows.chunkOrderRow.laid ((laidWorld os).forCall (fun _ _ => 0) ⟨#[], #[Value.slice none 0 0, Value.slice none 0 0], []⟩).memory :=
  laidMet_of_run' 8 (by kernel_rfl) (by kernel_rfl)
theorem reads (os : Os) {H : Type} (enc : TypeId × Value → H) : ∃ places, DataW.whole enc Tryd.prog ((laidWorld os).forCall (fun _ _ => 0) ⟨#[], #[Value.slice none 0 0, Value.slice none 0 0], []⟩).memory Tryd.f8.params.toList Rows.chunkOrderSpec.vars false #[Value.slice none 0 0, Value.slice none 0 0].toList 8 = some ([.nil, .nil], [], places) :=
  ⟨[], by kernel_rfl⟩
set_option maxRecDepth 100000 in
theorem lifted (os : Os) (started : os.Started) (H : Type) (enc : TypeId × Value → H) (F : Stop.Interp) :
    ReturnsInHanded {} Tryd.checked os 8 .any ((OpenSpec.ofChange Rows.chunkOrderSpec).preRow enc Tryd.prog Tryd.f8 Rows.chunkOrderRow.domain false Rows.chunkOrderRow.laid) (((OpenSpec.ofChange Rows.chunkOrderSpec).at F).post enc Tryd.prog Tryd.f8 false true false false) := by
  obtain ⟨places, hx⟩ := reads os enc
  refine returnsInHanded_of_row (C := Tryd.checked) (s := OpenSpec.ofChange Rows.chunkOrderSpec) own started (by kernel_rfl) Tryd.func8
    (witness_row_at (enc := enc) (C := Tryd.checked) false (laidWorld os) #[Value.slice none 0 0, Value.slice none 0 0] rfl (by kernel_rfl) (by kernel_rfl) (by kernel_rfl)
      (OpenSpec.preRow_of_cond 8 hx (by kernel_rfl) (fun k hk => by cases hk) (by kernel_rfl) (laid_met os))) ?_
  intro W base args ds gs before hval hW _ _ hsz hL _ _
  exact contract H enc W base args ds gs before hval hW hsz hL

theorem said : Rows.ChunkOrderSaid :=
  OpenClaim.holds_of_cond 8 Tryd.f8 rfl rfl rfl rfl rfl rfl rfl ⟨rfl, rfl, rfl, rfl, rfl⟩ rfl rfl rfl rfl rfl (by kernel_rfl) Tryd.func8 (by kernel_rfl)
    (of_decide_eq_true (by kernel_rfl)) (by unfold Func.isWrapper; first | (rw [if_pos (by decide +kernel)]; kernel_rfl) | (rw [if_neg (by decide +kernel)]; exact ⟨rfl, rfl⟩))
    (fun os started H enc _ F => by rw [OpenClaim.pre_eq_preRow]; exact lifted os started H enc F)
theorem plain (f : FuncId) (fn : Func) (hf : Tryd.pinned.checked.prog.funcNamed "purse/purselaw12.ChunkOrder" = some f) (hfn : Tryd.pinned.checked.prog.funcs[f]? = some fn) :
    true = Tryd.pinned.checked.prog.looks [] ∧ ∀ (j : Nat) t, fn.params[j]? = some t → Tryd.pinned.checked.prog.wantsStandIn t = false := by
  obtain rfl : f = 8 := Option.some.inj ((show Tryd.prog.funcNamed "purse/purselaw12.ChunkOrder" = some 8 by kernel_rfl).symm.trans hf) |>.symm
  obtain rfl : fn = Tryd.f8 := (Option.some.inj (Tryd.func8.symm.trans hfn)).symm
  refine ⟨by kernel_rfl, fun j t ht => ?_⟩
  rw [Tryd.params8] at ht
  have hmem := Array.mem_of_getElem? ht
  have ht2 : t = 22 ∨ t = 45 := by simpa using hmem
  rcases ht2 with rfl | rfl
  · exact (show Tryd.prog.wantsStandIn 22 = false by kernel_rfl)
  · exact (show Tryd.prog.wantsStandIn 45 = false by kernel_rfl)
theorem card : Rows.ChunkOrderCardSaid :=
  Claim7.holds_tied_plain_at .later [] _ _ _ _ said (fun _ h => by cases h) (by kernel_rfl) (fun _ h => by cases h) chunkOrder_row_tie rfl ⟨rfl, rfl⟩ (by kernel_rfl) rfl plain (by kernel_rfl)
#print axioms card
end ChunkOrder
theorem chunkOrder_holds : Rows.ChunkOrderCardSaid := ChunkOrder.card
end Go.Proofs.YtokdlkfjimihjaaDoor
