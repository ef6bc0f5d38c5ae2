/- WireKeeps: for every command and every list of bytes: what is handed to wire stays as it was, and what wire hands out has memory of its own. No condition. -/
import Derived.Test.YtfdejkfbjmkngabWireOpen
import Derived.Test.YtfdejkfbjmkngabWireRow
import Derived.Deep.Cut
import Derived.Test.YtfdejkfbjmkngabWireAwake
import Derived.Test.YtfdejkfbjmkngabWireCallsCommand
import Derived.Test.YtfdejkfbjmkngabWireSameCommand
import Derived.Test.YtfdejkfbjmkngabWireOnly
namespace Go.Proofs.Ytfdejkfbjmkngab
namespace WireKeeps
open Go.ChangeShapes Go.WideShapes Go.ChangeAt Go.RowKit B8 Cm Wm
set_option linter.unusedVariables false

theorem err_len (fs : List Fld) : wErr fs = 0 ∨ (wErr fs = 22 ∧ (wBytes fs).length = 0) := by
  cases h : okAll fs with
  | true => exact .inl (wErr_ok h)
  | false => exact .inr ⟨wErr_no h, by rw [wBytes_no h]; rfl⟩

set_option maxRecDepth 100000 in
set_option maxHeartbeats 4000000 in
theorem walk {w : World} {cs : Array Value} {xs : List Atom} {a : Option Addr} {len cap : Nat} {bs : List Int} (h : Vals w (fun b => b < w.heap.size) cs xs) (hk : xs.map Atom.k = [0, 0, 0, 0, 0, 0, 3, 0, 0, 0, 2, 0, 3, 3, 0, 0, 0, 0, 0, 0, 3, 3, 0, 0, 4]) (q : Sq w a len cap bs) (hcap : cap * 1 ≤ 140737488351232) :
    Calls Try.prog 4 #[.agg cs, .slice a len cap] w fun e w' => e = .returned (.bool true) ∧ Below w.heap.size w w' := by
  have EL := err_len (flds xs)
  obtain ⟨F, eF⟩ : ∃ F, F = wBytes (flds xs) := ⟨_, rfl⟩
  rw [← eF] at EL
  obtain ⟨n, en⟩ : ∃ n, n = F.length := ⟨_, rfl⟩
  obtain ⟨E, eE⟩ : ∃ E, E = wErr (flds xs) := ⟨_, rfl⟩
  rw [← en, ← eE] at EL
  obtain ⟨G, eG⟩ : ∃ G, G = tErr [0, 0, 0, 0, 0, 0, 3, 0, 0, 0, 2, 0, 3, 3, 0, 0, 0, 0, 0, 0, 3, 3, 0, 0, 4] bs := ⟨_, rfl⟩
  obtain ⟨X, eX⟩ : ∃ X, X = tVal [0, 0, 0, 0, 0, 0, 3, 0, 0, 0, 2, 0, 3, 3, 0, 0, 0, 0, 0, 0, 3, 3, 0, 0, 4] bs := ⟨_, rfl⟩
  have kX : X.map Atom.k = [0, 0, 0, 0, 0, 0, 3, 0, 0, 0, 2, 0, 3, 3, 0, 0, 0, 0, 0, 0, 3, 3, 0, 0, 4] := by rw [eX]; exact kinds_tVal_command bs
  have hlc := q.lecap
  have hlen : len ≤ 140737488351232 := by omega
  have hn : n ≤ 65536 := by rw [en, eF]; exact wBytes_le _
  obtain ⟨x24, ai, ni, ci, ex, ek, ec, qi, hni, _⟩ := vals_image h hk (j := 24) rfl
  have b1 : Below w.heap.size w (w.alloc (.cells cs 29)) := Below.alloc (Below.refl _ _) (Nat.le_refl _) _
  have B1 := hide b1
  have R1 : Hid ((w.alloc (.cells cs 29)).heap[w.heap.size]? = some (.cells cs 29)) := heap_alloc_new w _
  have LT1 : Hid (w.heap.size < (w.alloc (.cells cs 29)).heap.size) := by show _ < _; simp
  have HI : Hid ((Try.prog.info? 29).map (·.size) = some cs.size) := by show _ = _; rw [h.size_of hk]; exact info_command
  have H := hide h
  have HK := hide hk
  have Q := hide q
  have QI := hide qi
  have KX := hide kX
  have EF := hide eF
  have EN := hide en
  have EE := hide eE
  have EG := hide eG
  have EX := hide eX
  have E24 := hide ex
  have K24 := hide ek
  have C24 := hide ec
  have ELh := hide EL
  clear h hk q kX b1 eF en eE eG eX qi ex ek ec EL
  go_enter Try.func4, Try.ntmps4
  go_upto_region 1 with fail
  go_wp2_with (refine wpList_load_row rfl 29 (.tmp 2) rfl w.heap.size rfl 29 cs (0, 0) _ R1.out Try.underlying29 rfl HI.out ?_)
  refine (copy_command (H.out.below B1.out) HK.out).mono ?_
  rintro e w2 ⟨cs2, rfl, hv2, hb2⟩
  have B2 := hide (below_step B1.out hb2)
  have R2 := hide ((hb2.block _ LT1.out).trans R1.out)
  have LT2 : Hid (w.heap.size < w2.heap.size) := Nat.lt_of_lt_of_le LT1.out hb2.size
  have V2 := hide hv2
  clear hv2 hb2 R1 LT1
  have INF2 : Hid ((Try.prog.info? 29).map (·.size) = some cs2.size) := by show _ = _; rw [V2.out.size_of HK.out]; exact info_command
  have SZ2 : Hid ((#[.int .i64 0, .int .i64 0, .int .i64 0, .int .i64 0, .int .i64 0, .int .i64 0, .string ⟨#[]⟩, .int .i64 0, .int .i64 0, .int .i64 0, .bool false, .int .i64 0, .string ⟨#[]⟩, .string ⟨#[]⟩, .int .i64 0, .int .i64 0, .int .i64 0, .int .i64 0, .int .i64 0, .int .i64 0, .string ⟨#[]⟩, .string ⟨#[]⟩, .int .i64 0, .int .i64 0, .slice none 0 0] : Array Value).size = cs2.size) := (V2.out.size_of HK.out).symm
  have ONE2 := hide V2.out.one
  have N2 : Hid ((w2.alloc (.cells #[.int .i64 0, .int .i64 0, .int .i64 0, .int .i64 0, .int .i64 0, .int .i64 0, .string ⟨#[]⟩, .int .i64 0, .int .i64 0, .int .i64 0, .bool false, .int .i64 0, .string ⟨#[]⟩, .string ⟨#[]⟩, .int .i64 0, .int .i64 0, .int .i64 0, .int .i64 0, .int .i64 0, .int .i64 0, .string ⟨#[]⟩, .string ⟨#[]⟩, .int .i64 0, .int .i64 0, .slice none 0 0] 29)).heap[w2.heap.size]? = some (.cells #[.int .i64 0, .int .i64 0, .int .i64 0, .int .i64 0, .int .i64 0, .int .i64 0, .string ⟨#[]⟩, .int .i64 0, .int .i64 0, .int .i64 0, .bool false, .int .i64 0, .string ⟨#[]⟩, .string ⟨#[]⟩, .int .i64 0, .int .i64 0, .int .i64 0, .int .i64 0, .int .i64 0, .int .i64 0, .string ⟨#[]⟩, .string ⟨#[]⟩, .int .i64 0, .int .i64 0, .slice none 0 0] 29)) := heap_alloc_new w2 _
  go_upto_region 2 with (refine wpList_store_row rfl 29 (.tmp 5) (.tmp 23) rfl w2.heap.size cs2 rfl rfl 29 #[.int .i64 0, .int .i64 0, .int .i64 0, .int .i64 0, .int .i64 0, .int .i64 0, .string ⟨#[]⟩, .int .i64 0, .int .i64 0, .int .i64 0, .bool false, .int .i64 0, .string ⟨#[]⟩, .string ⟨#[]⟩, .int .i64 0, .int .i64 0, .int .i64 0, .int .i64 0, .int .i64 0, .int .i64 0, .string ⟨#[]⟩, .string ⟨#[]⟩, .int .i64 0, .int .i64 0, .slice none 0 0] N2.out INF2.out SZ2.out ONE2.out ?_)
  rw [setRow_alloc]
  have B3 := hide (below_alloc B2.out (.cells cs2 29))
  have b23 := below_alloc1 w2 (.cells cs2 29)
  have R3 := hide ((b23.block _ LT2.out).trans R2.out)
  have V3 : Hid (Vals (w2.alloc (.cells cs2 29)) (fun b => b < w2.heap.size) cs2 xs) := V2.out.same fun b hl => ⟨hl, b23.block b hl⟩
  have I3 : Hid ((w2.alloc (.cells cs2 29)).heap[w2.heap.size]? = some (.cells cs2 29)) := heap_alloc_new w2 _
  have S3 : Hid ((w2.alloc (.cells cs2 29)).heap.size = w2.heap.size + 1) := by show _ = _; simp
  have LG : Hid (w.heap.size < w2.heap.size) := LT2
  clear b23 N2 ONE2 SZ2 V2 R2 LT2 B2
  obtain ⟨gi, egi⟩ : ∃ gi, gi = w2.heap.size := ⟨_, rfl⟩
  obtain ⟨w3, e3⟩ : ∃ w3, w3 = w2.alloc (.cells cs2 29) := ⟨_, rfl⟩
  rw [← e3] at B3 R3 V3 I3 S3 ⊢
  rw [← egi] at V3 I3 S3 LG ⊢
  clear e3 egi
  have c24 : w3.cell? ⟨w.heap.size, 24, none⟩ = some (.slice ai ni ci) := by rw [cell_of_row _ _ _ _ _ _ R3.out]; exact C24.out
  have Q3 := hide (QI.out.below B3.out)
  have szi : cs2.size = 25 := V3.out.size_of HK.out
  have SZI := hide szi
  clear szi
  go_wp2_with fail
  refine (own_sq 71 Q3.out (by omega)).mono ?_
  rintro e w4 ⟨rfl, hb4, ho4⟩
  clear c24
  have so := sq_own Q3.out.length Q3.out.wf ho4
  have lo : w3.heap.size < w4.heap.size := (own_rm Q3.out.length Q3.out.wf (by decide) ho4).2
  have I4 := hide ((hb4.block gi (by rw [S3.out]; omega)).trans I3.out)
  have R4 := hide ((hb4.block w.heap.size (by have := LG.out; rw [S3.out]; omega)).trans R3.out)
  have B4 := hide (below_step B3.out hb4)
  have V4 : Hid (Vals w4 (fun b => b < gi) cs2 xs) := V3.out.same fun b hl => ⟨hl, hb4.block b (by rw [S3.out]; omega)⟩
  have SO := hide so
  have LO := hide lo
  obtain ⟨v24, d24⟩ : ∃ v, w4.cell? ⟨gi, 24, none⟩ = some v := ⟨cs2[24]'(by rw [SZI.out]; omega), by rw [cell_of_row _ _ _ _ _ _ I4.out]; exact Array.getElem?_eq_getElem _⟩
  have f24 : w4.frozen? ⟨gi, 24, none⟩ = false := frozen_of_row _ _ _ _ _ I4.out
  obtain ⟨go, ego⟩ : ∃ go, go = w3.heap.size := ⟨_, rfl⟩
  have GO : Hid (go = gi + 1) := by show _ = _; rw [ego]; exact S3.out
  rw [← ego] at SO LO ⊢
  clear so lo hb4 ho4 R3 V3 I3 B3 Q3 S3 ego
  go_upto_region 3 with fail
  clear d24 f24
  obtain ⟨cs5, e5⟩ : ∃ cs5, cs5 = cs2.setIfInBounds 24 (.slice (some ⟨go, 0, none⟩) ni (ni + 2)) := ⟨_, rfl⟩
  obtain ⟨w5, ew5⟩ : ∃ w5, w5 = w4.setCell ⟨gi, 24, none⟩ (.slice (some ⟨go, 0, none⟩) ni (ni + 2)) := ⟨_, rfl⟩
  have I5 : Hid (w5.heap[gi]? = some (.cells cs5 29)) := by rw [ew5, e5]; exact heap_setCell_same w4 gi 24 cs2 _ _ I4.out
  have o5 : ∀ b, b ≠ gi → w5.heap[b]? = w4.heap[b]? := fun b hb => by rw [ew5]; exact Below.heap_setCell _ _ _ _ hb
  have R5 := hide ((o5 w.heap.size (by have := LG.out; omega)).trans R4.out)
  have B5 : Hid (Below w.heap.size w w5) := by rw [ew5]; exact B4.out.setCell (by have := LG.out; show w.heap.size ≤ gi; omega) _
  have z5 : w5.heap.size = w4.heap.size := by rw [ew5]; simp [World.setCell]
  have SQO : Hid (Sq w5 (some ⟨go, 0, none⟩) ni (ni + 2) x24.bs) := sq_same SO.out.1 (fun b off e _ => o5 b (by have := GO.out; cases e; omega))
  have M1 : Hid (w5.cell? ⟨go, ni, none⟩ = some (.int .u8 71)) := (World.cell?_of_block (w := w4) (o5 go (by have := GO.out; omega))).trans SO.out.2.1
  have M2 : Hid (w5.cell? ⟨go, ni + 1, none⟩ = some (.int .u8 71)) := (World.cell?_of_block (w := w4) (o5 go (by have := GO.out; omega))).trans SO.out.2.2
  have V5 : Hid (Vals w5 (fun b => b < w5.heap.size) cs5 xs) := by
    rw [e5]
    refine vals_set (x := x24) (V4.out.same fun b hl => ⟨by rw [z5]; have := LO.out; have := GO.out; omega, o5 b (by omega)⟩) E24.out (.inr (.inr (.inr (.inr ⟨K24.out, _, _, _, rfl, SQO.out, hni, fun b off e _ => ?_⟩))))
    cases e
    rw [z5]
    exact LO.out
  have C245 : Hid (cs5[24]? = some (.slice (some ⟨go, 0, none⟩) ni (ni + 2))) := by rw [e5]; exact Array.getElem?_setIfInBounds_self_of_lt (by rw [SZI.out]; omega)
  have LT5 : Hid (gi < w5.heap.size ∧ w.heap.size < w5.heap.size ∧ go < w5.heap.size) := by have := LO.out; have := GO.out; have := LG.out; exact ⟨by omega, by omega, by omega⟩
  rw [← ew5]
  clear ew5 e5 o5 z5 V4 I4 R4 B4 SO LO SZI
  have INF5 : Hid ((Try.prog.info? 29).map (·.size) = some cs5.size) := by show _ = _; rw [V5.out.size_of HK.out]; exact info_command
  have C6 := ccall_command V5.out HK.out
  rw [← EF.out, ← EN.out, ← EE.out] at C6
  have C6 := hide C6
  go_wp2_with (refine wpList_load_row rfl 29 (.tmp 5) rfl gi rfl 29 cs5 (0, 0) _ I5.out Try.underlying29 rfl INF5.out ?_)
  refine C6.out.mono ?_
  rintro e w6 ⟨ax, cx, rfl, hm6, hb6⟩
  obtain ⟨s5, es5⟩ : ∃ s5, s5 = w5.heap.size := ⟨_, rfl⟩
  rw [← es5] at hm6 hb6 LT5 V5
  have b56 : Below s5 w5 w6 := hb6
  have I6 := hide ((b56.block _ LT5.out.1).trans I5.out)
  have LE6 : Hid (s5 ≤ w6.heap.size) := by rw [es5]; exact b56.size
  have MX := hide hm6
  have BB6 := hide b56
  clear hm6 hb6 b56 C6 es5
  have C7 := ccall_command (V5.out.upto BB6.out LE6.out) HK.out
  rw [← EF.out, ← EN.out, ← EE.out] at C7
  have C7 := hide C7
  go_wp2_with (refine wpList_load_row rfl 29 (.tmp 5) rfl gi rfl 29 cs5 (0, 0) _ I6.out Try.underlying29 rfl INF5.out ?_)
  refine C7.out.mono ?_
  rintro e w7 ⟨ay, cy, rfl, hm7, hb7⟩
  have BB7 := hide (BB6.out.trans (hb7.mono LE6.out))
  have LE7 : Hid (s5 ≤ w7.heap.size) := Nat.le_trans LE6.out hb7.size
  have MX7 : Hid (∀ b off, ax = some ⟨b, off, none⟩ → s5 ≤ b ∧ b < w6.heap.size ∧ Free w7 b) := fun b off e => by
    obtain ⟨m1, m2, m3⟩ := mine_at MX.out e
    exact ⟨m1, m2, m3.same (hb7.block b m2)⟩
  have LX7 : Hid (w6.heap.size ≤ w7.heap.size) := hb7.size
  have QX7 := hide (MX.out.sq.below hb7)
  have MY7 : Hid (∀ b off, ay = some ⟨b, off, none⟩ → w6.heap.size ≤ b) := fun b off e => (mine_at hm7 e).1
  have QY7 := hide hm7.sq
  obtain ⟨s6, es6⟩ : ∃ s6, s6 = w6.heap.size := ⟨_, rfl⟩
  rw [← es6] at MX7 MY7 LX7
  clear hm7 hb7 C7 MX I6 LE6 BB6 es6
  go_wp2_with fail
  refine (wawake_any w7).mono ?_
  rintro e wa ⟨rfl, hba⟩
  have BBa := hide (BB7.out.trans (hba.mono LE7.out))
  have LEa : Hid (s5 ≤ wa.heap.size) := Nat.le_trans LE7.out hba.size
  have QXa := hide (QX7.out.below hba)
  have QYa := hide (QY7.out.below hba)
  have MXa : Hid (∀ b off, ax = some ⟨b, off, none⟩ → s5 ≤ b ∧ b < s6 ∧ Free wa b) := fun b off e => by
    obtain ⟨m1, m2, m3⟩ := MX7.out b off e
    exact ⟨m1, m2, m3.same (hba.block b (Nat.lt_of_lt_of_le m2 LX7.out))⟩
  clear hba BB7 LE7 QX7 QY7 MX7 LX7
  have BwA : Hid (Below w.heap.size w wa) := B5.out.trans (BBa.out.mono (Nat.le_of_lt LT5.out.2.1))
  have cI : wa.cell? ⟨gi, 24, none⟩ = some (.slice (some ⟨go, 0, none⟩) ni (ni + 2)) := by rw [cell_of_row _ _ _ _ _ _ ((BBa.out.block _ LT5.out.1).trans I5.out)]; exact C245.out
  have cC : wa.cell? ⟨w.heap.size, 24, none⟩ = some (.slice ai ni ci) := by rw [cell_of_row _ _ _ _ _ _ ((BBa.out.block _ LT5.out.2.1).trans R5.out)]; exact C24.out
  have CK := hide (kept_sq 71 (sq_same SQO.out (fun b off e _ => BBa.out.block b (by cases e; exact LT5.out.2.2))) (QI.out.below BwA.out) (by omega) ((World.cell?_of_block (w := w5) (BBa.out.block go LT5.out.2.2)).trans M1.out) ((World.cell?_of_block (w := w5) (BBa.out.block go LT5.out.2.2)).trans M2.out))
  go_wp2_with fail
  refine CK.out.mono ?_
  rintro e wb ⟨rfl, mb, eb⟩
  have BBb : Hid (Below s5 w5 wb) := by rw [eb]; exact below_drewN BBa.out mb
  have LEb : Hid (s5 ≤ wb.heap.size) := by rw [eb]; exact LEa.out
  have QXb : Hid (Sq wb ax n cx F) := by rw [eb]; exact QXa.out.drew mb
  have QYb : Hid (Sq wb ay n cy F) := by rw [eb]; exact QYa.out.drew mb
  have MXb : Hid (∀ b off, ax = some ⟨b, off, none⟩ → s5 ≤ b ∧ b < s6 ∧ Free wb b) := by rw [eb]; exact MXa.out
  have CB := hide (bytes_sq QXb.out QYb.out (by omega))
  clear eb CK cI cC BBa LEa QXa QYa MXa BwA
  go_wp2_with fail
  refine CB.out.mono ?_
  rintro e w8 ⟨rfl, m8, e8⟩
  have BB8 : Hid (Below s5 w5 w8) := by rw [e8]; exact below_drewN BBb.out m8
  have QX8 : Hid (Sq w8 ax n cx F) := by rw [e8]; exact QXb.out.drew m8
  have QY8 : Hid (Sq w8 ay n cy F) := by rw [e8]; exact QYb.out.drew m8
  have MX8 : Hid (∀ b off, ax = some ⟨b, off, none⟩ → s5 ≤ b ∧ b < s6 ∧ Free w8 b) := by rw [e8]; exact MXb.out
  have LE8 : Hid (s5 ≤ w8.heap.size) := by rw [e8]; exact LEb.out
  have RM8 := hide (Sq.rm QX8.out (fun b off e _ => (MX8.out b off e).2.2))
  clear e8 CB BBb LEb QXb QYb MXb SQO M1 M2 R5 C245 QI C24 E24 K24 GO LG HI
  go_wp2_with fail
  go_loopw [10] (fun i wr => ∃ j : Nat, j ≤ n ∧ i = .int .i64 j ∧ Hid (Onl ax w8 wr) ∧ Hid (Rm ax n wr)) (fun i _ => n - (intOf i).toNat)
  case atStart => exact ⟨0, Nat.zero_le _, rfl, Onl.refl _ _, RM8⟩
  case round =>
    obtain ⟨j, hj, rfl, ON, RM⟩ := hrel
    by_cases hlt : j < n
    · obtain ⟨bx, ox, e, _⟩ := QX8.out.cells (by omega)
      subst e
      obtain ⟨⟨v0, c0⟩, f0⟩ := RM.out bx ox rfl j hlt
      have hi : (j : Int) < (n : Int) := by omega
      go_wp2_with fail
      go_roundw
      case rel => exact ⟨j + 1, by omega, by go_num, ON.out.set rfl _ _, RM.out.set _ _ _⟩
      case measure => simp [intOf]; omega
    · obtain rfl : j = n := by omega
      have BBr := hide (BB8.out.trans (ON.out.below (fun b off e => (MX8.out b off e).1)))
      have LEr : Hid (s5 ≤ wr.heap.size) := by have := LE8.out; show _ ≤ _; rw [ON.out.size]; exact this
      have QYr := hide (sq_same QY8.out (fun b off e h0 => ON.out.from (B := s6) (fun b off e => (MX8.out b off e).2.1) b (MY7.out b off e)))
      have Ir := hide ((BBr.out.block _ LT5.out.1).trans I5.out)
      have Bwr : Hid (Below w.heap.size w wr) := B5.out.trans (BBr.out.mono (Nat.le_of_lt LT5.out.2.1))
      have C10 := ccall_command (V5.out.upto BBr.out LEr.out) HK.out
      rw [← EF.out, ← EN.out, ← EE.out] at C10
      have C10 := hide C10
      clear BB8 LE8 QX8 QY8 MX8 RM8 ON RM MY7 hlt hj V5 I5 LT5 B5
      go_wp2_with (refine wpList_load_row rfl 29 (.tmp 5) rfl gi rfl 29 cs5 (0, 0) _ Ir.out Try.underlying29 rfl INF5.out ?_)
      refine C10.out.mono ?_
      rintro e w10 ⟨az, cz, rfl, hm10, hb10⟩
      have B10 := hide (below_step Bwr.out hb10)
      have QY10 := hide (QYr.out.below hb10)
      have QZ10 := hide hm10.sq
      clear hm10 hb10 C10 Ir INF5 BBr LEr QYr Bwr
      have C11 := hide (own_sq 72 (Q.out.below B10.out) (by omega))
      go_wp2_with fail
      refine C11.out.mono ?_
      rintro e w11 ⟨rfl, hb11, ho11⟩
      have OW11 : Hid (Own w11 w10.heap.size len bs) := by
        have k1 := sq_own Q.out.length Q.out.wf ho11
        have k2 := own_rm Q.out.length Q.out.wf (by decide) ho11
        exact ⟨k1.1, k1.2.1, k1.2.2, k2.1, k2.2⟩
      have B11 := hide (below_step B10.out hb11)
      have QY11 := hide (QY10.out.below hb11)
      have QZ11 := hide (QZ10.out.below hb11)
      obtain ⟨g2, eg2⟩ : ∃ g2, g2 = w10.heap.size := ⟨_, rfl⟩
      have G2 : Hid (w.heap.size ≤ g2) := by rw [eg2]; exact B10.out.size
      rw [← eg2] at OW11 ⊢
      clear hb11 ho11 C11 B10 QY10 QZ10 eg2
      have C12 := cread_command OW11.out.sq (by omega)
      rw [← EG.out, ← EX.out] at C12
      have C12 := hide C12
      go_wp2_with fail
      refine C12.out.mono ?_
      rintro e w12 ⟨cs12, rfl, hv12, hb12⟩
      obtain ⟨s11, es11⟩ : ∃ s11, s11 = w11.heap.size := ⟨_, rfl⟩
      have L2 : Hid (g2 < s11) := by rw [es11]; exact OW11.out.lt
      have L3 : Hid (s11 ≤ w12.heap.size) := by rw [es11]; exact hb12.size
      have OW12 := hide (OW11.out.below hb12)
      have B12 := hide (below_step B11.out hb12)
      have QY12 := hide (QY11.out.below hb12)
      have QZ12 := hide (QZ11.out.below hb12)
      have V12 := hide hv12
      rw [← es11] at V12
      clear hv12 hb12 C12 OW11 B11 QY11 QZ11 es11
      have INF12 : Hid ((Try.prog.info? 29).map (·.size) = some cs12.size) := by show _ = _; rw [V12.out.size_of KX.out]; exact info_command
      have SZ12 : Hid ((#[.int .i64 0, .int .i64 0, .int .i64 0, .int .i64 0, .int .i64 0, .int .i64 0, .string ⟨#[]⟩, .int .i64 0, .int .i64 0, .int .i64 0, .bool false, .int .i64 0, .string ⟨#[]⟩, .string ⟨#[]⟩, .int .i64 0, .int .i64 0, .int .i64 0, .int .i64 0, .int .i64 0, .int .i64 0, .string ⟨#[]⟩, .string ⟨#[]⟩, .int .i64 0, .int .i64 0, .slice none 0 0] : Array Value).size = cs12.size) := (V12.out.size_of KX.out).symm
      have ONE12 := hide V12.out.one
      have N12 : Hid ((w12.alloc (.cells #[.int .i64 0, .int .i64 0, .int .i64 0, .int .i64 0, .int .i64 0, .int .i64 0, .string ⟨#[]⟩, .int .i64 0, .int .i64 0, .int .i64 0, .bool false, .int .i64 0, .string ⟨#[]⟩, .string ⟨#[]⟩, .int .i64 0, .int .i64 0, .int .i64 0, .int .i64 0, .int .i64 0, .int .i64 0, .string ⟨#[]⟩, .string ⟨#[]⟩, .int .i64 0, .int .i64 0, .slice none 0 0] 29)).heap[w12.heap.size]? = some (.cells #[.int .i64 0, .int .i64 0, .int .i64 0, .int .i64 0, .int .i64 0, .int .i64 0, .string ⟨#[]⟩, .int .i64 0, .int .i64 0, .int .i64 0, .bool false, .int .i64 0, .string ⟨#[]⟩, .string ⟨#[]⟩, .int .i64 0, .int .i64 0, .int .i64 0, .int .i64 0, .int .i64 0, .int .i64 0, .string ⟨#[]⟩, .string ⟨#[]⟩, .int .i64 0, .int .i64 0, .slice none 0 0] 29)) := heap_alloc_new w12 _
      go_upto_region 14 with (refine wpList_store_row rfl 29 (.tmp 14) (.tmp 73) rfl w12.heap.size cs12 rfl rfl 29 #[.int .i64 0, .int .i64 0, .int .i64 0, .int .i64 0, .int .i64 0, .int .i64 0, .string ⟨#[]⟩, .int .i64 0, .int .i64 0, .int .i64 0, .bool false, .int .i64 0, .string ⟨#[]⟩, .string ⟨#[]⟩, .int .i64 0, .int .i64 0, .int .i64 0, .int .i64 0, .int .i64 0, .int .i64 0, .string ⟨#[]⟩, .string ⟨#[]⟩, .int .i64 0, .int .i64 0, .slice none 0 0] N12.out INF12.out SZ12.out ONE12.out ?_)
      rw [setRow_alloc]
      have b23 := below_alloc1 w12 (.cells cs12 29)
      have B13 := hide (below_step B12.out b23)
      have OW13 := hide (OW12.out.below b23)
      have QY13 := hide (QY12.out.below b23)
      have QZ13 := hide (QZ12.out.below b23)
      have V13 := hide (V12.out.keepF (fun b _ hl => b23.block b hl))
      have I13 : Hid ((w12.alloc (.cells cs12 29)).heap[w12.heap.size]? = some (.cells cs12 29)) := heap_alloc_new w12 _
      have S13 : Hid ((w12.alloc (.cells cs12 29)).heap.size = w12.heap.size + 1) := by show _ = _; simp
      clear b23 N12 ONE12 SZ12 V12 OW12 QY12 QZ12 B12
      obtain ⟨gm, egm⟩ : ∃ gm, gm = w12.heap.size := ⟨_, rfl⟩
      obtain ⟨w13, e13⟩ : ∃ w13, w13 = w12.alloc (.cells cs12 29) := ⟨_, rfl⟩
      rw [← e13] at B13 OW13 QY13 QZ13 V13 I13 S13 ⊢
      rw [← egm] at I13 S13 L3 V13 ⊢
      clear e13 egm
      have C14 := cread_command OW13.out.sq (by omega)
      rw [← EG.out, ← EX.out] at C14
      have C14 := hide C14
      go_wp2_with fail
      refine C14.out.mono ?_
      rintro e w14 ⟨cs14, rfl, hv14, hb14⟩
      rw [S13.out] at hv14
      have I14 := hide ((hb14.block gm (by rw [S13.out]; omega)).trans I13.out)
      have L4 : Hid (gm + 1 ≤ w14.heap.size) := by show _ ≤ _; have := hb14.size; rw [S13.out] at this; exact this
      have OW14 := hide (OW13.out.below hb14)
      have B14 := hide (below_step B13.out hb14)
      have QY14 := hide (QY13.out.below hb14)
      have QZ14 := hide (QZ13.out.below hb14)
      have VM14 := hide (V13.out.keepF (fun b _ hl => hb14.block b (by rw [S13.out]; omega)))
      have V14 := hide hv14
      clear hv14 hb14 C14 OW13 B13 QY13 QZ13 V13 I13 S13
      have INF14 : Hid ((Try.prog.info? 29).map (·.size) = some cs14.size) := by show _ = _; rw [V14.out.size_of KX.out]; exact info_command
      have SZ14 : Hid ((#[.int .i64 0, .int .i64 0, .int .i64 0, .int .i64 0, .int .i64 0, .int .i64 0, .string ⟨#[]⟩, .int .i64 0, .int .i64 0, .int .i64 0, .bool false, .int .i64 0, .string ⟨#[]⟩, .string ⟨#[]⟩, .int .i64 0, .int .i64 0, .int .i64 0, .int .i64 0, .int .i64 0, .int .i64 0, .string ⟨#[]⟩, .string ⟨#[]⟩, .int .i64 0, .int .i64 0, .slice none 0 0] : Array Value).size = cs14.size) := (V14.out.size_of KX.out).symm
      have ONE14 := hide V14.out.one
      have N14 : Hid ((w14.alloc (.cells #[.int .i64 0, .int .i64 0, .int .i64 0, .int .i64 0, .int .i64 0, .int .i64 0, .string ⟨#[]⟩, .int .i64 0, .int .i64 0, .int .i64 0, .bool false, .int .i64 0, .string ⟨#[]⟩, .string ⟨#[]⟩, .int .i64 0, .int .i64 0, .int .i64 0, .int .i64 0, .int .i64 0, .int .i64 0, .string ⟨#[]⟩, .string ⟨#[]⟩, .int .i64 0, .int .i64 0, .slice none 0 0] 29)).heap[w14.heap.size]? = some (.cells #[.int .i64 0, .int .i64 0, .int .i64 0, .int .i64 0, .int .i64 0, .int .i64 0, .string ⟨#[]⟩, .int .i64 0, .int .i64 0, .int .i64 0, .bool false, .int .i64 0, .string ⟨#[]⟩, .string ⟨#[]⟩, .int .i64 0, .int .i64 0, .int .i64 0, .int .i64 0, .int .i64 0, .int .i64 0, .string ⟨#[]⟩, .string ⟨#[]⟩, .int .i64 0, .int .i64 0, .slice none 0 0] 29)) := heap_alloc_new w14 _
      go_upto_region 15 with (refine wpList_store_row rfl 29 (.tmp 16) (.tmp 78) rfl w14.heap.size cs14 rfl rfl 29 #[.int .i64 0, .int .i64 0, .int .i64 0, .int .i64 0, .int .i64 0, .int .i64 0, .string ⟨#[]⟩, .int .i64 0, .int .i64 0, .int .i64 0, .bool false, .int .i64 0, .string ⟨#[]⟩, .string ⟨#[]⟩, .int .i64 0, .int .i64 0, .int .i64 0, .int .i64 0, .int .i64 0, .int .i64 0, .string ⟨#[]⟩, .string ⟨#[]⟩, .int .i64 0, .int .i64 0, .slice none 0 0] N14.out INF14.out SZ14.out ONE14.out ?_)
      rw [setRow_alloc]
      have b45 := below_alloc1 w14 (.cells cs14 29)
      have OW15 := hide (OW14.out.below b45)
      have QY15 := hide (QY14.out.below b45)
      have QZ15 := hide (QZ14.out.below b45)
      have TW15 : Hid (Pair w (w14.alloc (.cells cs14 29)) s11 gm w14.heap.size cs12 cs14 X) := ⟨below_step B14.out b45, VM14.out.keepF (fun b _ hl => b45.block b (by have := L4.out; omega)), (b45.block gm (by have := L4.out; omega)).trans I14.out, V14.out.laterF b45, heap_alloc_new w14 _⟩
      clear b45 N14 ONE14 SZ14 V14 OW14 QY14 QZ14 B14 VM14 I14
      obtain ⟨gn, egn⟩ : ∃ gn, gn = w14.heap.size := ⟨_, rfl⟩
      obtain ⟨w15, e15⟩ : ∃ w15, w15 = w14.alloc (.cells cs14 29) := ⟨_, rfl⟩
      rw [← e15] at OW15 QY15 QZ15 TW15 ⊢
      rw [← egn] at TW15 L4 ⊢
      clear e15 egn
      have CB2 := hide (bytes_sq QY15.out QZ15.out (by omega))
      go_wp2_with fail
      refine CB2.out.mono ?_
      rintro e wc ⟨rfl, mc, ec⟩
      have b5c : Below w15.heap.size w15 wc := by rw [ec]; exact below_drewN (Below.refl _ _) mc
      have OWc := hide (OW15.out.below b5c)
      have TWc := hide (TW15.out.below b5c)
      have CK2 := hide (kept_sq 72 OWc.out.sq (Q.out.below TWc.out.b) (by omega) OWc.out.m1 OWc.out.m2)
      clear b5c ec CB2 QY15 QZ15 OW15 TW15
      go_wp2_with fail
      refine CK2.out.mono ?_
      rintro e wd ⟨rfl, md, ed⟩
      have bcd : Below wc.heap.size wc wd := by rw [ed]; exact below_drewN (Below.refl _ _) md
      have OWd := hide (OWc.out.below bcd)
      have TWd := hide (TWc.out.below bcd)
      have CS := hide (same_command TWd.out.vm TWd.out.vn KX.out)
      have IMd := hide TWd.out.im
      have INd := hide TWd.out.inn
      clear bcd ed CK2 TWc OWc
      go_wp2_with (first | (refine load_row_guarded rfl 29 (.tmp 14) rfl gm rfl 29 cs12 (0, 0) _ IMd.out Try.underlying29 rfl INF12.out ?_) | (refine load_row_guarded rfl 29 (.tmp 16) rfl gn rfl 29 cs14 (0, 0) _ INd.out Try.underlying29 rfl INF14.out ?_))
      refine CS.out.mono ?_
      rintro e w16 ⟨rfl, hbe⟩
      have TW16 := hide (TWd.out.below hbe)
      have RM16 := hide (OWd.out.below hbe).rm
      clear hbe CS IMd INd TWd OWd
      go_wp2_with fail
      go_loopw [18] (fun i wr => ∃ j : Nat, j ≤ len ∧ i = .int .i64 j ∧ Hid (Onl (some ⟨g2, 0, none⟩) w16 wr) ∧ Hid (Rm (some ⟨g2, 0, none⟩) len wr)) (fun i _ => len - (intOf i).toNat)
      case atStart => exact ⟨0, Nat.zero_le _, rfl, Onl.refl _ _, RM16⟩
      case round =>
        obtain ⟨j, hj, rfl, ON, RM⟩ := hrel
        by_cases hlt : j < len
        · obtain ⟨⟨v0, c0⟩, f0⟩ := RM.out g2 0 rfl j hlt
          rw [Nat.zero_add] at c0 f0
          have hi : (j : Int) < (len : Int) := by omega
          go_wp2_with fail
          go_roundw
          case rel => exact ⟨j + 1, by omega, by go_num, ON.out.set rfl _ _, RM.out.set _ _ _⟩
          case measure => simp [intOf]; omega
        · obtain rfl : j = len := by omega
          have TWr := hide (TW16.out.onl ON.out G2.out L2.out L3.out L4.out)
          clear TW16 RM16 ON RM hlt hj
          obtain ⟨x, am, L, cm, e1, k1, em, qm, hL, pm⟩ := vals_image TWr.out.vm KX.out (j := 24) rfl
          obtain ⟨x', an, L', cn, e1', k1', en', qn, hL', pn⟩ := vals_image TWr.out.vn KX.out (j := 24) rfl
          obtain rfl : x = x' := Option.some.inj (e1.symm.trans e1')
          obtain rfl : L = L' := by rw [← qm.length, ← qn.length]
          obtain ⟨w17, ew17⟩ : ∃ w17, w17 = wr := ⟨_, rfl⟩
          rw [← ew17] at TWr qm qn pm pn ⊢
          have QM := hide qm
          have QN := hide qn
          have PM := hide pm
          have PN := hide pn
          have EM := hide em
          have ENn := hide en'
          have RM17 := hide (Sq.rm qm (fun b off e h0 => (pm b off e h0).2.2))
          have cM : w17.cell? ⟨gm, 24, none⟩ = some (.slice am L cm) := by rw [cell_of_row _ _ _ _ _ _ TWr.out.im]; exact em
          clear ew17 e1 e1' k1 k1' qm qn pm pn em en'
          go_wp2_with fail
          obtain ⟨a', ha1, ha2⟩ : ∃ a' : Option Addr, (0 < L → a' = am) ∧ ∀ b off, a' = some ⟨b, off, none⟩ → s11 ≤ b ∧ b < gm := by
            by_cases h0 : 0 < L
            · exact ⟨am, fun _ => rfl, fun b off e => ⟨(PM.out b off e h0).1, (PM.out b off e h0).2.1⟩⟩
            · exact ⟨none, fun h => absurd h h0, fun b off e => by cases e⟩
          have HA1 := hide ha1
          have HA2 := hide ha2
          have LS : Hid (w.heap.size ≤ s11) := by have := G2.out; have := L2.out; show _ ≤ _; omega
          clear ha1 ha2
          go_loopw [19] (fun i wr => ∃ j : Nat, j ≤ L ∧ i = .int .i64 j ∧ Hid (Onl a' w17 wr) ∧ Hid (Rm am L wr)) (fun i _ => L - (intOf i).toNat)
          case atStart => exact ⟨0, Nat.zero_le _, rfl, Onl.refl _ _, RM17⟩
          case round =>
            clear cM
            obtain ⟨j, hj, rfl, ON, RM⟩ := hrel
            obtain ⟨bl, il, vl, inl⟩ := TWr.out.last ON.out HA2.out LS.out L4.out
            have cM : wr.cell? ⟨gm, 24, none⟩ = some (.slice am L cm) := by rw [cell_of_row _ _ _ _ _ _ il]; exact EM.out
            have VL := hide vl
            have BL := hide bl
            have IL := hide inl
            by_cases hlt : j < L
            · obtain ⟨bm, om, ea, _⟩ := QM.out.cells (by omega)
              obtain ⟨bn, on, ea', hcn⟩ := QN.out.cells (by omega)
              have p2 := PN.out bn on ea' (by omega)
              have EA := hide (HA1.out (by omega))
              subst ea
              subst ea'
              obtain ⟨⟨v0, c0⟩, f0⟩ := RM.out bm om rfl j hlt
              have c1 : wr.cell? ⟨bn, on + j, none⟩ = some (.int .u8 (x.bs[j]?.getD 0)) := (World.cell?_of_block (w := w17) (ON.out.from (B := gm) (fun b off e => (HA2.out b off e).2) bn (by omega))).trans (hcn j hlt)
              have cN : wr.cell? ⟨gn, 24, none⟩ = some (.slice (some ⟨bn, on, none⟩) L cn) := by rw [cell_of_row _ _ _ _ _ _ inl]; exact ENn.out
              obtain ⟨y, ey⟩ : ∃ y, y = x.bs[j]?.getD 0 := ⟨_, rfl⟩
              rw [← ey] at c1
              have hi : (j : Int) < (L : Int) := by omega
              clear bl il vl inl hcn ey p2
              go_wp2_with fail
              go_region_with (fail)
              all_goals (try go_wp2_with fail)
              all_goals go_roundw
              all_goals first
                | exact ⟨j + 1, by omega, by go_num, (ON.out.set EA.out _ _).drew, (RM.out.set _ _ _).drew⟩
                | (simp [intOf]; omega)
            · have hi : (L : Int) ≤ (j : Int) := by omega
              have C18 := cread_command (Q.out.below BL.out) (by omega)
              rw [← EG.out, ← EX.out] at C18
              have C18 := hide C18
              clear bl il vl inl ON RM RM17 TWr
              go_wp2_with fail
              refine C18.out.mono ?_
              rintro e w18 ⟨cs18, rfl, hv18, hb18⟩
              have V18 := hide hv18.anyF
              have VL18 := hide (VL.out.anyF.below hb18)
              have IL18 := hide ((hb18.block _ (lt_of_row IL.out)).trans IL.out)
              have B18 := hide (below_step BL.out hb18)
              clear hv18 hb18 C18 VL IL BL cM
              have INF18 : Hid ((Try.prog.info? 29).map (·.size) = some cs18.size) := by show _ = _; rw [V18.out.size_of KX.out]; exact info_command
              have SZ18 : Hid ((#[.int .i64 0, .int .i64 0, .int .i64 0, .int .i64 0, .int .i64 0, .int .i64 0, .string ⟨#[]⟩, .int .i64 0, .int .i64 0, .int .i64 0, .bool false, .int .i64 0, .string ⟨#[]⟩, .string ⟨#[]⟩, .int .i64 0, .int .i64 0, .int .i64 0, .int .i64 0, .int .i64 0, .int .i64 0, .string ⟨#[]⟩, .string ⟨#[]⟩, .int .i64 0, .int .i64 0, .slice none 0 0] : Array Value).size = cs18.size) := (V18.out.size_of KX.out).symm
              have ONE18 := hide V18.out.one
              have N18 : Hid ((w18.alloc (.cells #[.int .i64 0, .int .i64 0, .int .i64 0, .int .i64 0, .int .i64 0, .int .i64 0, .string ⟨#[]⟩, .int .i64 0, .int .i64 0, .int .i64 0, .bool false, .int .i64 0, .string ⟨#[]⟩, .string ⟨#[]⟩, .int .i64 0, .int .i64 0, .int .i64 0, .int .i64 0, .int .i64 0, .int .i64 0, .string ⟨#[]⟩, .string ⟨#[]⟩, .int .i64 0, .int .i64 0, .slice none 0 0] 29)).heap[w18.heap.size]? = some (.cells #[.int .i64 0, .int .i64 0, .int .i64 0, .int .i64 0, .int .i64 0, .int .i64 0, .string ⟨#[]⟩, .int .i64 0, .int .i64 0, .int .i64 0, .bool false, .int .i64 0, .string ⟨#[]⟩, .string ⟨#[]⟩, .int .i64 0, .int .i64 0, .int .i64 0, .int .i64 0, .int .i64 0, .int .i64 0, .string ⟨#[]⟩, .string ⟨#[]⟩, .int .i64 0, .int .i64 0, .slice none 0 0] 29)) := heap_alloc_new w18 _
              go_upto_region 26 with (refine wpList_store_row rfl 29 (.tmp 20) (.tmp 125) rfl w18.heap.size cs18 rfl rfl 29 #[.int .i64 0, .int .i64 0, .int .i64 0, .int .i64 0, .int .i64 0, .int .i64 0, .string ⟨#[]⟩, .int .i64 0, .int .i64 0, .int .i64 0, .bool false, .int .i64 0, .string ⟨#[]⟩, .string ⟨#[]⟩, .int .i64 0, .int .i64 0, .int .i64 0, .int .i64 0, .int .i64 0, .int .i64 0, .string ⟨#[]⟩, .string ⟨#[]⟩, .int .i64 0, .int .i64 0, .slice none 0 0] N18.out INF18.out SZ18.out ONE18.out ?_)
              rw [setRow_alloc]
              have b89 := below_alloc1 w18 (.cells cs18 29)
              have V19 := hide (V18.out.below b89)
              have VL19 := hide (VL18.out.below b89)
              have IL19 := hide ((b89.block _ (lt_of_row IL18.out)).trans IL18.out)
              have IK19 : Hid ((w18.alloc (.cells cs18 29)).heap[w18.heap.size]? = some (.cells cs18 29)) := heap_alloc_new w18 _
              have B19 := hide (below_step B18.out b89)
              have CS := hide (same_command VL19.out V19.out KX.out)
              clear b89 N18 ONE18 SZ18 V18 VL18 IL18 B18
              obtain ⟨gk, egk⟩ : ∃ gk, gk = w18.heap.size := ⟨_, rfl⟩
              obtain ⟨w19, e19⟩ : ∃ w19, w19 = w18.alloc (.cells cs18 29) := ⟨_, rfl⟩
              rw [← e19] at IL19 IK19 B19 CS ⊢
              rw [← egk] at IK19 ⊢
              clear e19 egk V19 VL19
              go_wp2_with (first | (refine wpList_load_row rfl 29 (.tmp 16) rfl gn rfl 29 cs14 (0, 0) _ IL19.out Try.underlying29 rfl INF14.out ?_) | (refine wpList_load_row rfl 29 (.tmp 20) rfl gk rfl 29 cs18 (0, 0) _ IK19.out Try.underlying29 rfl INF18.out ?_))
              refine CS.out.mono ?_
              rintro e w20 ⟨rfl, hb20⟩
              have B20 := hide (below_step B19.out hb20)
              clear hb20 CS IL19 IK19 B19
              rcases ELh.out with hE | ⟨hE, hN⟩
              · clear ELh
                go_wp2_with fail
                go_ret
                exact ⟨rfl, B20.out⟩
              · clear ELh
                go_wp2_with fail
                go_ret
                exact ⟨rfl, B20.out⟩

set_option maxRecDepth 100000 in
theorem lifted (os : Os) (started : os.Started) (H : Type) (enc : TypeId × Value → H) :
    ReturnsInHanded {} Try.checked os 4 .any (Rows.wireKeepsSpec.pre6 enc Try.prog Try.f4 Rows.wireKeepsRow.domain false) (Rows.wireKeepsSpec.post enc Try.prog Try.f4 false true false false) := by
  refine returnsInHanded_of_change_sized (C := Try.checked) own started (by kernel_rfl) Try.func4
    (ChangeSpec.witness6 (enc := enc) (C := Try.checked) false ⟨#[], #[.agg #[.int .i64 0, .int .i64 0, .int .i64 0, .int .i64 0, .int .i64 0, .int .i64 0, .string ByteArray.empty, .int .i64 0, .int .i64 0, .int .i64 0, .bool false, .int .i64 0, .string ByteArray.empty, .string ByteArray.empty, .int .i64 0, .int .i64 0, .int .i64 0, .int .i64 0, .int .i64 0, .int .i64 0, .string ByteArray.empty, .string ByteArray.empty, .int .i64 0, .int .i64 0, .slice none 0 0], .slice none 0 0], []⟩ 8 (by kernel_rfl) (by kernel_rfl) (by kernel_rfl) (by kernel_rfl)) ?_
  intro W base args ds gs before hval0 hW hcnd hsz0 _
  have hsz : (DataW.weightsEach Try.prog (Try.f4.params.toList ++ Rows.wireKeepsSpec.plain.varTypes Try.prog) (ds ++ gs)).all (· ≤ reachBytes) = true := hsz0
  have hval : ∀ (j : Nat) t v, Try.f4.params[j]? = some t → args[j]? = some v → Value.okWide Try.prog W .any base t v := hval0
  have hW' := hW
  obtain ⟨p, q, hA0, hV, rfl, hfz, hnd⟩ := hW
  have hA : DataW.TrodAll enc Try.prog W 0 (fun _ => true) true Try.f4.params.toList args.toList ds p := hA0
  rw [Try.params4] at hA hval hsz
  obtain ⟨v0, vs0, d0, ds0, p0, q0, hargs, rfl, rfl, h0, r0⟩ := trodAll_cons hA
  obtain ⟨v1, vs1, d1, ds1, p1, q1, rfl, rfl, rfl, h1, r1⟩ := trodAll_cons r0
  obtain ⟨rfl, rfl, rfl⟩ := trodAll_nil r1
  obtain rfl : args = #[v0, v1] := by cases args; simp_all
  obtain ⟨rfl, rfl⟩ := trodVars_none hV
  have lt0 : ∀ x ∈ p0, x.block < W.heap.size := by obtain ⟨m, hm⟩ := h0; exact DataW.trod_lt m _ _ _ hm
  obtain ⟨cs, xs, rfl, h⟩ := open_command_held (hval 0 29 v0 rfl rfl) h0 (fun n hn => by have h := List.all_eq_true.1 hsz n (DataW.weights_mem_each (j := 0) rfl rfl n hn); simpa using h)
  have lt1 : ∀ x ∈ p1, x.block < W.heap.size := by obtain ⟨m, hm⟩ := h1; exact DataW.trod_lt m _ _ _ hm
  obtain ⟨a, len, cap, bs, rfl, q⟩ := open_sq_sized (hval 1 22 v1 rfl rfl) h1 (fun elems spare e => by have h := hsz; rw [e] at h; exact sized_slice h (j := 1) (t := 22) (e := 5) rfl rfl Try.underlying22)
  clear hA0 hval0
  refine (walk h.1 h.2 q.1 q.2).mono fun e W' ⟨he, bel⟩ => ?_
  subst he
  exact ⟨_, rfl, _, _, _, [], _, [], hW', trodAll_mk1 (shut_bool Try.underlying4 _), (trodAll_cons_mk (Below.trod laidOut (by kernel_rfl) (of_decide_eq_true (by kernel_rfl)) h0 bel lt0) (trodAll_cons_mk (Below.trod laidOut (by kernel_rfl) (of_decide_eq_true (by kernel_rfl)) h1 bel lt1) trodAll_mk0)), rfl, bel.frame _, fun h => by cases h⟩

theorem over : Rows.wireKeepsRow.holds Try.pinned (OpenSpec.ofChange Rows.wireKeepsSpec) :=
  OpenClaim.holds_of_wide 4 Try.f4 rfl rfl rfl rfl rfl rfl rfl ⟨rfl, rfl, rfl, rfl, rfl⟩ rfl rfl rfl rfl rfl (by kernel_rfl) Try.func4 (by kernel_rfl)
    (of_decide_eq_true (by kernel_rfl)) (by unfold Func.isWrapper; first | (rw [if_pos (by decide +kernel)]; kernel_rfl) | (rw [if_neg (by decide +kernel)]; exact ⟨rfl, rfl⟩))
    (fun os started H enc _ => lifted os started H enc)

theorem proved : Rows.WireKeepsSaid := over
#print axioms proved
end WireKeeps
theorem wireKeeps_holds : Rows.WireKeepsSaid := WireKeeps.proved
end Go.Proofs.Ytfdejkfbjmkngab
