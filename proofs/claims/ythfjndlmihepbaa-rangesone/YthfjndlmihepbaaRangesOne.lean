/- RangesOne: each key is had by just one place of a map, the one for whose From and End it is Within, and that is the one that Find tells; no condition. -/
import Derived.Test.YthfjndlmihepbaaRgAwake
import Derived.Test.YthfjndlmihepbaaRgRight
import Derived.Test.YthfjndlmihepbaaRgLaw
namespace Go.Proofs.Ythfjndlmihepbaa
namespace RangesOne
open Go.ChangeShapes Go.WideShapes Go.ChangeAt Go.RowKit Rg
set_option linter.unusedVariables false

/-- how many have it up to k, and which -/
structure Cnt (q k : Nat) (m t : Int) : Prop where
  no : k ≤ q → m = 0 ∧ t = -1
  yes : q < k → m = 1 ∧ t = q
set_option maxRecDepth 100000 in
set_option maxHeartbeats 4000000 in
theorem walk {w : World} {a : Option Addr} {n c : Nat} {l : List Pc} {key : ByteArray} (h : Ps w a n l) (hcp : Cp a n c) :
    Calls Try.prog 5 #[.slice a n c, .string key] w fun e w' => e = .returned (.bool true) ∧ Below w.heap.size w w' := by
  have AW := hide (awake_any w)
  have H := hide h
  have HL := hide h.len
  have CC := fun W hb => hide (check_any (H.out.below (w' := W) hb) hcp)
  have CR := fun W hb => hide (rright_any (c := c) (H.out.below (w' := W) hb))
  have CF := fun W hb => hide (find_any (c := c) (H.out.below (w' := W) hb) key)
  have hr := h.room
  clear h hcp
  rcases check_is l with ⟨hR, e0⟩ | ⟨hR, e0⟩
  rotate_left
  · rw [e0] at CC
    rw [hR] at CR
    clear hR e0 CF
    go_enter Try.func5, Try.ntmps5
    go_wp2_with fail
    refine AW.out.mono ?_
    rintro e w1 ⟨rfl, hb1⟩
    have HB1 := hide hb1
    clear hb1 AW
    go_wp2_with fail
    refine (CC _ HB1.out).out.mono ?_
    rintro e w2 ⟨rfl, hb2⟩
    have HB2 : Hid (Below w.heap.size w w2) := HB1.out.trans (hb2.mono HB1.out.size)
    clear hb2 CC HB1
    go_wp2_with fail
    refine (CR _ HB2.out).out.mono ?_
    rintro e w3 ⟨rfl, hb3⟩
    have HB3 : Hid (Below w.heap.size w w3) := HB2.out.trans (hb3.mono HB2.out.size)
    clear hb3 CR HB2
    go_wp2_with fail
    go_returns
    exact ⟨rfl, HB3.out⟩
  rw [e0] at CC
  have HR := hide hR
  have HF := hide (find_has hR key)
  generalize findV l key = q at CF HF
  clear hR e0 CR
  have CE : ∀ (W : World) (k : Nat), k < n → Below w.heap.size w W → Hid (Calls Try.prog 18 #[.slice a n c, .int .i64 k] W fun e w' => e = .returned (.string (endN l k)) ∧ Below W.heap.size W w') := fun W k hk hb =>
    (end_any (c := c) (H.out.below hb) k (by unfold I64; omega)).mono fun e w' h => ⟨by rw [h.1]; unfold endV; rw [if_neg (by omega)]; rfl, by rw [h.2]; exact Below.refl _ _⟩
  have CW : ∀ (W : World) (lo hi : ByteArray), Hid (Calls Try.prog 13 #[.string lo, .string hi, .string key] W fun e w' => e = .returned (.bool (withinB lo hi key)) ∧ Below W.heap.size W w') := fun W lo hi =>
    (within_any lo hi key W).mono fun e w' h => ⟨h.1, by rw [h.2]; exact Below.refl _ _⟩
  go_enter Try.func5, Try.ntmps5
  go_wp2_with fail
  refine AW.out.mono ?_
  rintro e w1 ⟨rfl, hb1⟩
  have HB1 := hide hb1
  clear hb1 AW
  go_wp2_with fail
  refine (CC _ HB1.out).out.mono ?_
  rintro e w2 ⟨rfl, hb2⟩
  have HB2 : Hid (Below w.heap.size w w2) := HB1.out.trans (hb2.mono HB1.out.size)
  clear hb2 CC HB1
  go_wp2_with fail
  go_loopw [5, 6, 7] (fun mv tv iv wr => ∃ (k : Nat) (m t : Int), k ≤ n ∧ iv = .int .i64 k ∧ mv = .int .i64 m ∧ tv = .int .i64 t ∧ Hid (Below w.heap.size w wr) ∧ Hid (Cnt q k m t)) (fun _ _ iv _ => n - (intOf iv).toNat)
  case atStart => exact ⟨0, 0, -1, Nat.zero_le _, rfl, rfl, rfl, HB2.out, ⟨fun _ => ⟨rfl, rfl⟩, fun h => by omega⟩⟩
  case round =>
    obtain ⟨k, m, t, hk, rfl, rfl, rfl, HB, HN⟩ := hrel
    by_cases hlt : k < n
    · obtain ⟨b, off, x, rfl, hx, hb, M⟩ := ps_at (H.out.below HB.out) hlt
      obtain ⟨c0, c1, c2⟩ := M
      have HX := hide (hasB_at (key := key) hx)
      have i1 : (k : Int) < (n : Int) := by omega
      have CK := fun W => CE W k hlt
      have CX := fun W => CW W x.k (endN l k)
      generalize withinB x.k (endN l k) key = z at HX CX
      clear hx hb c0 c2 CE CW CF
      go_wp2_with fail
      refine wp_region_cells w [(⟨b, off + k * 3 + 1, none⟩, .string x.k)] (by kernel_rfl) (by kernel_rfl) HB.out (by simp [AllCells, c1]) ?_
      intro hne qq
      simp only [AllCells, and_true] at qq
      clear c1
      repeat (go_big_quiet_step (first | (go_at_call 18; exact Held.call _ (CK _ (Held.below _)).out) | (go_at_call 13; exact Held.call _ (CX _).out)))
      refine wpQuiet_nil ?_
      rintro _ ⟨y9, rfl⟩
      have BQ : Hid (Below w.heap.size w y9.x) := y9.below
      clear qq hne CK CX
      cases z
      · have hkq : ¬ k = q := fun e => by have := HF.out.2.1; rw [← e, HX.out] at this; cases this
        have HC : Hid (Cnt q (k + 1) m t) := ⟨fun h => HN.out.no (by omega), fun h => HN.out.yes (by omega)⟩
        clear hkq
        go_wp2_with fail
        go_roundw
        case rel => exact ⟨k + 1, m, t, by omega, by go_num, rfl, rfl, BQ, HC⟩
        case measure => simp [intOf]; omega
      · have hkq : k = q := HF.out.2.2 k HX.out
        obtain ⟨rfl, rfl⟩ := HN.out.no (by omega)
        have HC : Hid (Cnt q (k + 1) 1 k) := ⟨fun h => by omega, fun h => ⟨rfl, by rw [hkq]⟩⟩
        clear hkq
        go_wp2_with fail
        go_roundw
        case rel => exact ⟨k + 1, 1, k, by omega, by go_num, rfl, rfl, BQ, HC⟩
        case measure => simp [intOf]; omega
    · obtain rfl : k = n := by omega
      obtain ⟨rfl, rfl⟩ := HN.out.yes (by have := HF.out.1; rw [HL.out] at this; exact this)
      clear CE CW
      have CF' := CF _ HB.out
      clear CF
      go_wp2_with fail
      refine CF'.out.mono ?_
      rintro e w3 ⟨rfl, hb3⟩
      have HB3 : Hid (Below w.heap.size w w3) := HB.out.trans (hb3.mono HB.out.size)
      clear hb3 CF'
      go_wp2_with fail
      go_returns
      exact ⟨rfl, HB3.out⟩

set_option maxRecDepth 100000 in
theorem lifted (os : Os) (started : os.Started) (H : Type) (enc : TypeId × Value → H) :
    ReturnsInHanded {} Try.checked os 5 .any (Rows.rangesOneSpec.pre6 enc Try.prog Try.f5 Rows.rangesOneRow.domain false) (Rows.rangesOneSpec.post enc Try.prog Try.f5 false true false false) := by
  refine returnsInHanded_of_change_sized (C := Try.checked) own started (by kernel_rfl) Try.func5
    (ChangeSpec.witness6 (enc := enc) (C := Try.checked) false ⟨#[], #[.slice none 0 0, .string ByteArray.empty], []⟩ 8 (by kernel_rfl) (by kernel_rfl) (by kernel_rfl) (by kernel_rfl)) ?_
  intro W base args ds gs before hval0 hW hcnd hsz0 _
  have hsz : (DataW.weightsEach Try.prog (Try.f5.params.toList ++ Rows.rangesOneSpec.plain.varTypes Try.prog) (ds ++ gs)).all (· ≤ reachBytes) = true := hsz0
  have hval : ∀ (j : Nat) t v, Try.f5.params[j]? = some t → args[j]? = some v → Value.okWide Try.prog W .any base t v := hval0
  have hW' := hW
  obtain ⟨p, q, hA0, hV, rfl, hfz, hnd⟩ := hW
  have hA : DataW.TrodAll enc Try.prog W 0 (fun _ => true) true Try.f5.params.toList args.toList ds p := hA0
  rw [Try.params5] at hA hval hsz
  obtain ⟨v0, vs0, d0, ds0, p0, q0, hargs, rfl, rfl, h0, r0⟩ := trodAll_cons hA
  obtain ⟨v1, vs1, d1, ds1, p1, q1, rfl, rfl, rfl, h1, r1⟩ := trodAll_cons r0
  obtain ⟨rfl, rfl, rfl⟩ := trodAll_nil r1
  obtain rfl : args = #[v0, v1] := by cases args; simp_all
  obtain ⟨rfl, rfl⟩ := trodVars_none hV
  have lt0 : ∀ x ∈ p0, x.block < W.heap.size := by obtain ⟨m, hm⟩ := h0; exact DataW.trod_lt m _ _ _ hm
  obtain ⟨a, n, c, l, rfl, k0, kw0, kc0, kq0⟩ := open_places_held (hval 0 22 v0 rfl rfl) h0 (fun n hn => by have h := List.all_eq_true.1 hsz n (DataW.weights_mem_each (j := 0) rfl rfl n hn); simpa using h)
  have lt1 : ∀ x ∈ p1, x.block < W.heap.size := by obtain ⟨m, hm⟩ := h1; exact DataW.trod_lt m _ _ _ hm
  obtain ⟨key, rfl, kk⟩ := open_str (hval 1 9 v1 rfl rfl) h1
  clear hA0 hval0
  refine (walk k0 kc0).mono fun e W' ⟨he, bel⟩ => ?_
  subst he
  exact ⟨_, rfl, _, _, _, [], _, [], hW', trodAll_mk1 (shut_bool Try.underlying4 _), (trodAll_cons_mk (Below.trod laidOut (by kernel_rfl) (of_decide_eq_true (by kernel_rfl)) h0 bel lt0) (trodAll_cons_mk (Below.trod laidOut (by kernel_rfl) (of_decide_eq_true (by kernel_rfl)) h1 bel lt1) trodAll_mk0)), rfl, bel.frame _, fun h => by cases h⟩

theorem over : Rows.rangesOneRow.holds Try.pinned (OpenSpec.ofChange Rows.rangesOneSpec) :=
  OpenClaim.holds_of_wide 5 Try.f5 rfl rfl rfl rfl rfl rfl rfl ⟨rfl, rfl, rfl, rfl, rfl⟩ rfl rfl rfl rfl rfl (by kernel_rfl) Try.func5 (by kernel_rfl)
    (of_decide_eq_true (by kernel_rfl)) (by unfold Func.isWrapper; first | (rw [if_pos (by decide +kernel)]; kernel_rfl) | (rw [if_neg (by decide +kernel)]; exact ⟨rfl, rfl⟩))
    (fun os started H enc _ => lifted os started H enc)

theorem proved : Rows.RangesOneSaid := over
#print axioms proved
end RangesOne
theorem rangesOne_holds : Rows.RangesOneSaid := RangesOne.proved
end Go.Proofs.Ythfjndlmihepbaa
