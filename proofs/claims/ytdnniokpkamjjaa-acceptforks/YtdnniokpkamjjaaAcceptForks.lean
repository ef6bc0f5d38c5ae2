/- AcceptForks: a fork is alike, and neither shows what is done to the other; what it has is loaded again: for every two lists of calls. No condition. -/
import Derived.Test.YtdnniokpkamjjaaAccRan
import Derived.Test.YtdnniokpkamjjaaAccVote
import Derived.Test.YtdnniokpkamjjaaAccLoad
import Derived.Test.YtdnniokpkamjjaaAccFork
import Derived.Test.YtdnniokpkamjjaaAccAwake
import Derived.Test.YtdnniokpkamjjaaAccShort
namespace Go.Proofs.Ytdnniokpkamjjaa
namespace AcceptForks
open Go.ChangeShapes Go.WideShapes Go.ChangeAt Go.RowKit B8 Am
set_option linter.unusedVariables false

/-- one acceptor stays while another one is called -/
theorem other {w w' : World} {P Q : Nat → Prop} {A mb A' mb' : Nat} {s t t' : As} (h : Ac w P A mb s) (h' : Ac w Q A' mb' t) (hm : Mv w Q A' mb' t' w') (hA : A ≠ A') (hM : mb ≠ mb') : Ac w' P A mb s := by
  refine h.chg hm.1 (fun k hk => ⟨fun e => ?_, fun e => ?_, .inr (h'.noB k hk)⟩)
  · rcases hk with hk | hk
    · exact hA (e.symm.trans hk)
    · obtain ⟨es, ck, h2⟩ := h'.isMap
      have h1 := h.row
      rw [← e, hk, h2] at h1
      cases h1
  · rcases hk with hk | hk
    · obtain ⟨es, ck, h2⟩ := h.isMap
      have h1 := h'.row
      rw [← hk, e, h2] at h1
      cases h1
    · exact hM (e.symm.trans hk)
set_option maxRecDepth 100000 in
set_option maxHeartbeats 4000000 in
theorem walk {w : World} {a : Option Addr} {len cap : Nat} {os : Nat → Opd} (h : Ops w a len os) {a' : Option Addr} {len' cap' : Nat} {os' : Nat → Opd} (h' : Ops w a' len' os') :
    Calls Try.prog 7 #[.slice a len cap, .slice a' len' cap'] w fun e w' => e = .returned (.bool true) ∧ Below w.heap.size w w' := by
  have RA := hide (ran_any (cap := cap) h)
  have H := hide h'
  have RM := h'.room
  clear h h'
  go_enter Try.func7, Try.ntmps7
  go_wp2_with fail
  refine RA.out.mono ?_
  rintro e w1 ⟨A, mb, s, rfl, hb1, ha1⟩
  have B1 := hide hb1
  have A1 := hide ha1
  clear hb1 ha1
  go_wp2_with fail
  refine (awake_any _).mono ?_
  rintro e w2 ⟨rfl, hb2⟩
  have B2 := hide (below_step B1.out hb2)
  have A2 := hide (A1.out.below hb2)
  clear hb2 A1 B1
  go_wp2_with fail
  refine (fork_any A2.out.ac).mono ?_
  rintro e w3 ⟨F, fb, rfl, hb3, hf3, hF, hfb⟩
  have FA : Hid (A ≠ F ∧ mb ≠ fb) := ⟨fun e => by have := A2.out.ac.ltA; omega, fun e => by have := A2.out.ac.ltM; omega⟩
  have B3 := hide (below_step B2.out hb3)
  have A3 := hide (A2.out.below hb3)
  have F3 : Hid (AcN w3 w.heap.size (fun k => w.heap.size ≤ k) F fb s) := ⟨hf3, Nat.le_trans B2.out.size hF, Nat.le_trans B2.out.size hfb⟩
  clear hb3 hf3 hF hfb A2 B2
  go_wp2_with fail
  refine (votes_any A3.out.ac).mono ?_
  rintro e w4 ⟨ab, mbf, cb, lb, rfl, hb4, ht4, hl4⟩
  obtain ⟨B0, eB0⟩ : ∃ B0, B0 = w3.heap.size := ⟨_, rfl⟩
  rw [← eB0] at ht4
  clear eB0
  have B4 := hide (below_step B3.out hb4)
  have A4 := hide (A3.out.below hb4)
  have F4 := hide (F3.out.below hb4)
  have T4 := hide ht4
  have LB := hide hl4
  have SH := hide (told_short ht4 hl4 A3.out.ac.ok)
  clear hb4 ht4 hl4 A3 B3 F3
  go_wp2_with fail
  refine (promised_any A4.out.ac).mono ?_
  rintro e w5 ⟨rfl, hb5⟩
  have B5 := hide (below_step B4.out hb5)
  have A5 := hide (A4.out.below hb5)
  have F5 := hide (F4.out.below hb5)
  have T5 := hide (T4.out.below hb5)
  clear hb5 A4 B4 F4 T4
  go_wp2_with fail
  refine (first_any A5.out.ac).mono ?_
  rintro e w5' ⟨rfl, e5⟩
  rw [e5]
  clear e5 w5'
  obtain ⟨w6, e6⟩ : ∃ w6, w6 = w5.alloc (.cells #[.int .i64 s.pr, .int .i64 s.pn] 30) := ⟨_, rfl⟩
  obtain ⟨N, eN⟩ : ∃ N, N = w5.heap.size := ⟨_, rfl⟩
  have b6 : Below w5.heap.size w5 w6 := by rw [e6]; exact below_alloc (Below.refl _ _) _
  have X6 : Hid (V2 w6 N s.pr s.pn) := by rw [e6, eN]; exact v2_new w5 s.pr s.pn
  have NX6 : Hid (∀ v, w6.cell? ⟨N, 2, none⟩ ≠ some v) := fun v hv => by rw [e6, eN] at hv; simp at hv
  have LN6 : Hid (N < w6.heap.size) := by show _ < _; rw [e6, eN]; simp
  have B6 := hide (below_step B5.out b6)
  have A6 := hide (A5.out.below b6)
  have F6 := hide (F5.out.below b6)
  have T6 := hide (T5.out.below b6)
  have E6 := hide e6
  have EN := hide eN
  clear e6 eN b6 A5 F5 T5
  go_upto_region 6 with fail
  rw [← E6.out, ← EN.out]
  clear E6 EN B5
  obtain ⟨x0, x1⟩ := X6.out
  go_wp2_with fail
  refine (load_any T6.out.vl SH.out.1 s.pr s.pn s.first).mono ?_
  rintro e w7 ⟨hb7, hload⟩
  have LO : Hid (loadB ⟨s.pr, s.pn, s.first, lb.map Vv.vt⟩ = true) := by show _ = _; rw [LB.out]; exact load_ok A6.out.ac.ok
  rcases hload with ⟨_, G, gb, rfl, hg7, hG, hgb⟩ | ⟨hx, _⟩
  case inr => rw [LO.out] at hx; cases hx
  have eg : (⟨s.pr, s.pn, s.first, lb.map Vv.vt⟩ : As) = s := by rw [LB.out]
  rw [eg] at hg7
  have G7 := hide hg7
  have B7 := hide (below_step B6.out hb7)
  have A7 := hide (A6.out.below hb7)
  have F7 := hide (F6.out.below hb7)
  have T7 := hide (T6.out.below hb7)
  have X7 := hide (X6.out.below hb7)
  have NX : Hid (∀ {v}, w7.cell? ⟨N, 2, none⟩ ≠ some v) := fun {v} hv => NX6.out v ((hb7.cell (p := ⟨N, 2, none⟩) LN6.out).symm.trans hv)
  clear hb7 hg7 hG hgb eg x0 x1 A6 B6 F6 T6 LO
  obtain ⟨x0, x1⟩ := X7.out
  go_wp2_with fail
  have CF := hide (votes_any (w := w7.drew) F7.out.ac.drew)
  have CB : Hid (∀ (y : World) (ay : Option Addr) (my cy : Nat) (ly : List Vv) (By : Nat), Below w7.heap.size w7 y → Told y By ay my cy ly → ly.map Vv.vt = s.vs → Calls Try.prog 15 #[.slice ay my cy, .slice ab mbf cb] y fun e w' => e = .returned (.bool true) ∧ Below y.heap.size y w') := fun y ay my cy ly By hy ht hl => by
    have sh := told_short ht hl A7.out.ac.ok
    exact votes_vl ht.vl (T7.out.below hy).vl (hl.trans LB.out.symm) sh.1 sh.2
  go_region_held3 (fun u => u.cell? ⟨N, 0, none⟩ = some (.int .i64 s.pr) ∧ u.cell? ⟨N, 1, none⟩ = some (.int .i64 s.pn)) (first | go_keep | exact ⟨x0, x1⟩ | exact X8.out | exact X9.out | exact X10.out | exact X11.out | exact X12.out) ((first
    | (go_at_call_of 16 (Value.pointer (some ⟨F, 0, none⟩)); refine CF.out.mono ?_; rintro e w8 ⟨a8, m8, c8, l8, rfl, hb8, ht8, hl8⟩; have B8 : Hid (Below w7.heap.size w7 w8) := (Below.refl _ _).drew.trans hb8; have X8 := hide (X7.out.below B8.out); have C9 := hide (CB.out w8 a8 m8 c8 l8 _ B8.out ht8 hl8); clear hb8 ht8 hl8)
    | (go_at_call_of 15 (Value.slice a8 m8 c8); refine C9.out.mono ?_; rintro e w9 ⟨rfl, hb9⟩; have B9 := hide (below_step B8.out hb9); have X9 := hide (X7.out.below B9.out); have CG := hide (votes_any (G7.out.below B9.out)); clear hb9)
    | (go_at_call_of 16 (Value.pointer (some ⟨G, 0, none⟩)); refine CG.out.mono ?_; rintro e w10 ⟨a10, m10, c10, l10, rfl, hb10, ht10, hl10⟩; have B10 := hide (below_step B9.out hb10); have X10 := hide (X7.out.below B10.out); have C11 := hide (CB.out w10 a10 m10 c10 l10 _ B10.out ht10 hl10); clear hb10 ht10 hl10)
    | (go_at_call_of 15 (Value.slice a10 m10 c10); refine C11.out.mono ?_; rintro e w11 ⟨rfl, hb11⟩; have B11 := hide (below_step B10.out hb11); have X11 := hide (X7.out.below B11.out); have CP := hide (promised_any (F7.out.below B11.out).ac); clear hb11)
    | (go_at_call 13; refine CP.out.mono ?_; rintro e w12 ⟨rfl, hb12⟩; have B12 := hide (below_step B11.out hb12); have X12 := hide (X7.out.below B12.out); have CI := hide (first_any (G7.out.below B12.out)); clear hb12)
    | (go_at_call 14; refine CI.out.mono ?_; rintro e w13 ⟨rfl, rfl⟩)))
  have B13 : Hid (Below w7.heap.size w7 w13) := B12.out
  have BW : Hid (Below w.heap.size w w13) := below_step B7.out B13.out
  have A13 := hide (A7.out.below B13.out)
  have F13 := hide (F7.out.below B13.out)
  have V13 := hide (T7.out.vl.below B13.out)
  have X13 := hide (X7.out.below B13.out)
  have NK : Hid (N < w7.heap.size) := World.block_lt_of_cell? _ _ x0
  have NF : Hid (¬ AM F fb N) := fun hk => by
    have h1 := F7.out.ac.noB
    rcases hk with hk | hk
    · have h2 := F7.out.ac.row
      rw [← hk] at h2
      have h3 : w7.cell? ⟨N, 2, none⟩ = some (.int .i64 s.first) := by rw [cell_of_row _ _ _ _ _ _ h2]; rfl
      exact NX.out h3
    · obtain ⟨es, ck, h2⟩ := F7.out.ac.isMap
      rw [← hk] at h2
      simp [World.cell?, h2] at x0
  clear x0 x1 X8 X9 X10 X11 X12 B8 B9 B10 B11 B12 C9 C11 CG CP CI CF CB G7 A7 F7 X7 B13
  go_wp2_with fail
  go_loopw [12] (fun i wr => ∃ (k : Nat) (t : As), k ≤ len' ∧ i = .int .i64 k ∧ Hid (Below w.heap.size w wr) ∧ Hid (AcN wr w.heap.size (fun k => w.heap.size ≤ k) A mb s) ∧ Hid (AcN wr w.heap.size (fun k => w.heap.size ≤ k) F fb t) ∧ Hid (Vl wr B0 (fun k => B0 ≤ k) ab mbf cb lb) ∧ Hid (V2 wr N s.pr s.pn)) (fun i _ => len' - (intOf i).toNat)
  case atStart => exact ⟨0, s, Nat.zero_le _, rfl, BW, A13, F13, V13, X13⟩
  case round =>
    clear BW A13 F13 V13 X13
    obtain ⟨k, t, hk, rfl, HB, HA, HF, HV, HX⟩ := hrel
    by_cases hlt : k < len'
    · obtain ⟨ob, off, rfl, oblt, hoc⟩ := H.out.cells (by omega)
      have VO := hide (H.out.each k hlt)
      have hr := rangeAt_same (hoc k hlt) (HB.out.block ob oblt)
      generalize os' k = o at *
      obtain ⟨kind, v⟩ := o
      obtain ⟨o0, o1, o2, o3, o4⟩ := opc_cells hr
      clear hr hoc oblt
      have i1 : (k : Int) < (len' : Int) := by omega
      have i2 : (0 : Int) ≤ (k : Int) := by omega
      have NW : Hid (w.heap.size ≤ wr.heap.size) := HB.out.size
      have STEP : Hid (∀ (y y' : World) (t' : As), Below wr.heap.size wr y → Mv y (fun k => w.heap.size ≤ k) F fb t' y' → Below w.heap.size w y' ∧ AcN y' w.heap.size (fun k => w.heap.size ≤ k) A mb s ∧ AcN y' w.heap.size (fun k => w.heap.size ≤ k) F fb t' ∧ Vl y' B0 (fun k => B0 ≤ k) ab mbf cb lb ∧ V2 y' N s.pr s.pn) := fun y y' t' hy hm => by
        have fy := HF.out.below hy
        have ay := HA.out.below hy
        obtain ⟨f1, f2⟩ := fy.move (Nat.le_trans NW.out hy.size) hm
        exact ⟨(below_step HB.out hy).trans f2, ⟨other ay.ac fy.ac hm FA.out.1 FA.out.2, ay.hA, ay.hM⟩, f1, (HV.out.below hy).chg hm.1 (fun k hk => ⟨fy.ac.noV k hk, .inr (fy.ac.noB k hk)⟩), (HX.out.below hy).chg hm.1 NF.out⟩
      by_cases k2 : kind = 2
      · subst k2
        go_wp2_with fail
        refine (forget_any HF.out.ac v.s).mono ?_
        rintro e w4 ⟨rfl, hmv⟩
        have ST := hide (STEP.out wr w4 _ (Below.refl _ _) hmv)
        clear hmv
        go_wp2_with fail
        go_roundw
        case rel => exact ⟨k + 1, _, by omega, by go_num, ST.out.1, ST.out.2.1, ST.out.2.2.1, ST.out.2.2.2.1, ST.out.2.2.2.2⟩
        case measure => simp [intOf]; omega
      · have z2 : (kind == 2) = false := by simpa using k2
        go_wp2_with fail
        refine (vote_any kind v _).mono ?_
        rintro e w3 ⟨rfl, hb3⟩
        have B3 := hide hb3
        have BW3 := hide (below_step HB.out hb3)
        have F3 := hide (HF.out.below hb3)
        clear hb3
        go_wp2_with fail
        refine (accept_any F3.out.ac (fun k hk => Nat.le_trans BW3.out.size hk) v (VO.out.q.below BW3.out)).mono ?_
        rintro e w4 ⟨rfl, hmv⟩
        have ST := hide (STEP.out w3 w4 _ B3.out hmv)
        clear hmv
        go_wp2_with fail
        go_roundw
        case rel => exact ⟨k + 1, _, by omega, by go_num, ST.out.1, ST.out.2.1, ST.out.2.2.1, ST.out.2.2.2.1, ST.out.2.2.2.2⟩
        case measure => simp [intOf]; omega
    · obtain rfl : k = len' := by omega
      clear hlt hk
      obtain ⟨wv, ev⟩ : ∃ wv, wv = wr := ⟨_, rfl⟩
      rw [← ev] at HB HA HF HV HX
      have EV := hide ev
      have CV := hide (votes_any HA.out.ac)
      go_upto_region 15 with fail
      rw [← EV.out]
      clear ev EV
      go_wp2_with fail
      refine CV.out.mono ?_
      rintro e w14 ⟨aa, ma, ca, la, rfl, hb14, ht14, hl14⟩
      have B14 := hide hb14
      have T14 := hide ht14
      have L14 := hide hl14
      have SH14 := hide (told_short ht14 hl14 HA.out.ac.ok)
      have A14 := hide (HA.out.below hb14)
      have X14 := hide (HX.out.below hb14)
      clear hb14 ht14 hl14
      obtain ⟨x0, x1⟩ := X14.out
      go_wp2_with fail
      have CP := hide (promised_any (w := w14.drew) A14.out.ac.drew)
      go_region_held3 (fun u => u.cell? ⟨N, 0, none⟩ = some (.int .i64 s.pr) ∧ u.cell? ⟨N, 1, none⟩ = some (.int .i64 s.pn)) (first | go_keep | exact ⟨x0, x1⟩ | exact X15.out | exact X17.out) ((first
        | (go_at_call 13; refine CP.out.mono ?_; rintro e w15 ⟨rfl, hb15⟩; have B15 : Hid (Below w14.heap.size w14 w15) := (Below.refl _ _).drew.trans hb15; have X15 := hide (X14.out.below B15.out); have CI := hide (first_any (A14.out.below B15.out).ac); have CS := hide (votes_vl (T14.out.below B15.out).vl ((HV.out.below B14.out).below B15.out) (L14.out.trans LB.out.symm) SH14.out.1 SH14.out.2); clear hb15)
        | (go_at_call 14; refine CI.out.mono ?_; rintro e w16 ⟨rfl, rfl⟩)
        | (go_at_call 15; refine CS.out.mono ?_; rintro e w17 ⟨rfl, hb17⟩; have B17 := hide (below_step B15.out hb17); have X17 := hide (X14.out.below B17.out); clear hb17)))
      have B17v : Hid (Below wv.heap.size wv w17) := below_step B14.out B17.out
      have T17 := hide (T14.out.below B17.out)
      have WR17 : Hid (∀ _ : 0 < ma, ∃ g, aa = some ⟨g, 0, none⟩ ∧ Wr w17 wv.heap.size g ma la) := fun h0 => T17.out.wr h0
      have MA := SH14.out.1
      have LL := hide T14.out.vl.len
      have LM := hide SH14.out.2
      clear x0 x1 X15 X17 B15 CP CI CS X14 A14
      go_wp2_with fail
      go_loopw [14, 15] (fun i _ wr => ∃ k : Nat, k ≤ ma ∧ i = .int .i64 k ∧ Hid (Below wv.heap.size wv wr) ∧ Hid (∀ _ : 0 < ma, ∃ g, aa = some ⟨g, 0, none⟩ ∧ Wr wr wv.heap.size g ma la)) (fun i _ _ => ma - (intOf i).toNat)
      case atStart => exact ⟨0, Nat.zero_le _, rfl, B17v, WR17⟩
      case round =>
        clear B17v WR17
        obtain ⟨i, hi, rfl, HBi, HWi⟩ := hrel
        by_cases hlt : i < ma
        · obtain ⟨g, rfl, hw⟩ := HWi.out (by omega)
          have i1 : (i : Int) < (ma : Int) := by omega
          have i2 : (0 : Int) ≤ (i : Int) := by omega
          have lk : i < la.length := by have := LL.out; omega
          obtain ⟨p, hp⟩ : ∃ p, la[i]? = some p := ⟨la[i], by simp [lk]⟩
          have HP := hide hp
          have PM := LM.out p (List.mem_of_getElem? hp)
          have HW := hide hw
          clear hw hp lk HWi
          go_wp2_with fail
          go_loopw [15] (fun j wq => ∃ q : Nat, q ≤ p.m ∧ j = .int .i64 q ∧ Hid (Below wv.heap.size wv wq) ∧ Hid (Wr wq wv.heap.size g ma la)) (fun j _ => p.m - (intOf j).toNat)
          case atStart => exact ⟨0, Nat.zero_le _, rfl, HBi, HW⟩
          case round =>
            clear HBi HW
            obtain ⟨q, hq, rfl, HBq, HWq⟩ := hrel
            obtain ⟨cr, r1, r2, r3⟩ := HWq.out.row
            have c3 : wr.cell? ⟨g, i * 4 + 3, none⟩ = some (.slice p.a p.m p.cp) := by rw [cell_of_row _ _ _ _ _ _ r1]; exact r3 i p HP.out
            by_cases hql : q < p.m
            · have j1 : (q : Int) < (p.m : Int) := by omega
              have j2 : (0 : Int) ≤ (q : Int) := by omega
              obtain ⟨gb, cs, e1, e2, e3, e4⟩ := HWq.out.vals p (List.mem_of_getElem? HP.out) (by omega)
              rw [e1] at c3
              obtain ⟨xv, hx⟩ : ∃ xv, wr.cell? ⟨gb, q, none⟩ = some xv := ⟨cs[q]'(by omega), by rw [cell_of_row _ _ _ _ _ _ e3]; simp [show q < cs.size by omega]⟩
              have fz : ∀ o, wr.frozen? ⟨gb, o, none⟩ = false := fun o => by simp [World.frozen?, e3]
              have W2 : Hid (Wr (wr.setCell ⟨gb, q, none⟩ (.int .u8 99)) wv.heap.size g ma la) := HWq.out.setVal e3 q _
              have B2 : Hid (Below wv.heap.size wv (wr.setCell ⟨gb, q, none⟩ (.int .u8 99))) := HBq.out.setCell (p := ⟨gb, q, none⟩) e2 _
              clear e1 e2 e3 e4 r1 r2 r3
              go_wp2_with fail
              go_roundw
              case rel => exact ⟨q + 1, by omega, by go_num, B2, W2⟩
              case measure => simp [intOf]; omega
            · obtain rfl : q = p.m := by omega
              obtain ⟨xs, hx⟩ : ∃ xs, wr.cell? ⟨g, i * 4, none⟩ = some xs := ⟨cr[i * 4]'(by omega), by rw [cell_of_row _ _ _ _ _ _ r1]; simp [show i * 4 < cr.size by omega]⟩
              have fz : ∀ o, wr.frozen? ⟨g, o, none⟩ = false := fun o => by simp [World.frozen?, r1]
              have W2 : Hid (∀ _ : 0 < ma, ∃ g', (some ⟨g, 0, none⟩ : Option Addr) = some ⟨g', 0, none⟩ ∧ Wr (wr.setCell ⟨g, i * 4, none⟩ (.int .i64 0)) wv.heap.size g' ma la) := fun _ => ⟨g, rfl, HWq.out.setSlot i _⟩
              have B2 : Hid (Below wv.heap.size wv (wr.setCell ⟨g, i * 4, none⟩ (.int .i64 0))) := HBq.out.setCell (p := ⟨g, i * 4, none⟩) HWq.out.hB _
              clear r1 r2 r3 hql hq
              go_wp2_with fail
              go_roundw
              case rel => exact ⟨i + 1, by omega, by go_num, B2, W2⟩
              case measure => simp [intOf]; omega
        · obtain rfl : i = ma := by omega
          clear hlt hi HWi
          have AZ := hide (HA.out.below HBi.out)
          have VZ := hide (HV.out.below HBi.out)
          have CZ := hide (votes_any AZ.out.ac)
          obtain ⟨wz, ez⟩ : ∃ wz, wz = wr := ⟨_, rfl⟩
          rw [← ez] at CZ AZ VZ HBi
          have EZ := hide ez
          go_upto_region 26 with fail
          rw [← EZ.out]
          clear ez EZ
          go_wp2_with fail
          refine CZ.out.mono ?_
          rintro e w20 ⟨az, mz, cz, lz, rfl, hb20, ht20, hl20⟩
          have SZ := told_short ht20 hl20 AZ.out.ac.ok
          have CY := hide (votes_vl ht20.vl (VZ.out.below hb20) (hl20.trans LB.out.symm) SZ.1 SZ.2)
          have B20 := hide (below_step HBi.out hb20)
          clear hb20 ht20 hl20 SZ
          go_wp2_with fail
          refine CY.out.mono ?_
          rintro e w21 ⟨rfl, hb21⟩
          go_wp2_with fail
          go_ret
          exact ⟨rfl, below_step HB.out (below_step B20.out hb21)⟩

set_option maxRecDepth 100000 in
theorem lifted (os : Os) (started : os.Started) (H : Type) (enc : TypeId × Value → H) :
    ReturnsInHanded {} Try.checked os 7 .any (Rows.acceptForksSpec.pre6 enc Try.prog Try.f7 Rows.acceptForksRow.domain false) (Rows.acceptForksSpec.post enc Try.prog Try.f7 false true false false) := by
  refine returnsInHanded_of_change_sized (C := Try.checked) own started (by kernel_rfl) Try.func7
    (ChangeSpec.witness6 (enc := enc) (C := Try.checked) false ⟨#[], #[.slice none 0 0, .slice none 0 0], []⟩ 8 (by kernel_rfl) (by kernel_rfl) (by kernel_rfl) (by kernel_rfl)) ?_
  intro W base args ds gs before hval0 hW hcnd hsz0 _
  have hsz : (DataW.weightsEach Try.prog (Try.f7.params.toList ++ Rows.acceptForksSpec.plain.varTypes Try.prog) (ds ++ gs)).all (· ≤ reachBytes) = true := hsz0
  have hval : ∀ (j : Nat) t v, Try.f7.params[j]? = some t → args[j]? = some v → Value.okWide Try.prog W .any base t v := hval0
  have hW' := hW
  obtain ⟨p, q, hA0, hV, rfl, hfz, hnd⟩ := hW
  have hA : DataW.TrodAll enc Try.prog W 0 (fun _ => true) true Try.f7.params.toList args.toList ds p := hA0
  rw [Try.params7] at hA hval hsz
  obtain ⟨v0, vs0, d0, ds0, p0, q0, hargs, rfl, rfl, h0, r0⟩ := trodAll_cons hA
  obtain ⟨v1, vs1, d1, ds1, p1, q1, rfl, rfl, rfl, h1, r1⟩ := trodAll_cons r0
  obtain ⟨rfl, rfl, rfl⟩ := trodAll_nil r1
  obtain rfl : args = #[v0, v1] := by cases args; simp_all
  obtain ⟨rfl, rfl⟩ := trodVars_none hV
  have lt0 : ∀ x ∈ p0, x.block < W.heap.size := by obtain ⟨m, hm⟩ := h0; exact DataW.trod_lt m _ _ _ hm
  obtain ⟨a, len, cap, os, rfl, ho⟩ := open_ops_held (hval 0 22 v0 rfl rfl) h0 (fun n hn => by have h := List.all_eq_true.1 hsz n (DataW.weights_mem_each (j := 0) rfl rfl n hn); simpa using h)
  have lt1 : ∀ x ∈ p1, x.block < W.heap.size := by obtain ⟨m, hm⟩ := h1; exact DataW.trod_lt m _ _ _ hm
  obtain ⟨a', len', cap', os', rfl, ho'⟩ := open_ops_held (hval 1 22 v1 rfl rfl) h1 (fun n hn => by have h := List.all_eq_true.1 hsz n (DataW.weights_mem_each (j := 1) rfl rfl n hn); simpa using h)
  clear hA0 hval0
  refine (walk ho ho').mono fun e W' ⟨he, bel⟩ => ?_
  subst he
  exact ⟨_, rfl, _, _, _, [], _, [], hW', trodAll_mk1 (shut_bool Try.underlying4 _), (trodAll_cons_mk (Below.trod laidOut (by kernel_rfl) (of_decide_eq_true (by kernel_rfl)) h0 bel lt0) (trodAll_cons_mk (Below.trod laidOut (by kernel_rfl) (of_decide_eq_true (by kernel_rfl)) h1 bel lt1) trodAll_mk0)), rfl, bel.frame _, fun h => by cases h⟩

theorem over : Rows.acceptForksRow.holds Try.pinned (OpenSpec.ofChange Rows.acceptForksSpec) :=
  OpenClaim.holds_of_wide 7 Try.f7 rfl rfl rfl rfl rfl rfl rfl ⟨rfl, rfl, rfl, rfl, rfl⟩ rfl rfl rfl rfl rfl (by kernel_rfl) Try.func7 (by kernel_rfl)
    (of_decide_eq_true (by kernel_rfl)) (by unfold Func.isWrapper; first | (rw [if_pos (by decide +kernel)]; kernel_rfl) | (rw [if_neg (by decide +kernel)]; exact ⟨rfl, rfl⟩))
    (fun os started H enc _ => lifted os started H enc)

theorem proved : Rows.AcceptForksSaid := over
#print axioms proved
end AcceptForks
theorem acceptForks_holds : Rows.AcceptForksSaid := AcceptForks.proved
end Go.Proofs.Ytdnniokpkamjjaa
