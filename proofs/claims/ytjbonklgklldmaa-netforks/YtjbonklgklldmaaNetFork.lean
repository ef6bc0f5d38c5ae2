/- The landed net's Fork. No condition. -/
import Derived.Test.YtjbonklgklldmaaNetForkMem
import Derived.Test.YtjbonklgklldmaaAppendWide
import Derived.Stop.RegionWithIn
import Derived.TacticsInMore
namespace Go.Proofs.Ytjbonklgklldmaa
open Go.ChangeShapes Go.WideShapes Go.ChangeAt Go.RowKit Go.Shelf B8 Nm
set_option linter.unusedVariables false
attribute [local go_sem] Oper.semAt_some
attribute [local go_sem ↓] app_fold

set_option maxRecDepth 100000 in
set_option maxHeartbeats 10000000 in
theorem fork_net {w : World} {L : Lay} {kk : Nat} {s : Ns} (h : Nt w L kk s) :
    Calls Try.prog 6 #[.pointer (some ⟨L.N, 0, none⟩)] w fun e w' => ∃ F : Lay, e = .returned (.pointer (some ⟨F.N, 0, none⟩)) ∧ Below w.heap.size w w' ∧ Nt w' F kk s ∧ ∀ k, F.M k ∨ F.R k → w.heap.size ≤ k := by
  obtain ⟨i0, hi, hz0, hz1, hz2⟩ := info_parts pkinfo
  have H := hide h
  have c0 : w.cell? ⟨L.N, 0, none⟩ = some (.int .i64 s.n) := h.c0
  have c2 : w.cell? ⟨L.N, 2, none⟩ = some (.map (some L.mb)) := h.c2
  have hm : L.m ≤ 256 := by have := h.ok.most; rw [h.ps, List.length_map, ← h.len] at this; exact this
  have hbd : Hid (∀ p ∈ L.l, p.n ≤ 16384) := fun p hp => by
    have h1 := h.ok.body p.pk (by rw [h.ps]; exact List.mem_map.2 ⟨p, hp, rfl⟩)
    have h2 := (h.ins p hp).1.length
    have h3 : p.b.length ≤ 16384 := h1
    omega
  have CU := hide h.cuts
  clear h
  refine (callsIn_wide (n := 9)).1 (callsIn_of_wp_marks Try.func6 rfl trivial (wpIn_wide.2 ?_) rfl)
  simp only [Try.ntmps6, List.size_toArray, List.length_cons, List.length_nil, Nat.reduceAdd, Nat.reduceSub, Array.replicate_succ, Array.replicate_zero, List.push_toArray, List.append_toArray, List.nil_append, List.cons_append]
  go_wp2_with fail
  have d0 : w.drew.cell? ⟨L.N, 0, none⟩ = some (.int .i64 s.n) := c0
  have d2 : w.drew.cell? ⟨L.N, 2, none⟩ = some (.map (some L.mb)) := c2
  have ltN : Hid (L.N < w.heap.size) := H.out.ltN
  have BX : Hid (Below w.heap.size w (w.alloc (.cells #[.pointer none] 23))) := below_alloc (Below.refl _ _) _
  have a0 : (w.alloc (.cells #[.pointer none] 23)).cell? ⟨L.N, 0, none⟩ = some (.int .i64 s.n) := (H.out.below BX.out).c0
  have a2 : (w.alloc (.cells #[.pointer none] 23)).cell? ⟨L.N, 2, none⟩ = some (.map (some L.mb)) := (H.out.below BX.out).c2
  go_cut [3] from 4 (fun v W => ∃ B F mb : Nat, v = .pointer (some ⟨B, 0, none⟩) ∧ Hid (Fk w W B F mb kk s.n s.cuts))
  case first =>
    refine wp_nopanic ?_
    go_region_with (first
      | (go_at_call 19; refine (clone_map (kk := kk) (cuts := s.cuts) (CU.out.below' BX.out.drew)).mono ?_; rintro e w2 ⟨rfl, hc2, hb2, hs2⟩; have hx : Boxed w2 w.heap.size 23 (.pointer none) := (hb2.block w.heap.size (by simp)).trans (Boxed.new w _ _); have e1 := (hx.alloc (.cells #[.int .i64 s.n, .slice none 0 0, .map (some (w.heap.size + 1))] 54)).cell; have e2 := (hx.alloc (.cells #[.int .i64 s.n, .slice none 0 0, .map (some (w.heap.size + 1))] 54)).frozen; have l1 := ((World.cell?_of_block (a := ⟨L.N, 0, none⟩) (hb2.block L.N (by simp; exact Nat.lt_succ_of_lt ltN.out))).trans a0); have FA := hide hx; have FB : Hid (Cuts w2 (w.heap.size + 1) kk s.cuts ∧ Below w.heap.size w w2 ∧ w.heap.size + 1 < w2.heap.size) := ⟨by simpa using hc2, below_step BX.out.drew hb2, by simpa using hs2⟩; clear hx hc2 hb2 hs2)
      | (go_at_call 19; refine (clone_map (kk := kk) (cuts := s.cuts) (CU.out.below' (Below.refl _ _).drew)).mono ?_; rintro e w2 ⟨rfl, hc2, hb2, hs2⟩; have FC : Hid (Cuts w2 w.heap.size kk s.cuts ∧ Below w.heap.size w w2 ∧ w.heap.size < w2.heap.size) := ⟨hc2, below_step (Below.refl _ _).drew hb2, hs2⟩; have nz : w2.heap.size ≠ w2.heap.size + 1 := (by omega); have l0 := (World.cell?_alloc_lt w2 (.cells #[.pointer none] 23) ⟨L.N, 0, none⟩ (Nat.lt_trans ltN.out hs2)).trans ((World.cell?_of_block (a := ⟨L.N, 0, none⟩) (hb2.block L.N ltN.out)).trans d0); have l1 := ((World.cell?_of_block (a := ⟨L.N, 0, none⟩) (hb2.block L.N ltN.out)).trans d0); clear hc2 hb2 hs2))
    all_goals (go_wp2_with fail; go_meet; case rel => first | exact ⟨_, _, _, rfl, fkA FA.out FB.out⟩ | exact ⟨_, _, _, rfl, fkB FC.out⟩ | exact ⟨_, _, _, rfl, fkC FC.out⟩)
  case rest =>
    obtain ⟨B, F, mb, rfl, FK⟩ := hcut
    obtain ⟨W0, eW0⟩ : ∃ W0, W0 = wc := ⟨_, rfl⟩
    rw [← eW0] at FK ⊢
    clear eW0
    have NU := hide (H.out.below FK.out.below)
    have CA := hide (all_net NU.out)
    clear a0 a2 c0 c2 d0 d2 BX
    go_wp2_with fail
    refine CA.out.mono ?_
    rintro e w1 ⟨Bs, v, rfl, hb1, hk1⟩
    have B1 : Hid (Below w.heap.size w w1) := FK.out.below.trans (hb1.mono FK.out.below.size)
    have HK1 := hide hk1
    have BU1 := hide hb1
    have SW : Hid (w.heap.size ≤ W0.heap.size) := FK.out.below.size
    clear hb1 hk1
    go_wp2_with fail
    have hw1 : Hid (w.heap.size ≤ w1.heap.size) := B1.out.size
    have hm1 : Hid (mb < w1.heap.size) := Nat.lt_of_lt_of_le FK.out.cuts.lt BU1.out.size
    have BL : Hid (B < W0.heap.size ∧ F < W0.heap.size ∧ mb < W0.heap.size) := ⟨FK.out.box.lt, (Array.getElem?_eq_some_iff.1 FK.out.net).1, FK.out.cuts.lt⟩
    refine (wpIn_wide (n := 9)).1 (range_own (gf := 23) (lb := #[.pointer (some ⟨Bs, 0, none⟩)]) rfl (enters_of Try.func23 (by kernel_rfl) rfl) L.m (IterK Bs v L.l) (fun k hk => HK1.out.ltK hk) (ForkI w w1 B F mb s.n L.l) (Comes w.heap.size L.l)
      (fun k W W' h hs => h.soft hs hw1.out hm1.out)
      (fun l J hJ hY W hW hj => all2_in (9 - 1) l W0.heap.size w.heap.size Bs L.m hm hbd.out J hJ hY W (HK1.out.below hW) (Nat.le_trans hw1.out hW.size) hj)
      ⟨(BU1.out.block _ FK.out.box.lt).trans FK.out.box, ⟨none, 0, [], (BU1.out.block _ BL.out.2.1).trans FK.out.net, World.ownsRow_nil _ _ _ _, rfl, by simp⟩, rfl, B1.out, Nat.le_refl _⟩ ?round ?done)
    case round =>
      rintro l k args W hl hk hi2 ⟨p, g0, hp, rfl, ho, hg⟩
      refine ⟨rfl, ?_⟩
      gi_wp2
      have lt0 : ∀ j, IterK Bs v L.l j → j < W.heap.size := fun j hj => Nat.lt_of_lt_of_le (HK1.out.ltK hj) hi2.big
      refine ⟨(KeepsOthers.alloc _ _).from _, keepK_below lt0 (below_alloc (Below.refl _ _) _), fun W2 hs => ?_⟩
      have S1 : Soft w1.heap.size W W2 := (Soft.of_below (below_alloc (Below.refl _ _) _)).trans hs
      have P2 := hide (hs.same _ _ (heap_alloc_new W _) (.inr rfl))
      have i2 := hi2.soft S1 hw1.out hm1.out
      obtain ⟨a, c, l', hnet, hrow, hmap, hall⟩ := i2.ex
      have Q2 : Hid (Own1 W2 w.heap.size ⟨p.f, p.t, some ⟨g0, 0, none⟩, p.n, p.n, p.b⟩) := ⟨g0, rfl, rfl, ⟨S1.same _ _ ho.row (.inr rfl), ho.len, ho.wf⟩, hg⟩
      have cB : W2.cell? ⟨B, 0, none⟩ = some (.pointer (some ⟨F, 0, none⟩)) := i2.box.cell
      have cF : W2.cell? ⟨F, 1, none⟩ = some (.slice a k c) := by rw [cell_of_row W2 _ 1 _ _ _ hnet]; rfl
      have p0 : W2.cell? ⟨W.heap.size, 0, none⟩ = some (.int .i64 p.f) := by rw [cell_of_row W2 _ 0 _ _ _ P2.out]; rfl
      have p1 : W2.cell? ⟨W.heap.size, 1, none⟩ = some (.int .i64 p.t) := by rw [cell_of_row W2 _ 1 _ _ _ P2.out]; rfl
      have p2 : W2.cell? ⟨W.heap.size, 2, none⟩ = some (.slice (some ⟨g0, 0, none⟩) p.n p.n) := by rw [cell_of_row W2 _ 2 _ _ _ P2.out]; rfl
      have hbig : w1.heap.size ≤ W2.heap.size := i2.big
      have FL : F < W2.heap.size := (Array.getElem?_eq_some_iff.1 hnet).1
      have BLL : B < W2.heap.size := i2.box.lt
      have WL : W.heap.size < W2.heap.size := (Array.getElem?_eq_some_iff.1 P2.out).1
      obtain ⟨tmp, etmp⟩ : ∃ tmp, tmp = Obj.cells #[.int .i64 p.f, .int .i64 p.t, .slice (some ⟨g0, 0, none⟩) p.n p.n] 33 (0, 0) := ⟨_, rfl⟩
      obtain ⟨g', cap', w4, hrun, hown', hgrow, hat⟩ := run_append_where (P := Try.prog) (W2.alloc tmp).drew w1.heap.size 27 27 33 i0 (.agg zpk) 3 40 Try.underlying27 hi hz0 hz1 hz2 (by rfl) (by omega) a k c (pcells l') (row_same (hrow.alloc tmp) (fun _ _ => rfl)) ⟨W2.heap.size, 0, none⟩ 1 1 [.int .i64 p.f, .int .i64 p.t, .slice (some ⟨g0, 0, none⟩) p.n p.n] (by rfl) (by rw [etmp]; exact cells3) (by intro u hu; simp at hu; rcases hu with rfl | rfl | rfl <;> rfl) (by omega) (by unfold maxLen; omega) (by omega) (by simp; omega)
      rw [app_fold] at hrun
      obtain ⟨t1, t2, t3, t4⟩ := fork_step hnet hrow hmap hall Q2.out (show Pv.pk _ = p.pk from rfl) hp hown' hgrow
      have b4 : Boxed w4 B 23 (.pointer (some ⟨F, 0, none⟩)) := Boxed.kept (W := (W2.alloc tmp).drew) (i2.box.alloc tmp) hgrow (i2.box.not_row (by decide) hrow)
      have cB4 := b4.cell
      have cF4 : w4.cell? ⟨F, 1, none⟩ = some (.slice a k c) := by rw [cell_of_row w4 _ 1 _ _ _ t1]; rfl
      have fF4 : w4.frozen? ⟨F, 1, none⟩ = false := frozen_of_row w4 _ 1 _ _ t1
      have aB : (W2.alloc tmp).cell? ⟨B, 0, none⟩ = some (.pointer (some ⟨F, 0, none⟩)) := (World.cell?_alloc_lt W2 _ _ BLL).trans cB
      have aF : (W2.alloc tmp).cell? ⟨F, 1, none⟩ = some (.slice a k c) := (World.cell?_alloc_lt W2 _ _ FL).trans cF
      rw [etmp] at aB aF hrun
      have T2 := hide t2
      have T3 := hide t3
      have T4 := hide t4
      have HR := hide hrow
      have I2 := hide i2
      have HN := hide hnet
      have ET := hide etmp
      have HB4 := hide b4
      clear b4 t1 t2 t3 t4 hown' hgrow hat hrow hmap hall i2 hi2 hp ho hg hs S1 hnet etmp
      have OW : ∀ j, (Value.slice a k c).ownBlock = some j → w1.heap.size ≤ j := fun j hj => (HR.out.lt j hj).1
      have hu1 := BU1.out.size
      have hw2 := SW.out
      have hBL := BL.out
      have hFL := FK.out.lo
      have nBF : B ≠ F := fun e => by
        have h1 := HN.out
        rw [← e, show W2.heap[B]? = _ from I2.out.box] at h1
        simp at h1
      have nMF : mb ≠ F := fun e => by
        obtain ⟨D, ⟨es, clock, hb, _⟩, _⟩ := FK.out.cuts
        rw [e, FK.out.net] at hb
        simp at hb
      have CL : Hid (KeepsFrom w1.heap.size W2 (w4.setCell ⟨F, 1, none⟩ (.slice (some ⟨g', 0, none⟩) (k + 1) cap')) ∧ KeepK (IterK Bs v L.l) W2 (w4.setCell ⟨F, 1, none⟩ (.slice (some ⟨g', 0, none⟩) (k + 1) cap')) ∧ ForkI w w1 B F mb s.n L.l (k + 1) (w4.setCell ⟨F, 1, none⟩ (.slice (some ⟨g', 0, none⟩) (k + 1) cap'))) := by
        refine ⟨⟨T4.out.size, fun j o _ hj ho => T3.out j o hj (fun e => ?_) (fun e => ?_)⟩, ⟨T4.out.size, fun j hj => T4.out.block j (Nat.lt_of_lt_of_le (HK1.out.ltK hj) hbig) (fun hx => ?_)⟩, ⟨T3.out _ _ I2.out.box nBF (fun e => by have := OW _ e; omega), ⟨_, _, _, T2.out.1, T2.out.2.1, T2.out.2.2.1, T2.out.2.2.2⟩, (T4.out.block mb (by omega) (fun hx => ?_)).trans I2.out.map, I2.out.below.trans (T4.out.below I2.out.below.size (fun j hj => ?_)), Nat.le_trans hbig T4.out.size⟩⟩
        · rw [e, HN.out] at hj
          cases hj
          cases ho
        · obtain ⟨cs, h2⟩ := own_cells HR.out e
          rw [h2] at hj
          cases hj
          cases ho
        · have h1 := HK1.out.ltK hj
          rcases hx with hx | hx
          · rcases hj with hj | hj | ⟨q, hq, ad, e, hj⟩
            · have := HK1.out.lo; omega
            · have := (HK1.out.row.lt j hj).1; omega
            · have := (H.out.ins q hq).2 ad e; omega
          · have := OW j hx; omega
        · rcases hx with hx | hx
          · exact nMF hx
          · have := OW _ hx; omega
        · rcases hj with hj | hj
          · omega
          · have := OW j hj; omega
      clear OW hu1 hw2 hBL hFL nBF nMF T2 T3 T4 HB4 HR I2 HN ET Q2 P2
      gi_wp2
      gi_region_with (fail)
      all_goals exact ⟨rfl, CL.out⟩
    case done =>
      intro D W hD hi2 hK
      obtain ⟨a, c, l', hnet, hrow, hmap, hall⟩ := hi2.ex
      have cB := hi2.box.cell
      have HI := hide hi2
      have HN := hide hnet
      have HR := hide hrow
      have HM := hide hmap
      have HA := hide hall
      have HD := hide hD
      have HKK := hide hK
      clear hi2 hnet hrow hmap hall hD hK
      dsimp only
      go_wp2_with fail
      have hd := HD.out
      have hw := hw1.out
      have hmb := hm1.out
      have hFL := FK.out.lo
      have oth : Hid (∀ (j : Nat) (cs : Array Value) (t : TypeId), W.heap[j]? = some (.cells cs t (0, 0)) → (W.putObj D (.deferred none)).heap[j]? = some (.cells cs t (0, 0))) := fun j cs t hj =>
        (World.putObj_heap_other (fun e => by
          have := HKK.out
          rw [← e, hj] at this
          cases this)).trans hj
      have NF := hide (oth.out _ _ _ HN.out)
      have MB : Hid ((W.putObj D (.deferred none)).heap[mb]? = W0.heap[mb]?) := (World.putObj_heap_other (fun e => by omega)).trans (HI.out.map.trans (BU1.out.block mb FK.out.cuts.lt))
      have OWN : Hid (∀ p ∈ l', Own1 (W.putObj D (.deferred none)) w.heap.size p) := fun p hp => (HA.out p hp).same (fun j cs hj => oth.out j cs _ hj)
      have mapE : Hid (l'.map Pv.pk = s.ps) := by show _ = _; rw [HM.out, H.out.len, List.take_length, H.out.ps]
      have ROW : Hid ((W.putObj D (.deferred none)).ownsRow w1.heap.size 33 3 (.slice a L.m c) L.m (pcells l')) := by
        obtain ⟨hl, h | ⟨g, cp, cur, h1, h2, h3, h4, h5, h6, h7⟩⟩ := HR.out
        · exact ⟨hl, .inl h⟩
        · exact ⟨hl, .inr ⟨g, cp, cur, h1, h2, oth.out _ _ _ h3, h4, h5, h6, h7⟩⟩
      have ROW0 : Hid ((W.putObj D (.deferred none)).ownsRow 0 33 3 (.slice a L.m c) L.m (pcells l')) := by
        obtain ⟨hl, h | ⟨g, cp, cur, h1, h2, h3, h4, h5, h6, h7⟩⟩ := ROW.out
        · exact ⟨hl, .inl h⟩
        · exact ⟨hl, .inr ⟨g, cp, cur, h1, Nat.zero_le _, h3, h4, h5, h6, h7⟩⟩
      have FIN : Hid (Nt (W.putObj D (.deferred none)) ⟨F, mb, a, L.m, c, l'⟩ kk s) := by
        refine ⟨?_, ?_, ?_, fun o => frozen_of_row _ F o _ _ NF.out, ROW0.out, ?_, mapE.out.symm, fun p hp => (OWN.out p hp).ins, FK.out.cuts.same MB.out, fun e => ?_, fun k hk hr => ?_, H.out.ok⟩
        · show World.cell? _ ⟨F, 0, none⟩ = _
          rw [cell_of_row _ _ 0 _ _ _ NF.out]; rfl
        · show World.cell? _ ⟨F, 1, none⟩ = _
          rw [cell_of_row _ _ 1 _ _ _ NF.out]; rfl
        · show World.cell? _ ⟨F, 2, none⟩ = _
          rw [cell_of_row _ _ 2 _ _ _ NF.out]; rfl
        · show L.m = l'.length
          have h1 := congrArg List.length mapE.out
          rw [List.length_map, H.out.ps, List.length_map] at h1
          rw [h1]; exact H.out.len
        · obtain ⟨cs2, h2⟩ := own_cells ROW.out e
          rw [show (Lay.N ⟨F, mb, a, L.m, c, l'⟩) = F from rfl, NF.out] at h2
          simp at h2
        · obtain ⟨p, hp, ad, e, rfl⟩ := hr
          obtain ⟨g, e1, e2, ho, hg⟩ := OWN.out p hp
          rw [e1] at e
          obtain rfl := Option.some.inj e
          have h1 := ho.row
          rcases hk with hk | hk | hk
          · rw [show g = F from hk, NF.out] at h1
            simp at h1
          · obtain ⟨Dd, ⟨es, clock, hb, _⟩, _⟩ := FK.out.cuts
            rw [show g = mb from hk, MB.out, hb] at h1
            simp at h1
          · obtain ⟨cs2, h2⟩ := own_cells ROW.out hk
            rw [show (⟨g, 0, none⟩ : Addr).block = g from rfl] at h2
            rw [h2] at h1
            simp at h1
      refine ⟨by simp, .inl ⟨_, _, rfl, run_takeDeferred HKK.out, ?_⟩⟩
      refine ⟨.pointer (some ⟨F, 0, none⟩), ?res, ⟨F, mb, a, L.m, c, l'⟩, rfl, ?bel, FIN.out, fun k hk => ?lo⟩
      case res => exact results_tmp (show Try.f6.results = #[.tmp 2] from rfl) _ _ _
      case bel => exact HI.out.below.trans ((Below.refl _ _).grown (grownBy_putObj' _ D _) (by have := (Array.getElem?_eq_some_iff.1 HKK.out).1; have := HI.out.below.size; omega) (fun k e => by cases e; omega))
      case lo =>
        rcases hk with (hk | hk | hk) | ⟨p, hp, ad, e, rfl⟩
        · rw [hk]; exact hFL.2.1
        · rw [hk]; exact hFL.2.2
        · have := (ROW.out.lt k hk).1; omega
        · obtain ⟨g, e1, e2, ho, hg⟩ := OWN.out p hp
          rw [e1] at e
          obtain rfl := Option.some.inj e
          exact hg
end Go.Proofs.Ytjbonklgklldmaa
