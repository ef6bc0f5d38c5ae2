/- NetHonest: whatever comes was sent, and comes no more often than it was sent and doubled: for every list of calls. No condition. -/
import Derived.Test.YtbgejpkkocedbaaNetRan
import Derived.Test.YtbgejpkkocedbaaNetHonMem
import Derived.Maps.AppendAt
namespace Go.Proofs.Ytbgejpkkocedbaa
namespace NetHonest
open Go.ChangeShapes Go.WideShapes Go.ChangeAt Go.RowKit B8 Nm
set_option linter.unusedVariables false

theorem fair_less {l1 l2 : List Pv} {ps qs : List Pk} (h : Fair l1 l2 ps) (hq : ∀ x, cntK qs x ≤ cntK ps x) : Fair l1 l2 qs := fun x => Nat.le_trans (Nat.add_le_add_left (hq x) _) (h x)
theorem fair_sent {l1 l2 : List Pv} {ps : List Pk} (h : Fair l1 l2 ps) (q : Pv) : Fair (l1 ++ [q]) l2 ps := fun x => by rw [cntP_snoc]; have := h x; omega
theorem fair_way {l1 l2 : List Pv} {ps : List Pk} (h : Fair l1 l2 ps) (q : Pv) : Fair (l1 ++ [q]) l2 (ps ++ [q.pk]) := fun x => by rw [cntP_snoc, cntK_snoc]; have := h x; omega
theorem take_less (s : Ns) (i : Int) (x : Pk) : cntK (takeS s i).ps x ≤ cntK s.ps x := by
  unfold takeS
  split
  · rename_i h
    have := cntK_erase s.ps i.toNat x (reach_lt h).2
    show cntK (s.ps.eraseIdx i.toNat) x ≤ _
    omega
  · exact Nat.le_refl _
theorem fair_come {l1 l2 : List Pv} {s : Ns} {i : Int} (h : Fair l1 l2 s.ps) (hr : reachE s i = 0) {q : Pv} (hq : q.pk = takeP s i) : Fair l1 (l2 ++ [q]) (takeS s i).ps := fun x => by
  have h1 := h x
  have h2 := cntK_erase s.ps i.toNat x (reach_lt hr).2
  have e1 : (takeS s i).ps = s.ps.eraseIdx i.toNat := by unfold takeS; rw [if_pos hr]
  have e2 : takeP s i = s.ps.getD i.toNat zPk := by unfold takeP; rw [if_pos hr]
  rw [cntP_snoc, hq, e1, e2]
  omega
theorem cut_same (s : Ns) (a b : Int) : (cutS s a b).ps = s.ps := by unfold cutS; split <;> rfl
theorem send_fair {l1 l2 : List Pv} {s : Ns} {f t : Int} {bs : List Int} (h : Fair l1 l2 s.ps) {q : Pv} (hq : q.pk = ⟨f, t, bs⟩) : Fair (l1 ++ [q]) l2 (sendS s f t bs).ps := by
  unfold sendS
  split
  · exact fair_sent h q
  · split
    · exact fair_sent h q
    · split
      · exact fair_sent h q
      · rw [← hq]; exact fair_way h q
theorem send_no {s : Ns} {f t : Int} {bs : List Int} (h : sendE s f t bs ≠ 0) : sendS s f t bs = s := by
  unfold sendE at h
  unfold sendS
  split
  · rfl
  · rename_i h1
    rw [if_neg h1] at h
    split
    · rfl
    · rename_i h2
      rw [if_neg h2] at h
      split
      · rfl
      · rename_i h3
        rw [if_neg h3] at h
        exact absurd rfl h
theorem send_short {s : Ns} {f t : Int} {bs : List Int} (h : sendE s f t bs = 0) : bs.length ≤ 16384 := by
  unfold sendE at h
  split at h
  · omega
  · rename_i h1
    simp only [badB, Bool.or_eq_true, decide_eq_true_eq, not_or] at h1
    omega
/-- a net at D, two lists beside it -/
structure St (wr : World) (N0 D kk : Nat) (s : Ns) (v1 v2 : Value) (m1 m2 : Nat) (l1 l2 : List Pv) : Prop where
  ex : ∃ L, Nt wr L kk s ∧ L.N = D ∧ (∀ j, L.M j → N0 ≤ j) ∧ Hon wr N0 L v1 v2 m1 m2 l1 l2
  fair : Fair l1 l2 s.ps
theorem St.below {w w' : World} {N0 D m1 m2 kk : Nat} {s : Ns} {v1 v2 : Value} {l1 l2 : List Pv} (h : St w N0 D kk s v1 v2 m1 m2 l1 l2) (hb : Below w.heap.size w w') : St w' N0 D kk s v1 v2 m1 m2 l1 l2 := by
  obtain ⟨⟨L, h1, h2, h3, h4⟩, h5⟩ := h
  exact ⟨⟨L, h1.below hb, h2, h3, h4.below hb⟩, h5⟩
theorem St.move {w w' : World} {N0 m1 m2 kk k2 : Nat} {L : Lay} {s' : Ns} {v1 v2 : Value} {l1 l2 : List Pv} (hl : ∀ j, L.M j → N0 ≤ j) (h : Hon w N0 L v1 v2 m1 m2 l1 l2) (hm : Mv w L kk s' w') (hN : N0 ≤ w.heap.size) (hk : kk ≤ k2) (hf : Fair l1 l2 s'.ps) : St w' N0 L.N k2 s' v1 v2 m1 m2 l1 l2 ∧ Below N0 w w' := by
  have hc := hm.1
  obtain ⟨L', h1, h2, h3, h4, h5⟩ := h.net hm
  exact ⟨⟨⟨L', h1.mono hk, h2, fun j hj => by rcases h3 j hj with h | h; exact hl j h; omega, h5⟩, hf⟩, hc.below hN (fun k hk => hl k hk)⟩

set_option maxRecDepth 100000 in
set_option maxHeartbeats 2000000 in
theorem walk {w : World} {a : Option Addr} {len cap : Nat} {os : Nat → Opd} (h : Ops w a len os) (b : Int) :
    Calls Try.prog 4 #[.int .i64 b, .slice a len cap] w fun e w' => e = .returned (.bool true) ∧ Below w.heap.size w w' := by
  obtain ⟨i0, hi, hz0, hz1, hz2⟩ := info_parts pkinfo
  have hrb := rlen_wrap b
  have hnb := hrb.1
  have H := hide h
  have RM := h.room
  have NY := hide (new_yes (rlen b) hrb.2.1 hrb.2.2 w)
  generalize hrl : rlen b = rl at *
  clear h hrl hrb
  go_enter Try.func4, Try.ntmps4
  go_wp2_with fail
  refine NY.out.mono ?_
  rintro e w1 ⟨L0, rfl, hb, hd, hl⟩
  clear hnb
  have B1 := hide hb
  have D1 := hide hd
  have L1 := hide hl
  clear hb hd hl
  go_wp2_with fail
  refine (awake_any _).mono ?_
  rintro e w2 ⟨rfl, hb2⟩
  have B2 := hide (below_step B1.out hb2)
  have S2 : Hid (St w2 w.heap.size L0.N 0 (newS rl) (.slice none 0 0) (.slice none 0 0) 0 0 [] []) := ⟨⟨L0, D1.out.below hb2, rfl, L1.out, ⟨World.ownsRow_nil _ _ _ _, World.ownsRow_nil _ _ _ _, by simp, by simp [Value.ownBlock], by simp [Value.ownBlock], by simp⟩⟩, fun x => by simp [newS, cntP, cntK]⟩
  generalize L0.N = D at S2 ⊢
  clear hb2 B1 D1 L1
  go_wp2_with fail
  go_loopw [7, 8, 9] (fun sv cv i wr => ∃ (k : Nat) (s : Ns) (a1 a2 : Option Addr) (m1 c1 m2 c2 : Nat) (l1 l2 : List Pv), k ≤ len ∧ i = .int .i64 k ∧ sv = .slice a1 m1 c1 ∧ cv = .slice a2 m2 c2 ∧ Hid (Below w.heap.size w wr) ∧ Hid (St wr w.heap.size D k s (.slice a1 m1 c1) (.slice a2 m2 c2) m1 m2 l1 l2) ∧ Hid (m1 ≤ k ∧ m2 ≤ k)) (fun _ _ i _ => len - (intOf i).toNat)
  case atStart => exact ⟨0, _, none, none, 0, 0, 0, 0, [], [], by omega, rfl, rfl, rfl, B2, S2, ⟨Nat.le_refl _, Nat.le_refl _⟩⟩
  case round =>
    clear S2 B2
    obtain ⟨k, s, a1, a2, m1, c1, m2, c2, l1, l2, hk, rfl, rfl, rfl, HB, HS, HM⟩ := hrel
    by_cases hlt : k < len
    · obtain ⟨ob, off, rfl, oblt, hoc⟩ := H.out.cells (by omega)
      have OK := H.out.each k hlt
      have hr := rangeAt_same (hoc k hlt) (HB.out.block ob oblt)
      generalize os k = o at *
      obtain ⟨kind, x, y, ka, kl, kc, ks⟩ := o
      have HO := hide OK
      obtain ⟨o0, o1, o2, o3⟩ := opc_cells hr
      clear OK hr hoc
      have j1 : (k : Int) < (len : Int) := by omega
      have j2 : (0 : Int) ≤ (k : Int) := by omega
      obtain ⟨⟨L, hdk, hp, hL, hh⟩, hf⟩ := HS.out
      have HP := hide hp
      have LL := hide hL
      have FR := hide hf
      have NW : Hid (w.heap.size ≤ wr.heap.size) := HB.out.size
      obtain ⟨w3, e3⟩ : ∃ w3, w3 = wr.alloc (.cells #[.int .i64 kind, .int .i64 x, .int .i64 y, .slice ka kl kc] 33) := ⟨_, rfl⟩
      have B3 : Hid (Below wr.heap.size wr w3) := by rw [e3]; exact below_alloc (Below.refl _ _) _
      have Y : Hid (w3.cell? ⟨wr.heap.size, 0, none⟩ = some (.int .i64 kind) ∧ w3.cell? ⟨wr.heap.size, 1, none⟩ = some (.int .i64 x) ∧ w3.cell? ⟨wr.heap.size, 2, none⟩ = some (.int .i64 y) ∧ w3.cell? ⟨wr.heap.size, 3, none⟩ = some (.slice ka kl kc)) := by rw [e3]; simp [Hid]
      have LT3 : Hid (wr.heap.size < w3.heap.size) := by rw [e3]; show _ < _; simp
      have D3 := hide (hdk.below B3.out)
      have H3 := hide (hh.below B3.out)
      have NL : Hid (¬ L.M wr.heap.size) := fun hm => by have := hdk.lt _ hm; omega
      have BW3 : Hid (Below w.heap.size w w3) := HB.out.trans (B3.out.mono NW.out)
      have N3 : Hid (w.heap.size ≤ w3.heap.size) := BW3.out.size
      have Q3 : Hid (Sq w3 ka kl kc ks) := HO.out.q.below BW3.out
      have KM : Hid (k < maxLen) := by show _ < _; unfold maxLen; omega
      clear hdk hL hp hh hf
      obtain ⟨y0, y1, y2, y3⟩ := Y.out
      rw [← HP.out]
      by_cases k1 : kind = 1
      · subst k1
        go_wp2_with fail
        rw [← e3]
        clear e3
        go_wp2_with fail
        refine (deliver_any D3.out x).mono ?_
        rintro e w4 ⟨p, rfl, hout, hmv⟩
        have PO := hide hout
        have FT : Hid (Fair l1 l2 (takeS s x).ps) := fair_less FR.out (take_less s x)
        have MV := hide (St.move LL.out H3.out hmv.mv N3.out (Nat.le_succ k) FT.out)
        have MS := hide hmv
        clear hout hmv
        by_cases hre : reachE s x = 0
        · rw [hre]
          have RE := hide hre
          clear hre
          obtain ⟨w5, e5⟩ : ∃ w5, w5 = w4.alloc (.cells #[.int .i64 p.f, .int .i64 p.t, .slice p.a p.n p.cp] 39) := ⟨_, rfl⟩
          have b5 : Below w4.heap.size w4 w5 := by rw [e5]; exact below_alloc (Below.refl _ _) _
          have g5 : w5.heap[w4.heap.size]? = some (.cells #[.int .i64 p.f, .int .i64 p.t, .slice p.a p.n p.cp] 39) := by rw [e5]; exact heap_alloc_new w4 _
          obtain ⟨L4, hn4, hp4, hm4, hr4⟩ := MS.out.2
          have hon4 : Hon w4 w.heap.size L4 (.slice a1 m1 c1) (.slice a2 m2 c2) m1 m2 l1 l2 := H3.out.same MS.out.1.size (fun q h1 h2 => MS.out.1.block q h1 h2) (fun q hq => .inl (hm4 q hq)) (fun q hq => .inl (hr4 q hq))
          have H5 := hide (hon4.below b5)
          have N5 := hide (hn4.below b5)
          have P5 := hide (PO.out.ins.below b5)
          have PD : Hid (∀ ad, p.a = some ad → ¬ L4.M ad.block ∧ (Value.slice a2 m2 c2).ownBlock ≠ some ad.block ∧ (Value.slice a1 m1 c1).ownBlock ≠ some ad.block) := fun ad e => by
            have hnew := PO.out.new ad e
            exact ⟨fun hx => by have := D3.out.lt _ (hm4 _ hx); omega, fun hx => by have := (H3.out.r2.lt _ hx).2; omega, fun hx => by have := (H3.out.r1.lt _ hx).2; omega⟩
          have P6 : Hid (p.n ≤ 16384) := by
            have h1 := D3.out.ok.body (takeP s x) (by unfold takeP; rw [if_pos RE.out]; exact mem_getD _ _ _ (reach_lt RE.out).2)
            rw [← PO.out.pk] at h1
            have h2 := PO.out.ins.1.length
            have h3 : p.b.length ≤ 16384 := h1
            show _ ≤ _
            omega
          have c5 : w5.cell? ⟨w4.heap.size, 0, none⟩ = some (.int .i64 p.f) := by rw [cell_of_row w5 _ 0 _ _ _ g5]; rfl
          have c6 : w5.cell? ⟨w4.heap.size, 1, none⟩ = some (.int .i64 p.t) := by rw [cell_of_row w5 _ 1 _ _ _ g5]; rfl
          have c7 : w5.cell? ⟨w4.heap.size, 2, none⟩ = some (.slice p.a p.n p.cp) := by rw [cell_of_row w5 _ 2 _ _ _ g5]; rfl
          have B5 : Hid (Below w.heap.size w w5) := (BW3.out.trans MV.out.2).trans (b5.mono (BW3.out.trans MV.out.2).size)
          have HP4 := hide hp4
          have HM4 := hide hm4
          have E5 := hide e5
          have hm2 := HM.out.2
          clear e5 b5 g5 hn4 hp4 hm4 hr4 hon4
          go_upto_region 15 with fail
          rw [← E5.out]
          go_wp2_with (at_builtin; refine wpList_append_own_at _ rfl (.tmp 77) (.tmp 79) 34 rfl w.heap.size 39 i0 (.agg zpk) 3 40 Try.underlying34 hi hz0 hz1 hz2 rfl (by omega) (.slice a2 m2 c2) m2 (pcells l2) rfl (H5.out.r2.alloc _) ⟨w5.heap.size, 0, none⟩ 1 1 [.int .i64 p.f, .int .i64 p.t, .slice p.a p.n p.cp] rfl rfl cells3 (by intro u hu; simp at hu; rcases hu with rfl | rfl | rfl <;> rfl) (by unfold maxLen; omega) (by omega) (by have := B5.out.size; simp; omega) ?_; intro v' w6 hown hgrow _ hloc; obtain ⟨g', cap', rfl⟩ := ownsRow_succ hown; have HPU := hide (H5.out.swap.push N5.out P5.out.ok P6.out (fun _ => PD.out) hown hgrow hloc); clear hown hgrow hloc)
          have ST : Hid (St w6 w.heap.size L.N (k + 1) (takeS s x) (.slice a1 m1 c1) (.slice (some ⟨g', 0, none⟩) (m2 + 1) cap') m1 (m2 + 1) l1 (l2 ++ [p])) := ⟨⟨L4, HPU.out.2.1.mono (Nat.le_succ k), HP4.out, fun j hj => LL.out j (HM4.out j hj), HPU.out.1.swap⟩, fair_come FR.out RE.out PO.out.pk⟩
          have B6 : Hid (Below w.heap.size w w6) := B5.out.trans (HPU.out.2.2.below B5.out.size (fun j hj => (H5.out.r2.lt j hj).1))
          clear HPU
          go_wp2_with fail
          go_roundw
          case rel => exact ⟨k + 1, takeS s x, a1, (some ⟨g', 0, none⟩), m1, c1, (m2 + 1), cap', l1, (l2 ++ [p]), by omega, by go_num, rfl, rfl, B6, ST, ⟨Nat.le_succ_of_le HM.out.1, Nat.succ_le_succ HM.out.2⟩⟩
          case measure => simp [intOf]; omega
        · have hx : (reachE s x == 0) = false := by simpa using hre
          have hx2 : (reachE s x = 0) = False := by simpa using hre
          have B5 : Hid (Below w.heap.size w (w4.alloc (.cells #[.int .i64 p.f, .int .i64 p.t, .slice p.a p.n p.cp] 39))) := below_alloc (BW3.out.trans MV.out.2) _
          have S5 : Hid (St (w4.alloc (.cells #[.int .i64 p.f, .int .i64 p.t, .slice p.a p.n p.cp] 39)) w.heap.size L.N (k + 1) (takeS s x) (.slice a1 m1 c1) (.slice a2 m2 c2) m1 m2 l1 l2) := MV.out.1.below (below_alloc (Below.refl _ _) _)
          generalize reachE s x = re at *
          clear hre
          go_wp2_with fail
          go_roundw
          case rel => exact ⟨k + 1, takeS s x, a1, a2, m1, c1, m2, c2, l1, l2, by omega, by go_num, rfl, rfl, B5, S5, ⟨Nat.le_succ_of_le HM.out.1, Nat.le_succ_of_le HM.out.2⟩⟩
          case measure => simp [intOf]; omega
      · have z1 : (kind == 1) = false := by simpa using k1
        by_cases k2 : kind = 2
        · subst k2
          go_wp2_with fail
          rw [← e3]
          clear e3
          go_wp2_with fail
          refine (drop_any D3.out x).mono ?_
          rintro e w4 ⟨rfl, hmv⟩
          have MV := hide (St.move LL.out H3.out hmv.mv N3.out (Nat.le_succ k) (fair_less FR.out (take_less s x)))
          clear hmv
          go_wp2_with fail
          go_roundw
          case rel => exact ⟨k + 1, takeS s x, a1, a2, m1, c1, m2, c2, l1, l2, by omega, by go_num, rfl, rfl, BW3.out.trans MV.out.2, MV.out.1, ⟨Nat.le_succ_of_le HM.out.1, Nat.le_succ_of_le HM.out.2⟩⟩
          case measure => simp [intOf]; omega
        · have z2 : (kind == 2) = false := by simpa using k2
          by_cases k3 : kind = 3
          · subst k3
            go_wp2_with fail
            rw [← e3]
            clear e3
            go_wp2_with fail
            refine (list_net D3.out).mono ?_
            rintro e w4 ⟨al, cl, ll, rfl, hrow, hmap, hown4, hb4⟩
            have D4 := hide (D3.out.below hb4)
            have H4 := hide (H3.out.below hb4)
            have B4 : Hid (Below w.heap.size w w4) := BW3.out.trans (hb4.mono N3.out)
            have RW := hide hrow
            have MP := hide hmap
            have OW := hide hown4
            have BB4 := hide hb4
            have cc4 : ∀ q, w4.cell? ⟨wr.heap.size, q, none⟩ = w3.cell? ⟨wr.heap.size, q, none⟩ := fun q => World.cell?_of_block (a := ⟨wr.heap.size, q, none⟩) (hb4.block _ LT3.out)
            have u1 := (cc4 _).trans y1
            clear hrow hmap hown4 hb4 cc4
            go_wp2_with fail
            refine (double_any D4.out x).mono ?_
            rintro e w5 ⟨rfl, hmv⟩
            have MS := hide hmv
            clear hmv
            by_cases he : dblE s x = 0
            · rw [he]
              obtain ⟨hr0, hlen⟩ := dbl_lt he
              obtain ⟨hx0, hx1⟩ := reach_lt hr0
              have dS : dblS s x = { s with ps := s.ps ++ [s.ps.getD x.toNat zPk] } := by unfold dblS; rw [if_pos he]
              have hlm : L.m = s.ps.length := by rw [D3.out.ps, List.length_map]; exact D3.out.len
              obtain ⟨kx, rfl⟩ : ∃ kx : Nat, x = (kx : Int) := ⟨x.toNat, by omega⟩
              have hkx : kx < L.m := by rw [hlm]; simpa using hx1
              have lt : Lst w4 al L.m ll := lst_of_row RW.out (fun p hp => (OW.out p hp).ins.ok) (fun p hp => by
                have h1 := D3.out.ok.body p.pk (by rw [← MP.out]; exact List.mem_map.2 ⟨p, hp, rfl⟩)
                have h2 := (OW.out p hp).ins.1.length
                have h3 : p.b.length ≤ 16384 := h1
                omega)
              have hkl : kx < ll.length := by rw [lt.len]; exact hkx
              obtain ⟨q, hq⟩ : ∃ q, ll[kx]? = some q := ⟨ll[kx], by simp [hkl]⟩
              have hqm : q ∈ ll := List.mem_of_getElem? hq
              have hqs : s.ps.getD kx zPk = q.pk := by
                rw [← MP.out, List.getD, List.getElem?_map, hq]
                rfl
              have DS : Hid (dblS s (kx : Int) = { s with ps := s.ps ++ [q.pk] }) := by show _ = _; rw [dS, show (kx : Int).toNat = kx by omega, hqs]
              obtain ⟨gl, rfl, hgl, hcl⟩ := lt.cells (by omega)
              obtain ⟨q0, q1, q2⟩ := hcl kx q hq
              have glo : w3.heap.size ≤ gl := (RW.out.lt gl rfl).1
              have og : w5.heap[gl]? = w4.heap[gl]? := MS.out.1.block gl hgl (fun hm => by have := D3.out.lt gl hm; omega)
              have cg : ∀ z, w5.cell? ⟨gl, z, none⟩ = w4.cell? ⟨gl, z, none⟩ := fun z => World.cell?_of_block (a := ⟨gl, z, none⟩) og
              have v0 := (cg _).trans q0
              have v1 := (cg _).trans q1
              have v2 := (cg _).trans q2
              have cc5 : ∀ z, w5.cell? ⟨wr.heap.size, z, none⟩ = w4.cell? ⟨wr.heap.size, z, none⟩ := fun z => World.cell?_of_block (a := ⟨wr.heap.size, z, none⟩) (MS.out.1.block _ (Nat.lt_of_lt_of_le LT3.out BB4.out.size) NL.out)
              have u5 := (cc5 _).trans u1
              obtain ⟨L5, hn5, hp5, hM5, hR5, hon5⟩ := H4.out.net MS.out
              obtain ⟨gb, eb1, eb2, eb3, eb4⟩ := OW.out q hqm
              have B5 : Hid (Below w.heap.size w w5) := B4.out.trans (MS.out.1.below B4.out.size (fun z hz => LL.out z hz))
              have gbl : gb < w4.heap.size := (Array.getElem?_eq_some_iff.1 eb3.row).1
              have QI : Hid (q.In w5) := (OW.out q hqm).ins.same MS.out.1.size (fun ad e => by
                rw [eb1] at e
                obtain rfl := Option.some.inj e
                exact MS.out.1.block gb gbl (fun hm => by have := D3.out.lt gb hm; omega))
              have QN := hide (lt.short q hqm)
              have LL5 : Hid (∀ j, L5.M j → w.heap.size ≤ j) := fun j hj => by
                rcases hM5 j hj with h | h
                · exact LL.out j h
                · have := B4.out.size; omega
              have QD : Hid (∀ ad, q.a = some ad → ¬ L5.M ad.block ∧ (Value.slice a1 m1 c1).ownBlock ≠ some ad.block ∧ (Value.slice a2 m2 c2).ownBlock ≠ some ad.block) := fun ad e => by
                rw [eb1] at e
                obtain rfl := Option.some.inj e
                refine ⟨fun hx => ?_, fun hx => ?_, fun hx => ?_⟩
                · rcases hM5 _ hx with h | h
                  · have := D3.out.lt _ h; simp at this; omega
                  · simp at h; omega
                · have := (H3.out.r1.lt _ hx).2; simp at this; omega
                · have := (H3.out.r2.lt _ hx).2; simp at this; omega
              have H5 := hide hon5
              have N5 := hide hn5
              have HP5 := hide hp5
              have hm1 := HM.out.1
              have z5 : (0 : Int) ≤ (kx : Int) := by omega
              have z6 : (kx : Int) < (L.m : Int) := by omega
              clear he hr0 hlen hx0 hx1 dS hlm hkx lt hkl hq hqm hqs hgl hcl q0 q1 q2 glo og cg cc5 hn5 hp5 hM5 hR5 hon5 eb1 eb2 eb3 eb4 gbl y0 y1 y2 y3 u1
              go_upto_region 23 with fail
              go_wp2_with (at_builtin; refine wpList_append_own_at _ rfl (.tmp 113) (.tmp 119) 34 rfl w.heap.size 39 i0 (.agg zpk) 3 40 Try.underlying34 hi hz0 hz1 hz2 rfl (by omega) (.slice a1 m1 c1) m1 (pcells l1) rfl (H5.out.r1.alloc _) ⟨w5.heap.size, 0, none⟩ 1 1 [.int .i64 q.f, .int .i64 q.t, .slice q.a q.n q.cp] rfl rfl cells3 (by intro u hu; simp at hu; rcases hu with rfl | rfl | rfl <;> rfl) (by unfold maxLen; omega) (by omega) (by have := B5.out.size; simp; omega) ?_; intro v' w6 hown hgrow _ hloc; obtain ⟨g', cap', rfl⟩ := ownsRow_succ hown; have HPU := hide (H5.out.push N5.out QI.out.ok QN.out (fun _ => QD.out) hown hgrow hloc); clear hown hgrow hloc)
              have ST : Hid (St w6 w.heap.size L.N (k + 1) (dblS s (kx : Int)) (.slice (some ⟨g', 0, none⟩) (m1 + 1) cap') (.slice a2 m2 c2) (m1 + 1) m2 (l1 ++ [q]) l2) := ⟨⟨L5, HPU.out.2.1.mono (Nat.le_succ k), HP5.out, LL5.out, HPU.out.1⟩, by rw [DS.out]; exact fair_way FR.out q⟩
              have B6 : Hid (Below w.heap.size w w6) := B5.out.trans (HPU.out.2.2.below B5.out.size (fun j hj => (H5.out.r1.lt j hj).1))
              clear HPU
              go_wp2_with fail
              go_roundw
              case rel => exact ⟨k + 1, _, _, a2, _, _, m2, c2, _, l2, by omega, by go_num, rfl, rfl, B6, ST, ⟨Nat.succ_le_succ HM.out.1, Nat.le_succ_of_le HM.out.2⟩⟩
              case measure => simp [intOf]; omega
            · have hx : (dblE s x == 0) = false := by simpa using he
              have hx2 : (dblE s x = 0) = False := by simpa using he
              have ms := MS.out
              rw [show dblS s x = s by unfold dblS; rw [if_neg he]] at ms
              have MV := hide (St.move LL.out H4.out ms B4.out.size (Nat.le_succ k) FR.out)
              clear MS ms
              generalize dblE s x = re at *
              clear he
              go_wp2_with fail
              go_roundw
              case rel => exact ⟨k + 1, s, a1, a2, m1, c1, m2, c2, l1, l2, by omega, by go_num, rfl, rfl, B4.out.trans MV.out.2, MV.out.1, ⟨Nat.le_succ_of_le HM.out.1, Nat.le_succ_of_le HM.out.2⟩⟩
              case measure => simp [intOf]; omega
          · have z3 : (kind == 3) = false := by simpa using k3
            by_cases k4 : kind = 4
            · subst k4
              go_wp2_with fail
              rw [← e3]
              clear e3
              go_wp2_with fail
              refine (cut_any D3.out KM.out x y).mono ?_
              rintro e w4 ⟨rfl, hmv⟩
              have MV := hide (St.move LL.out H3.out hmv N3.out (Nat.le_refl _) (by rw [cut_same]; exact FR.out))
              clear hmv
              go_wp2_with fail
              go_roundw
              case rel => exact ⟨k + 1, cutS s x y, a1, a2, m1, c1, m2, c2, l1, l2, by omega, by go_num, rfl, rfl, BW3.out.trans MV.out.2, MV.out.1, ⟨Nat.le_succ_of_le HM.out.1, Nat.le_succ_of_le HM.out.2⟩⟩
              case measure => simp [intOf]; omega
            · have z4 : (kind == 4) = false := by simpa using k4
              by_cases k5 : kind = 5
              · subst k5
                go_wp2_with fail
                rw [← e3]
                clear e3
                go_wp2_with fail
                refine (heal_any D3.out).mono ?_
                rintro e w4 ⟨rfl, hmv⟩
                have MV := hide (St.move LL.out H3.out hmv N3.out (Nat.le_succ k) (FR.out))
                clear hmv
                go_wp2_with fail
                go_roundw
                case rel => exact ⟨k + 1, healS s, a1, a2, m1, c1, m2, c2, l1, l2, by omega, by go_num, rfl, rfl, BW3.out.trans MV.out.2, MV.out.1, ⟨Nat.le_succ_of_le HM.out.1, Nat.le_succ_of_le HM.out.2⟩⟩
                case measure => simp [intOf]; omega
              · have z5 : (kind == 5) = false := by simpa using k5
                go_wp2_with fail
                rw [← e3]
                clear e3
                go_wp2_with fail
                refine (send_any D3.out x y Q3.out).mono ?_
                rintro e w4 ⟨rfl, hmv⟩
                have MS := hide hmv
                clear hmv
                by_cases he : sendE s x y ks = 0
                · rw [he]
                  have SH := hide (send_short he)
                  obtain ⟨L4, hn4, hp4, hM4, hR4, hon4⟩ := H3.out.net MS.out
                  have o4 : w4.heap[wr.heap.size]? = w3.heap[wr.heap.size]? := MS.out.1.block _ LT3.out NL.out
                  have cc : ∀ q, w4.cell? ⟨wr.heap.size, q, none⟩ = w3.cell? ⟨wr.heap.size, q, none⟩ := fun q => World.cell?_of_block (a := ⟨wr.heap.size, q, none⟩) o4
                  have t1 := (cc _).trans y1
                  have t2 := (cc _).trans y2
                  have t3 := (cc _).trans y3
                  have B4 : Hid (Below w.heap.size w w4) := BW3.out.trans (MS.out.1.below N3.out (fun q hq => LL.out q hq))
                  have Q4 : Hid ((⟨x, y, ka, kl, kc, ks⟩ : Pv).Ok w4) := ⟨HO.out.q.below B4.out, fun h0 ad e => by
                    obtain ⟨b2, off2, e2, _⟩ := HO.out.q.cells h0
                    have e3 : (⟨b2, off2, none⟩ : Addr) = ad := Option.some.inj (e2.symm.trans e)
                    have := HO.out.lt h0 b2 off2 e2
                    rw [← e3]
                    exact Nat.lt_of_lt_of_le this B4.out.size⟩
                  have LL4 : Hid (∀ j, L4.M j → w.heap.size ≤ j) := fun j hj => by
                    rcases hM4 j hj with h | h
                    · exact LL.out j h
                    · have := N3.out; omega
                  have Q5 : Hid ((⟨x, y, ka, kl, kc, ks⟩ : Pv).n ≤ 16384) := by
                    have h1 := HO.out.q.length
                    have h2 := SH.out
                    show kl ≤ 16384
                    have h3 : ks.length = kl := h1
                    omega
                  have H4 := hide hon4
                  have N4 := hide hn4
                  have HP4 := hide hp4
                  have QD : Hid (0 < kl → ∀ ad, ka = some ad → ¬ L4.M ad.block ∧ (Value.slice a1 m1 c1).ownBlock ≠ some ad.block ∧ (Value.slice a2 m2 c2).ownBlock ≠ some ad.block) := fun h0 ad e => by
                    obtain ⟨b2, off2, e2, _⟩ := HO.out.q.cells h0
                    have e3 : (⟨b2, off2, none⟩ : Addr) = ad := Option.some.inj (e2.symm.trans e)
                    have hlt2 := HO.out.lt h0 b2 off2 e2
                    rw [← e3]
                    exact ⟨fun hx => by have := LL4.out _ hx; simp at this; omega, fun hx => by have := (H4.out.r1.lt _ hx).1; simp at this; omega, fun hx => by have := (H4.out.r2.lt _ hx).1; simp at this; omega⟩
                  have hm1 := HM.out.1
                  clear he o4 cc hn4 hp4 hM4 hR4 hon4 y0 y1 y2 y3
                  go_upto_region 11 with fail
                  go_wp2_with (at_builtin; refine wpList_append_own_at _ rfl (.tmp 56) (.tmp 64) 34 rfl w.heap.size 39 i0 (.agg zpk) 3 40 Try.underlying34 hi hz0 hz1 hz2 rfl (by omega) (.slice a1 m1 c1) m1 (pcells l1) rfl (H4.out.r1.alloc _) ⟨w4.heap.size, 0, none⟩ 1 1 [.int .i64 x, .int .i64 y, .slice ka kl kc] rfl rfl cells3 (by intro u hu; simp at hu; rcases hu with rfl | rfl | rfl <;> rfl) (by unfold maxLen; omega) (by omega) (by have := B4.out.size; simp; omega) ?_; intro v' w6 hown hgrow _ hloc; obtain ⟨g', cap', rfl⟩ := ownsRow_succ hown; have HPU := hide (H4.out.push N4.out Q4.out Q5.out QD.out hown hgrow hloc); clear hown hgrow hloc)
                  have ST : Hid (St w6 w.heap.size L.N (k + 1) (sendS s x y ks) (.slice (some ⟨g', 0, none⟩) (m1 + 1) cap') (.slice a2 m2 c2) (m1 + 1) m2 (l1 ++ [⟨x, y, ka, kl, kc, ks⟩]) l2) := ⟨⟨L4, HPU.out.2.1.mono (Nat.le_succ k), HP4.out, LL4.out, HPU.out.1⟩, send_fair FR.out rfl⟩
                  have B6 : Hid (Below w.heap.size w w6) := B4.out.trans (HPU.out.2.2.below B4.out.size (fun j hj => (H4.out.r1.lt j hj).1))
                  clear HPU
                  go_wp2_with fail
                  go_roundw
                  case rel => exact ⟨k + 1, _, _, a2, _, _, m2, c2, _, l2, by omega, by go_num, rfl, rfl, B6, ST, ⟨Nat.succ_le_succ HM.out.1, Nat.le_succ_of_le HM.out.2⟩⟩
                  case measure => simp [intOf]; omega
                · have hx : (sendE s x y ks == 0) = false := by simpa using he
                  have hx2 : (sendE s x y ks = 0) = False := by simpa using he
                  have ms := MS.out
                  rw [send_no he] at ms
                  have MV := hide (St.move LL.out H3.out ms N3.out (Nat.le_succ k) FR.out)
                  clear MS ms
                  generalize sendE s x y ks = re at *
                  clear he
                  go_wp2_with fail
                  go_roundw
                  case rel => exact ⟨k + 1, s, a1, a2, m1, c1, m2, c2, l1, l2, by omega, by go_num, rfl, rfl, BW3.out.trans MV.out.2, MV.out.1, ⟨Nat.le_succ_of_le HM.out.1, Nat.le_succ_of_le HM.out.2⟩⟩
                  case measure => simp [intOf]; omega
    · obtain rfl : k = len := by omega
      obtain ⟨⟨L, hdk, hp, hL, hh⟩, hf⟩ := HS.out
      have T1 : Hid (Lst wr a1 m1 l1) := lst_of_row hh.r1 (fun p hp => (hh.ins p (.inl hp)).1) (fun p hp => (hh.ins p (.inl hp)).2)
      have T2 : Hid (Lst wr a2 m2 l2) := lst_of_row hh.r2 (fun p hp => (hh.ins p (.inr hp)).1) (fun p hp => (hh.ins p (.inr hp)).2)
      have FR : Hid (∀ x, cntP l2 x ≤ cntP l1 x) := fun x => by have := hf x; omega
      have M1 : Hid (m1 ≤ 9000000000000) := by have := HM.out.1; show _ ≤ _; omega
      have M2 : Hid (m2 ≤ 9000000000000) := by have := HM.out.2; show _ ≤ _; omega
      have hm2 := M2.out
      obtain ⟨wz, ez⟩ : ∃ wz, wz = wr := ⟨_, rfl⟩
      rw [← ez] at T1 T2
      have EZ := hide ez
      have BZ : Hid (Below w.heap.size w wz) := by rw [ez]; exact HB.out
      clear hdk hp hL hh hf HS HB ez hlt hk
      go_wp2_with fail
      go_loopw [15] (fun i wq => ∃ j : Nat, j ≤ m2 ∧ i = .int .i64 j ∧ Hid (Below wz.heap.size wz wq)) (fun i _ => m2 - (intOf i).toNat)
      case atStart => exact ⟨0, Nat.zero_le _, rfl, by rw [EZ.out]; exact Below.refl _ _⟩
      case round =>
        clear EZ
        obtain ⟨j, hj, rfl, HQ⟩ := hrel
        by_cases hjl : j < m2
        · have hkl : j < l2.length := by have := T2.out.len; omega
          obtain ⟨q, hq⟩ : ∃ q, l2[j]? = some q := ⟨l2[j], by simp [hkl]⟩
          have hqm : q ∈ l2 := List.mem_of_getElem? hq
          obtain ⟨g, rfl, hg, hc⟩ := T2.out.cells (by omega)
          obtain ⟨k0, k1, k2⟩ := hc j q hq
          have cg : ∀ o, wr.cell? ⟨g, o, none⟩ = wz.cell? ⟨g, o, none⟩ := fun o => World.cell?_of_block (a := ⟨g, o, none⟩) (HQ.out.block g hg)
          have c0 := (cg _).trans k0
          have c1' := (cg _).trans k1
          have c2' := (cg _).trans k2
          have QN := hide (T2.out.short q hqm)
          have QI := hide (T2.out.ins q hqm)
          have S2 : Hid (∀ y : World, Below wz.heap.size wz y → Calls Try.prog 22 #[.slice (some ⟨g, 0, none⟩) m2 c2, .agg #[.int .i64 q.f, .int .i64 q.t, .slice q.a q.n q.cp]] y fun e w' => e = .returned (.int .i64 (cntP l2 q.pk)) ∧ Below y.heap.size y w') := fun y hy => count_any (T2.out.below hy) M2.out (QI.out.below hy) QN.out
          have S1 : Hid (∀ y : World, Below wz.heap.size wz y → Calls Try.prog 22 #[.slice a1 m1 c1, .agg #[.int .i64 q.f, .int .i64 q.t, .slice q.a q.n q.cp]] y fun e w' => e = .returned (.int .i64 (cntP l1 q.pk)) ∧ Below y.heap.size y w') := fun y hy => count_any (T1.out.below hy) M1.out (QI.out.below hy) QN.out
          have hle : (cntP l2 q.pk : Int) ≤ (cntP l1 q.pk : Int) := by have := FR.out q.pk; omega
          have i1 : (j : Int) < (m2 : Int) := by omega
          have i2 : (0 : Int) ≤ (j : Int) := by omega
          clear k0 k1 k2 hc cg hq hqm hkl
          go_wp2_with fail
          refine wp_region_cells wz [(⟨g, j * 3, none⟩, .int .i64 q.f), (⟨g, j * 3 + 1, none⟩, .int .i64 q.t), (⟨g, j * 3 + 2, none⟩, .slice q.a q.n q.cp)] (by kernel_rfl) (by kernel_rfl) HQ.out (by simp [AllCells, c0, c1', c2']) ?_
          intro hne qq
          simp only [AllCells, and_true] at qq
          clear c0 c1' c2'
          repeat (go_big_quiet_step (first | (go_at_call_of 22 (Value.slice (some ⟨g, 0, none⟩) m2 c2); exact Held.call _ (S2.out _ (Held.below _))) | (go_at_call_of 22 (Value.slice a1 m1 c1); exact Held.call _ (S1.out _ (Held.below _)))))
          refine wpQuiet_nil ?_
          rintro _ ⟨y, rfl⟩
          have BQ : Hid (Below wz.heap.size wz y.x) := y.below
          clear qq hne S1 S2
          go_wp2_with fail
          go_roundw
          case rel => exact ⟨j + 1, by omega, by go_num, BQ⟩
          case measure => simp [intOf]; omega
        · obtain rfl : j = m2 := by omega
          go_wp2_with fail
          go_ret
          exact ⟨rfl, BZ.out.trans (HQ.out.mono BZ.out.size)⟩

set_option maxRecDepth 100000 in
theorem lifted (os : Os) (started : os.Started) (H : Type) (enc : TypeId × Value → H) :
    ReturnsInHanded {} Try.checked os 4 .any (Rows.netHonestSpec.pre6 enc Try.prog Try.f4 Rows.netHonestRow.domain false) (Rows.netHonestSpec.post enc Try.prog Try.f4 false true false false) := by
  refine returnsInHanded_of_change_sized (C := Try.checked) own started (by kernel_rfl) Try.func4
    (ChangeSpec.witness6 (enc := enc) (C := Try.checked) false ⟨#[], #[.int .i64 0, .slice none 0 0], []⟩ 8 (by kernel_rfl) (by kernel_rfl) (by kernel_rfl) (by kernel_rfl)) ?_
  intro W base args ds gs before hval0 hW hcnd hsz0 _
  have hsz : (DataW.weightsEach Try.prog (Try.f4.params.toList ++ Rows.netHonestSpec.plain.varTypes Try.prog) (ds ++ gs)).all (· ≤ reachBytes) = true := hsz0
  have hval : ∀ (j : Nat) t v, Try.f4.params[j]? = some t → args[j]? = some v → Value.okWide Try.prog W .any base t v := hval0
  have hW' := hW
  obtain ⟨p, q, hA0, hV, rfl, hfz, hnd⟩ := hW
  have hA : DataW.TrodAll enc Try.prog W 0 (fun _ => true) true Try.f4.params.toList args.toList ds p := hA0
  rw [Try.params4] at hA hval hsz
  obtain ⟨v0, vs0, d0, ds0, p0, q0, hargs, rfl, rfl, h0, r0⟩ := trodAll_cons hA
  obtain ⟨v1, vs1, d1, ds1, p1, q1, rfl, rfl, rfl, h1, r1⟩ := trodAll_cons r0
  obtain ⟨rfl, rfl, rfl⟩ := trodAll_nil r1
  obtain rfl : args = #[v0, v1] := by cases args; simp_all
  obtain ⟨rfl, rfl⟩ := trodVars_none hV
  have lt0 : ∀ x ∈ p0, x.block < W.heap.size := by obtain ⟨m, hm⟩ := h0; exact DataW.trod_lt m _ _ _ hm
  obtain ⟨b, rfl, bb⟩ := open_i64 (hval 0 3 v0 rfl rfl) h0
  have lt1 : ∀ x ∈ p1, x.block < W.heap.size := by obtain ⟨m, hm⟩ := h1; exact DataW.trod_lt m _ _ _ hm
  obtain ⟨a, len, cap, os, rfl, ho⟩ := open_ops_held (hval 1 22 v1 rfl rfl) h1 (fun n hn => by have h := List.all_eq_true.1 hsz n (DataW.weights_mem_each (j := 1) rfl rfl n hn); simpa using h)
  clear hA0 hval0
  refine (walk ho b).mono fun e W' ⟨he, bel⟩ => ?_
  subst he
  exact ⟨_, rfl, _, _, _, [], _, [], hW', trodAll_mk1 (shut_bool Try.underlying4 _), (trodAll_cons_mk (Below.trod laidOut (by kernel_rfl) (of_decide_eq_true (by kernel_rfl)) h0 bel lt0) (trodAll_cons_mk (Below.trod laidOut (by kernel_rfl) (of_decide_eq_true (by kernel_rfl)) h1 bel lt1) trodAll_mk0)), rfl, bel.frame _, fun h => by cases h⟩

theorem over : Rows.netHonestRow.holds Try.pinned (OpenSpec.ofChange Rows.netHonestSpec) :=
  OpenClaim.holds_of_wide 4 Try.f4 rfl rfl rfl rfl rfl rfl rfl ⟨rfl, rfl, rfl, rfl, rfl⟩ rfl rfl rfl rfl rfl (by kernel_rfl) Try.func4 (by kernel_rfl)
    (of_decide_eq_true (by kernel_rfl)) (by unfold Func.isWrapper; first | (rw [if_pos (by decide +kernel)]; kernel_rfl) | (rw [if_neg (by decide +kernel)]; exact ⟨rfl, rfl⟩))
    (fun os started H enc _ => lifted os started H enc)

theorem proved : Rows.NetHonestSaid := over
#print axioms proved
end NetHonest
theorem netHonest_holds : Rows.NetHonestSaid := NetHonest.proved
end Go.Proofs.Ytbgejpkkocedbaa
