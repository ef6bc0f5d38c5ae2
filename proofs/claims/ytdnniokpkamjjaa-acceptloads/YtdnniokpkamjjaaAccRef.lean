/- The document's acceptor in memory: New, From, Prepare, Forget. No condition. -/
import Derived.Test.YtdnniokpkamjjaaAccCalls
namespace Go.Proofs.Ytdnniokpkamjjaa
open Go.ChangeShapes Go.WideShapes Go.ChangeAt Go.RowKit B8 Am
set_option linter.unusedVariables false

/-- one vote more in a list whose values lie ahead of it -/
theorem vl_push {w : World} {B : Nat} {P : Nat → Prop} {a : Option Addr} {m c : Nat} {l : List Vv} (h : Vl w B P a m c l) (hm : m ≤ 4000000000000) (hB : B ≤ w.heap.size) (hPB : ∀ k, P k → k < B) {p : Vv} (hp : p.In w P) (ty : TypeId) :
    ∃ g cp w', (Builtin.append_ #[35, 35] ty #[.slice a m c, .slice (some ⟨w.heap.size, 0, none⟩) 1 1]).run Try.prog (w.alloc (.cells #[.int .i64 p.s, .int .i64 p.r, .int .i64 p.n, .slice p.a p.m p.cp] 48)) = .ok (.slice (some ⟨g, 0, none⟩) (m + 1) cp) w'
      ∧ Vl w' B P (some ⟨g, 0, none⟩) (m + 1) cp (l ++ [p]) ∧ Chg (fun k => (Value.slice a m c).ownBlock = some k) w w' ∧ Below B w w' ∧ ((Value.slice a m c).ownBlock = some g ∨ w.heap.size ≤ g) := by
  obtain ⟨g, cp, w', hr, ho, hc, hb, hl⟩ := vl_add h hm hB hp ty
  refine ⟨g, cp, w', hr, vl_added h hp ho hc (fun q hq h0 ad e e2 => ?_), hc, hb, hl⟩
  have h1 := (h.row.lt _ e2).1
  have h2 : P ad.block := by
    rcases hq with hq | rfl
    · exact (h.ins q hq).2 h0 ad e
    · exact hp.2 h0 ad e
  have := hPB _ h2
  omega
def rrow (s : As) (a : Option Addr) (m c : Nat) : Array Value := #[.int .i64 s.pr, .int .i64 s.pn, .int .i64 s.first, .slice a m c]
/-- the document's acceptor at R, its values in blocks of Q -/
structure Rf0 (w : World) (Q : Nat → Prop) (R : Nat) (s : As) (a : Option Addr) (m c : Nat) (l : List Vv) : Prop where
  row : w.heap[R]? = some (.cells (rrow s a m c) 37 (0, 0))
  vl : Vl w 0 Q a m c l
  vs : s.vs = l.map Vv.vt
  ok : Ok s
def Rf (w : World) (Q : Nat → Prop) (R : Nat) (s : As) : Prop := ∃ a m c l, Rf0 w Q R s a m c l
section
variable {w w' : World} {Q M : Nat → Prop} {R : Nat} {s : As} {a : Option Addr} {m c : Nat} {l : List Vv}
theorem Rf0.ltR (h : Rf0 w Q R s a m c l) : R < w.heap.size := (Array.getElem?_eq_some_iff.1 h.row).1
theorem Rf0.noB (h : Rf0 w Q R s a m c l) : NoB w R := NoB.of_row h.row (fun v hv x e => by subst e; simp [rrow] at hv)
theorem Rf0.noV (h : Rf0 w Q R s a m c l) : NoV w R := NoV.of_row h.row (by decide)
theorem Rf0.c0 (h : Rf0 w Q R s a m c l) : w.cell? ⟨R, 0, none⟩ = some (.int .i64 s.pr) := by rw [cell_of_row _ _ _ _ _ _ h.row]; rfl
theorem Rf0.c1 (h : Rf0 w Q R s a m c l) : w.cell? ⟨R, 1, none⟩ = some (.int .i64 s.pn) := by rw [cell_of_row _ _ _ _ _ _ h.row]; rfl
theorem Rf0.c2 (h : Rf0 w Q R s a m c l) : w.cell? ⟨R, 2, none⟩ = some (.int .i64 s.first) := by rw [cell_of_row _ _ _ _ _ _ h.row]; rfl
theorem Rf0.c3 (h : Rf0 w Q R s a m c l) : w.cell? ⟨R, 3, none⟩ = some (.slice a m c) := by rw [cell_of_row _ _ _ _ _ _ h.row]; rfl
theorem Rf0.f (h : Rf0 w Q R s a m c l) (o : Nat) : w.frozen? ⟨R, o, none⟩ = false := by simp [World.frozen?, h.row]
theorem Rf0.m16 (h : Rf0 w Q R s a m c l) : m ≤ 16 := by have h1 := length_le h.ok; rw [h.vs] at h1; simp at h1; have := h.vl.len; omega
theorem Rf0.below (h : Rf0 w Q R s a m c l) (hb : Below w.heap.size w w') : Rf0 w' Q R s a m c l := ⟨(hb.block _ h.ltR).trans h.row, h.vl.below hb, h.vs, h.ok⟩
theorem Rf0.chg (h : Rf0 w Q R s a m c l) (hc : Chg M w w') (hM : ∀ k, M k → k ≠ R ∧ NoV w k ∧ (¬ Q k ∨ NoB w k)) : Rf0 w' Q R s a m c l :=
  ⟨(hc.block _ h.ltR (fun hm => (hM _ hm).1 rfl)).trans h.row, h.vl.chg hc (fun k hk => (hM k hk).2), h.vs, h.ok⟩
theorem Vl.drew (h : Vl w 0 Q a m c l) : Vl w.drew 0 Q a m c l := ⟨row_same h.row (fun _ _ => rfl), h.len, fun p hp => (h.ins p hp).same (fun _ _ _ => rfl)⟩
theorem Rf0.drew (h : Rf0 w Q R s a m c l) : Rf0 w.drew Q R s a m c l := ⟨h.row, h.vl.drew, h.vs, h.ok⟩
theorem Rf0.drewN (h : Rf0 w Q R s a m c l) (n : Nat) : Rf0 (w.drewN n) Q R s a m c l := ⟨h.row, ⟨row_same h.vl.row (fun _ _ => rfl), h.vl.len, fun p hp => (h.vl.ins p hp).same (fun _ _ _ => rfl)⟩, h.vs, h.ok⟩
/-- its cells are written anew -/
theorem Rf0.write (h : Rf0 w Q R s a m c l) {s' : As} {a' : Option Addr} {m' c' : Nat} {l' : List Vv} (hv : Vl w 0 Q a' m' c' l') (he : s'.vs = l'.map Vv.vt) (hok : Ok s') (hc : Chg (fun k => k = R) w w') (hr : w'.heap[R]? = some (.cells (rrow s' a' m' c') 37 (0, 0))) : Rf0 w' Q R s' a' m' c' l' :=
  ⟨hr, hv.chg hc (fun k hk => by rw [hk]; exact ⟨h.noV, .inr h.noB⟩), he, hok⟩
end
/-- what a call on the document's acceptor leaves -/
def RMv (w : World) (Q : Nat → Prop) (R : Nat) (s : As) (w' : World) : Prop := Chg (fun k => k = R) w w' ∧ Rf w' Q R s
theorem rnew_any (w : World) :
    Calls Try.prog 10 #[] w fun e w' => e = .returned (.pointer (some ⟨w.heap.size, 0, none⟩)) ∧ Below w.heap.size w w' ∧ ∀ Q, Rf w' Q w.heap.size newS := by
  go_enter Try.func10, Try.ntmps10
  go_wp2_with fail
  go_ret
  exact ⟨rfl, below_alloc (Below.refl _ _) _, fun Q => ⟨none, 0, 0, [], heap_alloc_new w _, vl_nil _ _ _, rfl, ok_new⟩⟩
theorem fromL_snoc (vs : List Vt) (v : Vt) (f : Int) : fromL (vs ++ [v]) f = if f ≤ v.s then fromL vs f ++ [v] else fromL vs f := by
  unfold fromL
  rw [List.filter_append]
  by_cases h : f ≤ v.s
  · rw [if_pos h]; simp [h]
  · rw [if_neg h]; simp [h]
set_option maxRecDepth 100000 in
set_option maxHeartbeats 1000000 in
theorem rfrom_any {w : World} {Q : Nat → Prop} {R : Nat} {s : As} {a : Option Addr} {m c : Nat} {l : List Vv} (h : Rf0 w Q R s a m c l) (f : Int) :
    Calls Try.prog 44 #[.pointer (some ⟨R, 0, none⟩), .int .i64 f] w fun e w' => ∃ a' m' c' l', e = .returned (.slice a' m' c') ∧ Below w.heap.size w w' ∧ Vl w' w.heap.size Q a' m' c' l' ∧ l'.map Vv.vt = fromL s.vs f := by
  have H := hide h
  have RM := h.m16
  have LN := hide h.vl.len
  clear h
  go_enter Try.func44, Try.ntmps44
  go_wp2_with fail
  go_loopw [5, 6] (fun t i wr => ∃ (k : Nat) (a1 : Option Addr) (m1 c1 : Nat) (l1 : List Vv), k ≤ m ∧ i = .int .i64 k ∧ t = .slice a1 m1 c1 ∧ Hid (Below w.heap.size w wr) ∧ Hid (Vl wr w.heap.size (fun j => Q j ∧ j < w.heap.size) a1 m1 c1 l1) ∧ Hid (l1.map Vv.vt = fromL ((l.take k).map Vv.vt) f) ∧ Hid (m1 ≤ k)) (fun _ i _ => m - (intOf i).toNat)
  case atStart => exact ⟨0, none, 0, 0, [], Nat.zero_le _, rfl, rfl, Below.refl _ _, vl_nil _ _ _, rfl, Nat.le_refl _⟩
  case round =>
    obtain ⟨k, a1, m1, c1, l1, hk, rfl, rfl, HB, HV, HE, HM⟩ := hrel
    have HR := hide (H.out.below HB.out)
    have c3 := HR.out.c3
    by_cases hlt : k < m
    · have i1 : (k : Int) < (m : Int) := by omega
      have i2 : (0 : Int) ≤ (k : Int) := by omega
      have lk : k < l.length := by have := LN.out; omega
      obtain ⟨p, hp⟩ : ∃ p, l[k]? = some p := ⟨l[k], by simp [lk]⟩
      have TK : Hid ((l.take (k + 1)).map Vv.vt = (l.take k).map Vv.vt ++ [p.vt]) := by
        show _ = _
        rw [List.take_succ_eq_append_getElem lk, (List.getElem?_eq_some_iff.1 hp).2]
        simp
      have PI : Hid (p.In wr (fun j => Q j ∧ j < w.heap.size)) := ((H.out.vl.ins p (List.mem_of_getElem? hp)).mono (fun k h1 h2 => ⟨h1, h2⟩)).below HB.out
      obtain ⟨g, rfl, _, hg, d0, d1, d2, d3⟩ := HR.out.vl.at hp
      by_cases hf : f ≤ p.s
      · obtain ⟨g', cq, w3, hr3, hv3, _, hb3, _⟩ := vl_push HV.out (by have := HM.out; omega) HB.out.size (fun k hk => hk.2) PI.out 35
        have V3 := hide hv3
        have B3 : Hid (Below w.heap.size w w3) := HB.out.trans hb3
        have E3 : Hid ((l1 ++ [p]).map Vv.vt = fromL ((l.take (k + 1)).map Vv.vt) f) := by show _ = _; rw [TK.out, fromL_snoc, if_pos (by exact hf), List.map_append, HE.out]; rfl
        clear hv3 hb3 hp lk
        go_wp2_with (at_builtin; refine wp_append_run _ rfl _ _ 35 rfl _ _ hr3 ?_)
        go_roundw
        case rel => exact ⟨k + 1, _, _, _, _, by omega, by go_num, rfl, B3, V3, E3, Nat.succ_le_succ HM.out⟩
        case measure => simp [intOf]; omega
      · have hf' : p.s < f := by omega
        have E3 : Hid (l1.map Vv.vt = fromL ((l.take (k + 1)).map Vv.vt) f) := by show _ = _; rw [TK.out, fromL_snoc, if_neg (by exact hf), HE.out]
        clear hp lk
        go_wp2_with fail
        go_roundw
        case rel => exact ⟨k + 1, _, _, _, _, by omega, by go_num, rfl, HB, HV, E3, Nat.le_succ_of_le HM.out⟩
        case measure => simp [intOf]; omega
    · obtain rfl : k = m := by omega
      clear hlt hk
      go_wp2_with fail
      go_ret
      refine ⟨a1, m1, c1, l1, rfl, HB.out, HV.out.mono (fun k h1 _ => h1.1), ?_⟩
      rw [HE.out, H.out.vs, List.take_of_length_le (by have := LN.out; omega)]
end Go.Proofs.Ytdnniokpkamjjaa
