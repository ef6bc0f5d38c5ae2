/- What the law folder's helpers Plain, Bytes, Packet and count answer of any packets. No condition but a size. -/
import Derived.Test.YtjbonklgklldmaaNetDeliver
import Derived.Test.YtjbonklgklldmaaPl8
import Derived.BigQuiet
namespace Go.Proofs.Ytjbonklgklldmaa
open Go.ChangeShapes Go.WideShapes Go.ChangeAt Go.RowKit B8 Nm
set_option linter.unusedVariables false

theorem plain_unlike (a a' : Option Addr) (len cap len' cap' : Nat) (w : World) (h : ¬ len = len') :
    Calls Try.prog 31 #[.slice a len cap, .slice a' len' cap'] w fun e w' => e = .returned (.bool false) ∧ ∃ n, w' = w.drewN n := by
  have h1 : ((len : Int) != (len' : Int)) = true := by simp; omega
  go_enter Try.func31, Try.ntmps31
  go_wp2_with fail
  go_ret
  exact ⟨rfl, 0, rfl⟩
theorem plain_two (b off cap b' off' cap' len : Nat) (zs ys : List Int) (w : World) (hm : len ≤ 140737488355328) (hz : zs.length = len) (hy : ys.length = len)
    (hc : ∀ j, j < len → w.cell? ⟨b, off + j, none⟩ = some (.int .u8 (zs[j]?.getD 0))) (hc' : ∀ j, j < len → w.cell? ⟨b', off' + j, none⟩ = some (.int .u8 (ys[j]?.getD 0))) :
    Calls Try.prog 31 #[.slice (some ⟨b, off, none⟩) len cap, .slice (some ⟨b', off', none⟩) len cap'] w fun e w' => e = .returned (.bool (decide (zs = ys))) ∧ ∃ n, w' = w.drewN n := by
  have HC := hide hc
  have HC' := hide hc'
  have HZ := hide hz
  have HY := hide hy
  clear hc hc' hz hy
  go_enter Try.func31, Try.ntmps31
  go_wp2_with fail
  go_loopw [5] (fun i wr => ∃ k n : Nat, k ≤ len ∧ i = .int .i64 k ∧ wr = w.drewN n ∧ Hid (∀ j, j < k → zs[j]?.getD 0 = ys[j]?.getD 0)) (fun i _ => len - (intOf i).toNat)
  case atStart => exact ⟨0, 0, Nat.zero_le _, rfl, rfl, fun j hj => by omega⟩
  case round =>
    obtain ⟨k, n, hk, rfl, rfl, HE⟩ := hrel
    by_cases hlt : k < len
    · have h1 := HC.out k hlt
      have h2 := HC'.out k hlt
      obtain ⟨x, ex⟩ : ∃ x, x = zs[k]?.getD 0 := ⟨_, rfl⟩
      obtain ⟨y, ey⟩ : ∃ y, y = ys[k]?.getD 0 := ⟨_, rfl⟩
      rw [← ex] at h1
      rw [← ey] at h2
      have EX := hide ex
      have EY := hide ey
      clear ex ey
      have hi : (k : Int) < (len : Int) := by omega
      by_cases hxy : x = y
      · subst hxy
        go_wp2_with fail
        go_quiet (fail)
        go_wp2_with fail
        go_roundw
        case rel => exact ⟨k + 1, _, by omega, by go_num, rfl, fun j hj => by
          by_cases e : j = k
          · rw [e, ← EX.out, ← EY.out]
          · exact HE.out j (by omega)⟩
        case measure => simp [intOf]; omega
      · have hx : (x == y) = false := by simpa using hxy
        have hx2 : (x = y) = False := by simpa using hxy
        have HX := hide hxy
        clear hxy
        go_wp2_with fail
        go_quiet (fail)
        go_wp2_with fail
        go_ret
        have : decide (zs = ys) = false := by
          simp
          intro e
          exact HX.out (by rw [EX.out, EY.out, e])
        rw [this]
        exact ⟨rfl, n + nq, by rw [World.drewN_drewN]⟩
    · obtain rfl : k = len := by omega
      go_wp2_with fail
      go_ret
      have : decide (zs = ys) = true := by
        simp
        apply List.ext_getElem
        · rw [HZ.out, HY.out]
        · intro i h1 h2
          have := HE.out i (by rw [← HZ.out]; exact h1)
          simpa [h1, h2] using this
      rw [this]
      exact ⟨rfl, _, rfl⟩
theorem plain_dec {w : World} {a a' : Option Addr} {n n' cp cp' : Nat} {zs ys : List Int} (q : Sq w a n cp zs) (q' : Sq w a' n' cp' ys) (hm : n ≤ 140737488355328) :
    Calls Try.prog 31 #[.slice a n cp, .slice a' n' cp'] w fun e w' => e = .returned (.bool (decide (zs = ys))) ∧ ∃ n, w' = w.drewN n := by
  by_cases hl : n = n'
  · subst hl
    by_cases h0 : n = 0
    · subst h0
      have e1 : zs = [] := List.eq_nil_of_length_eq_zero q.length
      have e2 : ys = [] := List.eq_nil_of_length_eq_zero q'.length
      rw [e1, e2]
      exact plain_none a a' cp cp' w
    · obtain ⟨b, off, rfl, hc⟩ := q.cells (by omega)
      obtain ⟨b', off', rfl, hc'⟩ := q'.cells (by omega)
      exact plain_two b off cp b' off' cp' n zs ys w hm q.length q'.length hc hc'
  · have : decide (zs = ys) = false := by
      simp
      intro e
      have h1 := q.length
      have h2 := q'.length
      rw [e] at h1
      omega
    rw [this]
    exact plain_unlike a a' n cp n' cp' w hl
theorem bytes_dec {w : World} {a a' : Option Addr} {n n' cp cp' : Nat} {zs ys : List Int} (q : Sq w a n cp zs) (q' : Sq w a' n' cp' ys) (hm : n ≤ 140737488355328) :
    Calls Try.prog 20 #[.slice a n cp, .slice a' n' cp'] w fun e w' => e = .returned (.bool (decide (zs = ys))) ∧ ∃ n, w' = w.drewN n := by
  have C := hide (plain_dec q q' hm)
  clear q q'
  go_enter Try.func20, Try.ntmps20
  go_wp2_with fail
  refine C.out.mono ?_
  rintro e w1 ⟨rfl, n1, rfl⟩
  go_wp2_with fail
  go_ret
  exact ⟨rfl, n1, rfl⟩
instance : DecidableEq Pk := fun a b => by
  cases a; cases b
  rename_i f t b f' t' b'
  by_cases h1 : f = f'
  · by_cases h2 : t = t'
    · by_cases h3 : b = b'
      · exact .isTrue (by rw [h1, h2, h3])
      · exact .isFalse (by simp [h3])
    · exact .isFalse (by simp [h2])
  · exact .isFalse (by simp [h1])
/-- its body's bytes are there, if there are any -/
def Pv.Ok (w : World) (p : Pv) : Prop := Sq w p.a p.n p.cp p.b ∧ (0 < p.n → ∀ ad, p.a = some ad → ad.block < w.heap.size)
theorem Pv.In.ok {w : World} {p : Pv} (h : p.In w) : p.Ok w := ⟨h.1, fun _ => h.2⟩
theorem Pv.Ok.same {w w' : World} {p : Pv} (h : p.Ok w) (hs : w.heap.size ≤ w'.heap.size) (hb : 0 < p.n → ∀ ad, p.a = some ad → w'.heap[ad.block]? = w.heap[ad.block]?) : p.Ok w' := by
  refine ⟨⟨h.1.length, h.1.lecap, h.1.nil, fun h0 => ?_, h.1.wf⟩, fun h0 ad e => Nat.lt_of_lt_of_le (h.2 h0 ad e) hs⟩
  obtain ⟨b, off, e, hc⟩ := h.1.cells h0
  exact ⟨b, off, e, fun j hj => (World.cell?_of_block (w := w) (w' := w') (a := ⟨b, off + j, none⟩) (hb h0 ⟨b, off, none⟩ e)).trans (hc j hj)⟩
theorem Pv.Ok.below {w w' : World} {p : Pv} (h : p.Ok w) (hb : Below w.heap.size w w') : p.Ok w' := h.same hb.size (fun h0 ad e => hb.block _ (h.2 h0 ad e))
theorem below_drewN {w : World} {W : World} (h : Below w.heap.size w W) (n : Nat) : Below w.heap.size w (W.drewN n) := ⟨h.os, h.tape, h.output, h.size, h.block⟩
set_option maxRecDepth 100000 in
theorem packet_dec {w : World} {p q : Pv} (hp : Sq w p.a p.n p.cp p.b) (hq : Sq w q.a q.n q.cp q.b) (hm : p.n ≤ 140737488355328) :
    Calls Try.prog 9 #[.agg #[.int .i64 p.f, .int .i64 p.t, .slice p.a p.n p.cp], .agg #[.int .i64 q.f, .int .i64 q.t, .slice q.a q.n q.cp]] w fun e w' => e = .returned (.bool (decide (p.pk = q.pk))) ∧ Below w.heap.size w w' := by
  obtain ⟨u, eu⟩ : ∃ u, u = (w.alloc (.cells #[.int .i64 p.f, .int .i64 p.t, .slice p.a p.n p.cp] 33)).alloc (.cells #[.int .i64 q.f, .int .i64 q.t, .slice q.a q.n q.cp] 33) := ⟨_, rfl⟩
  have BU : Hid (Below w.heap.size w u) := by rw [eu]; exact below_alloc (below_alloc (Below.refl _ _) _) _
  have C := hide (bytes_dec (hp.below BU.out) (hq.below BU.out) hm)
  rw [eu] at C BU
  have e0 : Hid (decide (p.pk = q.pk) = (decide (p.f = q.f) && decide (p.t = q.t) && decide (p.b = q.b))) := by
    show _ = _
    have : (p.pk = q.pk) ↔ (p.f = q.f ∧ p.t = q.t) ∧ p.b = q.b := by simp [Pv.pk, and_assoc]
    simp only [this, Bool.decide_and]
  rw [e0.out]
  clear hp hq eu
  by_cases h1 : p.f = q.f
  · by_cases h2 : p.t = q.t
    · have x1 : (p.f == q.f) = true := by simp [h1]
      have x2 : (p.f = q.f) = True := by simp [h1]
      have x3 : (p.t == q.t) = true := by simp [h2]
      have x4 : (p.t = q.t) = True := by simp [h2]
      have E : Hid ((decide (p.f = q.f) && decide (p.t = q.t) && decide (p.b = q.b)) = decide (p.b = q.b)) := by show _ = _; simp [h1, h2]
      rw [E.out]
      clear h1 h2 E
      go_enter Try.func9, Try.ntmps9
      go_wp2_with fail
      refine C.out.mono ?_
      rintro e w1 ⟨rfl, n1, rfl⟩
      go_wp2_with fail
      go_ret
      exact ⟨rfl, below_drewN BU.out n1⟩
    · have x1 : (p.f == q.f) = true := by simp [h1]
      have x2 : (p.f = q.f) = True := by simp [h1]
      have x3 : (p.t == q.t) = false := by simp [h2]
      have x4 : (p.t = q.t) = False := by simp [h2]
      have E : Hid ((decide (p.f = q.f) && decide (p.t = q.t) && decide (p.b = q.b)) = false) := by show _ = _; simp [h2]
      rw [E.out]
      clear h1 h2 E
      go_enter Try.func9, Try.ntmps9
      go_wp2_with fail
      go_ret
      exact ⟨rfl, BU.out⟩
  · have x1 : (p.f == q.f) = false := by simp [h1]
    have x2 : (p.f = q.f) = False := by simp [h1]
    have E : Hid ((decide (p.f = q.f) && decide (p.t = q.t) && decide (p.b = q.b)) = false) := by show _ = _; simp [h1]
    rw [E.out]
    clear h1 E
    go_enter Try.func9, Try.ntmps9
    go_wp2_with fail
    go_ret
    exact ⟨rfl, BU.out⟩
end Go.Proofs.Ytjbonklgklldmaa
