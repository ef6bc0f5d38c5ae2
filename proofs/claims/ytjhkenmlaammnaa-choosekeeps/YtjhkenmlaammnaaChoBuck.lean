/- Votes by their slots: a map of lists of votes of the call's own, each in a block of its own. No condition. -/
import Derived.Test.YtjhkenmlaammnaaChoMem
namespace Go.Proofs.Ytjhkenmlaammnaa
open Go.ChangeShapes Go.WideShapes Go.ChangeAt Go.RowKit B8 Am Cz
set_option linter.unusedVariables false

/-- the votes for a slot, as they lie -/
structure Bk where
  a : Option Addr
  m : Nat
  c : Nat
  l : List Vv
def Bk.v (b : Bk) : Value := .slice b.a b.m b.c
def bk0 : Bk := ⟨none, 0, 0, []⟩
def addk (ks : List Int) (s : Int) : List Int := if s ∈ ks then ks else ks ++ [s]
theorem mem_addk {ks : List Int} {s x : Int} : x ∈ addk ks s ↔ x ∈ ks ∨ x = s := by
  unfold addk
  split
  · constructor
    · exact .inl
    · rintro (h | rfl)
      · exact h
      · assumption
  · simp
def upd (f : Int → Bk) (s : Int) (b : Bk) : Int → Bk := fun t => if t = s then b else f t
/-- the map at mb has the lists f at the slots ks -/
structure Mb (w : World) (B : Nat) (P : Nat → Prop) (N mb : Nat) (ks : List Int) (f : Int → Bk) : Prop where
  map : ∃ n D, w.ownsMap Try.prog 3 held mb n D ∧ n ≤ N ∧ (∀ kl, Maps.has D kl = true ↔ ∃ s ∈ ks, kl = ikey s) ∧ ∀ s ∈ ks, ∀ zd, D.atKey (ikey s) zd = .held (f s).v
  out : ∀ s, s ∉ ks → f s = bk0
  rows : ∀ s, Vl w B P (f s).a (f s).m (f s).c (f s).l
  apart : ∀ s t k, s ≠ t → (f s).v.ownBlock = some k → (f t).v.ownBlock ≠ some k
  base : B ≤ mb
theorem mb_new (w : World) (B : Nat) (P : Nat → Prop) (hB : B ≤ w.heap.size) : Mb (w.alloc (.map #[] 0)) B P 0 w.heap.size [] (fun _ => bk0) :=
  ⟨⟨0, _, World.ownsMap_made w _ _ _, Nat.le_refl _, fun kl => by simp [Maps.has], fun s hs => absurd hs (by simp)⟩, fun _ _ => rfl, fun _ => vl_nil _ _ _, fun s t k _ h => by simp [Bk.v, bk0, Value.ownBlock] at h, hB⟩
section
variable {w w' : World} {B N mb : Nat} {P : Nat → Prop} {ks : List Int} {f : Int → Bk}
theorem Mb.lt (h : Mb w B P N mb ks f) : mb < w.heap.size := by obtain ⟨n, D, h, _⟩ := h.map; exact h.lt
theorem Mb.below (h : Mb w B P N mb ks f) (hb : Below w.heap.size w w') : Mb w' B P N mb ks f := by
  obtain ⟨n, D, hm, r⟩ := h.map
  have hlt := hm.lt
  obtain ⟨es, clock, hm, r2⟩ := hm
  exact ⟨⟨n, D, ⟨es, clock, (hb.block _ hlt).trans hm, r2⟩, r⟩, h.out, fun s => (h.rows s).below hb, h.apart, h.base⟩
theorem zero_votes (w : World) : (zeroValue 34).run Try.prog w = .ok (.slice none 0 0) w := by first | exact Try.zeroValue34 w | kernel_rfl
theorem mb_look (h : Mb w B P N mb ks f) {s : Int} (hs : (Lit.int .i64 s).wf = true) :
    (Instr.lookup 76 (.map (some mb)) (.int .i64 s) false).run Try.prog w = .ok (.slice (f s).a (f s).m (f s).c) w := by
  obtain ⟨n, D, hown, _, hk, hv⟩ := h.map
  obtain ⟨v, ps, hr, hR⟩ := hown.lookup intKeyed Try.underlying76 (zero_votes w) (zd := .held (.slice none 0 0)) (zp := []) rfl (keyOf_i hs)
  have hv2 : DataW.held v = D.atKey (ikey s) (.held (.slice none 0 0)) := by simp [held] at hR; exact hR.1
  by_cases hin : s ∈ ks
  · rw [hv s hin] at hv2
    cases hv2
    exact hr
  · have hh : Maps.has D (ikey s) = false := by
      cases e : Maps.has D (ikey s)
      · rfl
      · obtain ⟨t, ht, e2⟩ := (hk _).1 e
        exact absurd (ikey_inj e2 ▸ ht) hin
    rw [Maps.atKey_of_not_has hh] at hv2
    cases hv2
    rw [h.out s hin]
    exact hr
set_option maxRecDepth 100000 in
theorem mb_add (h : Mb w B P N mb ks f) (hN : N < 1000) (hB : B ≤ w.heap.size) (hP : ∀ k, P k → k < B) {p : Vv} (hp : p.In w P) (hs : (Lit.int .i64 p.s).wf = true) (hm : (f p.s).m ≤ 1000) (ty : TypeId) :
    ∃ g cp w1 w2, (Builtin.append_ #[34, 34] ty #[.slice (f p.s).a (f p.s).m (f p.s).c, .slice (some ⟨w.heap.size, 0, none⟩) 1 1]).run Try.prog (w.alloc (.cells #[.int .i64 p.s, .int .i64 p.r, .int .i64 p.n, .slice p.a p.m p.cp] 45)) = .ok (.slice (some ⟨g, 0, none⟩) ((f p.s).m + 1) cp) w1
      ∧ (Instr.mapUpdate 76 (.map (some mb)) (.int .i64 p.s) (.slice (some ⟨g, 0, none⟩) ((f p.s).m + 1) cp)).run Try.prog w1 = .ok () w2
      ∧ Chg (fun k => (f p.s).v.ownBlock = some k) w w1 ∧ w1.grownBy w2 (some mb)
      ∧ Mb w2 B P (N + 1) mb (addk ks p.s) (upd f p.s ⟨some ⟨g, 0, none⟩, (f p.s).m + 1, cp, (f p.s).l ++ [p]⟩) ∧ Below B w w2 := by
  obtain ⟨g, cp, w1, hr, ho, hc, hb1, hloc⟩ := vl_add (h.rows p.s) (by omega) hB hp ty
  have hlt := h.lt
  have hVl := h.rows
  have notmap : ∀ s, (f s).v.ownBlock ≠ some mb := fun s e => by
    obtain ⟨n, D, ⟨es, clock, hmm, _⟩, _⟩ := h.map
    obtain ⟨cs, e2⟩ := isV (h.rows s).row e
    rw [hmm] at e2
    cases e2
  have hmb1 : w1.heap[mb]? = w.heap[mb]? := hc.block mb hlt (notmap p.s)
  obtain ⟨n, D, hown, hnN, hk, hv⟩ := h.map
  have hown1 : w1.ownsMap Try.prog 3 held mb n D := by
    obtain ⟨es, clock, hmm, r⟩ := hown
    exact ⟨es, clock, hmb1.trans hmm, r⟩
  have hkey := keyOf_i hs
  obtain ⟨w2, hr2, ho2, hg2⟩ := hown1.update intKeyed Try.underlying76 (by unfold maxLen; omega) hkey (val := .slice (some ⟨g, 0, none⟩) ((f p.s).m + 1) cp) (d := .held (.slice (some ⟨g, 0, none⟩) ((f p.s).m + 1) cp)) (ps := []) rfl
  have hmlt1 := hown1.lt
  -- blocks below B are as they were
  have old : ∀ k, k < B → w2.heap[k]? = w.heap[k]? := fun k hk => by
    have h1 : w1.heap[k]? = w.heap[k]? := hb1.block k hk
    have h2 : k < w1.heap.size := Nat.lt_of_lt_of_le hk (Nat.le_trans hB hb1.size)
    exact (hg2.block k h2 (fun e => by have := h.base; injection e with e; omega)).trans h1
  have inn : ∀ q : Vv, q.In w P → q.In w2 P := fun q hq => hq.same (fun h0 ad e => old _ (hP _ (hq.2 h0 ad e)))
  have gne : ∀ t, t ≠ p.s → (f t).v.ownBlock ≠ some g := fun t ht e => by
    rcases hloc with hloc | hloc
    · exact h.apart p.s t g (fun e2 => ht e2.symm) hloc e
    · have := ((h.rows t).row.lt g e).2
      omega
  have gmb : g ≠ mb := fun e => by
    obtain ⟨cs, e2⟩ := isV ho rfl
    obtain ⟨es, clock, hmm, r⟩ := hown1
    rw [e, hmm] at e2
    cases e2
  refine ⟨g, cp, w1, w2, hr, hr2, hc, hg2, ⟨⟨n + 1, _, ho2, by omega, fun kl => ?_, fun s hs2 zd => ?_⟩, fun s hs2 => ?_, fun s => ?_, fun s t k hst hks => ?_, h.base⟩, ?_⟩
  · by_cases e : kl = ikey p.s
    · subst e
      rw [Maps.has_put_same hown1.isMap (intKeyed.key hkey)]
      simp only [true_iff]
      exact ⟨p.s, mem_addk.2 (.inr rfl), rfl⟩
    · rw [Maps.has_put_other e, hk]
      constructor
      · rintro ⟨s, hs3, rfl⟩
        exact ⟨s, mem_addk.2 (.inl hs3), rfl⟩
      · rintro ⟨s, hs3, rfl⟩
        rcases mem_addk.1 hs3 with hs3 | rfl
        · exact ⟨s, hs3, rfl⟩
        · exact absurd rfl e
  · by_cases e : s = p.s
    · subst e
      rw [Maps.atKey_put_same hown1.isMap (intKeyed.key hkey)]
      simp [upd, Bk.v]
    · rw [Maps.atKey_put_other (fun e2 => e (ikey_inj e2))]
      rcases mem_addk.1 hs2 with hs3 | rfl
      · rw [hv s hs3]; simp [upd, e]
      · exact absurd rfl e
  · have h1 : s ≠ p.s := fun e => hs2 (mem_addk.2 (.inr e))
    have h2 : s ∉ ks := fun e => hs2 (mem_addk.2 (.inl e))
    simp [upd, h1, h.out s h2]
  · by_cases e : s = p.s
    · subst e
      simp only [upd, if_true]
      refine ⟨row_same ho (fun k hk => ?_), by simp [(hVl p.s).len], fun q hq => ?_⟩
      · have e3 : g = k := by simpa [Value.ownBlock] using hk
        subst e3
        exact hg2.block g (ho.lt g rfl).2 (fun e4 => gmb (by injection e4))
      · have : q ∈ (f p.s).l ∨ q = p := by simpa using hq
        rcases this with hq | rfl
        · exact inn q ((hVl p.s).ins q hq)
        · exact inn q hp
    · simp only [upd, if_neg e]
      refine ⟨row_same (hVl s).row (fun k hk => ?_), (hVl s).len, fun q hq => inn q ((hVl s).ins q hq)⟩
      have hklt := ((hVl s).row.lt k hk).2
      have h1 : w1.heap[k]? = w.heap[k]? := hc.block k hklt (fun e2 => h.apart p.s s k (fun e3 => e e3.symm) e2 hk)
      exact (hg2.block k (Nat.lt_of_lt_of_le hklt hc.size) (fun e2 => notmap s (by injection e2 with e2; subst e2; exact hk))).trans h1
  · by_cases e : s = p.s
    · subst e
      have e3 : g = k := by simpa [upd, Bk.v, Value.ownBlock] using hks
      subst e3
      have e4 : t ≠ p.s := fun e5 => hst e5.symm
      simp only [upd, if_neg e4]
      exact gne t e4
    · simp only [upd, if_neg e] at hks
      by_cases e2 : t = p.s
      · subst e2
        simp only [upd, if_true, Bk.v]
        intro e5
        have e3 : g = k := by simpa [Value.ownBlock] using e5
        subst e3
        exact gne s e hks
      · simp only [upd, if_neg e2]
        exact h.apart s t k hst hks
  · exact ⟨hg2.os.trans hb1.os, hg2.tape.trans hb1.tape, hg2.output.trans hb1.output, Nat.le_trans hb1.size hg2.size, old⟩
end
end Go.Proofs.Ytjhkenmlaammnaa
