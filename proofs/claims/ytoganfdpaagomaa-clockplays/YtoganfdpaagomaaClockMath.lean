/- The clock as a plain value: what each call answers and leaves. No condition. -/
import Derived.Test.YtoganfdpaagomaaClockOps
namespace Go.Proofs.Ytoganfdpaagomaa
namespace Cm
set_option linter.unusedVariables false

/-- ticks, how often a timer was set, the timers in the order in which they were set last -/
structure Cs where
  now : Int
  sets : Int
  r : List Tm
def isN (name : ByteArray) (t : Tm) : Bool := decide (t.name = name)
def has (s : Cs) (name : ByteArray) : Bool := s.r.any (isN name)
def bad (name : ByteArray) (d : Int) : Bool := decide (name.size < 1 ∨ 16 < name.size ∨ d < 1 ∨ 2147483647 < d)
def setE (s : Cs) (name : ByteArray) (d : Int) : Int := if bad name d then 1 else if !has s name && decide (64 ≤ s.r.length) then 3 else 0
def without (r : List Tm) (name : ByteArray) : List Tm := r.filter fun t => !isN name t
def setS (s : Cs) (name : ByteArray) (d : Int) : Cs := if setE s name d = 0 then ⟨s.now, s.sets + 1, without s.r name ++ [⟨name, s.now + d, s.sets + 1⟩]⟩ else s
def stopS (s : Cs) (name : ByteArray) : Cs := ⟨s.now, s.sets, without s.r name⟩
def dueV (s : Cs) (name : ByteArray) : Int := match s.r.find? (isN name) with | some t => t.due | none => 0
def nowDue (n : Int) (t : Tm) : Bool := decide (t.due = n)
def tickN (s : Cs) : List ByteArray := names (s.r.filter (nowDue (s.now + 1)))
def tickS (s : Cs) : Cs := ⟨s.now + 1, s.sets, s.r.filter fun t => !nowDue (s.now + 1) t⟩
def srt (r : List Tm) : List Tm := r.mergeSort fun a b => !lt b a
def namesS (s : Cs) : List ByteArray := names (srt s.r)
def newS : Cs := ⟨0, 0, []⟩
structure Ok (s : Cs) (B : Int) : Prop where
  n0 : 0 ≤ s.now
  nB : s.now ≤ B
  s0 : 0 ≤ s.sets
  sB : s.sets ≤ B
  srt : s.r.Pairwise fun a b => a.turn < b.turn
  tm : ∀ t ∈ s.r, s.now < t.due ∧ t.due ≤ s.now + 2147483647 ∧ 1 ≤ t.turn ∧ t.turn ≤ s.sets ∧ 1 ≤ t.name.size ∧ t.name.size ≤ 16
  nd : (names s.r).Nodup
  len : s.r.length ≤ 64
theorem ok_new : Ok newS 0 := ⟨by simp [newS], by simp [newS], by simp [newS], by simp [newS], .nil, fun t h => by simp [newS] at h, by simp [newS, names], by simp [newS]⟩
theorem Ok.mono {s : Cs} {B B' : Int} (h : Ok s B) (e : B ≤ B') : Ok s B' := ⟨h.n0, by have := h.nB; omega, h.s0, by have := h.sB; omega, h.srt, h.tm, h.nd, h.len⟩
theorem has_iff (s : Cs) (name : ByteArray) : has s name = true ↔ name ∈ names s.r := by
  simp [has, names, isN]
theorem mem_without {r : List Tm} {name : ByteArray} {t : Tm} : t ∈ without r name ↔ t ∈ r ∧ t.name ≠ name := by simp [without, isN]
theorem without_le (r : List Tm) (name : ByteArray) : (without r name).length ≤ r.length := List.length_filter_le _ _
theorem without_lt {r : List Tm} {name : ByteArray} (h : name ∈ names r) : (without r name).length < r.length := by
  obtain ⟨t, ht, rfl⟩ := List.mem_map.1 h
  exact List.length_filter_lt_length_iff_exists.2 ⟨t, ht, by simp [isN]⟩
theorem without_none {r : List Tm} {name : ByteArray} (h : name ∉ names r) : without r name = r := by
  refine List.filter_eq_self.2 fun t ht => ?_
  have : t.name ≠ name := fun e => h (e ▸ List.mem_map_of_mem ht)
  simp [isN, this]
theorem names_sub {l r : List Tm} (h : l.Sublist r) : (names l).Sublist (names r) := h.map _
theorem Ok.stop {s : Cs} {B : Int} (h : Ok s B) (name : ByteArray) : Ok (stopS s name) B :=
  ⟨h.n0, h.nB, h.s0, h.sB, h.srt.sublist List.filter_sublist, fun t ht => h.tm t (mem_without.1 ht).1, h.nd.sublist (names_sub List.filter_sublist), Nat.le_trans (without_le _ _) h.len⟩
theorem Ok.set {s : Cs} {B : Int} (h : Ok s B) (name : ByteArray) (d : Int) : Ok (setS s name d) (B + 1) := by
  unfold setS
  split
  · rename_i e
    have hb : bad name d = false := by
      cases hx : bad name d
      · rfl
      · simp [setE, hx] at e
    have hb2 : ¬ (name.size < 1 ∨ 16 < name.size ∨ d < 1 ∨ 2147483647 < d) := of_decide_eq_false hb
    have hw := h.stop name
    refine ⟨h.n0, by have := h.nB; show s.now ≤ B + 1; omega, by have := h.s0; show 0 ≤ s.sets + 1; omega, by have := h.sB; show s.sets + 1 ≤ B + 1; omega, ?_, fun t ht => ?_, ?_, ?_⟩
    · refine List.pairwise_append.2 ⟨hw.srt, List.pairwise_singleton _ _, fun a ha b hb => ?_⟩
      rw [List.mem_singleton.1 hb]
      have := (hw.tm a ha).2.2.2.1
      show a.turn < s.sets + 1
      simp only [stopS] at this
      omega
    · show s.now < t.due ∧ t.due ≤ s.now + 2147483647 ∧ 1 ≤ t.turn ∧ t.turn ≤ s.sets + 1 ∧ _
      rcases List.mem_append.1 ht with ht | ht
      · have := hw.tm t ht
        simp only [stopS] at this
        omega
      · rw [List.mem_singleton.1 ht]
        have := h.s0
        simp only
        omega
    · show (names (without s.r name ++ [_])).Nodup
      rw [names, List.map_append]
      refine List.nodup_append.2 ⟨hw.nd, by simp, fun a ha b hbb e3 => ?_⟩
      have e4 : b = name := by simpa using hbb
      obtain ⟨t, ht, e2⟩ := List.mem_map.1 ha
      exact (mem_without.1 ht).2 (e2.trans (e3.trans e4))
    · show (without s.r name ++ [_]).length ≤ 64
      simp only [List.length_append, List.length_singleton]
      have hl := h.len
      by_cases hh : name ∈ names s.r
      · have := without_lt hh
        omega
      · have hf : has s name = false := by
          cases hx : has s name
          · rfl
          · exact absurd ((has_iff s name).1 hx) hh
        have h64 : ¬ 64 ≤ s.r.length := fun h64 => by simp [setE, hb, hf, h64] at e
        have := without_le s.r name
        omega
  · exact h.mono (by omega)
theorem Ok.tick {s : Cs} {B : Int} (h : Ok s B) : Ok (tickS s) (B + 1) := by
  refine ⟨by have := h.n0; show 0 ≤ s.now + 1; omega, by have := h.nB; show s.now + 1 ≤ B + 1; omega, h.s0, by have := h.sB; show s.sets ≤ B + 1; omega, h.srt.sublist List.filter_sublist, fun t ht => ?_, h.nd.sublist (names_sub List.filter_sublist), Nat.le_trans (List.length_filter_le _ _) h.len⟩
  show s.now + 1 < t.due ∧ t.due ≤ s.now + 1 + 2147483647 ∧ 1 ≤ t.turn ∧ t.turn ≤ s.sets ∧ _
  have ht2 := (List.mem_filter.1 ht)
  have h1 := h.tm t ht2.1
  have h2 := ht2.2
  simp [nowDue] at h2
  omega
/-! the heap's list against the clock's -/
theorem erase_without {l : List Tm} {k : Nat} (hk : k < l.length) (hn : (names l).Nodup) : (l.eraseIdx k).Perm (without l (g l k).name) := by
  have h1 := cons_erase hk
  have h2 : (without (g l k :: l.eraseIdx k) (g l k).name).Perm (without l (g l k).name) := h1.filter _
  have hn2 : (names (g l k :: l.eraseIdx k)).Nodup := (h1.map Tm.name).nodup_iff.2 hn
  have e : without (g l k :: l.eraseIdx k) (g l k).name = l.eraseIdx k := by
    have e1 : without (g l k :: l.eraseIdx k) (g l k).name = without (l.eraseIdx k) (g l k).name := by simp [without, isN]
    rw [e1]
    refine without_none ?_
    exact (List.nodup_cons.1 hn2).1
  rw [e] at h2
  exact h2
theorem take_perm {l r : List Tm} {k : Nat} {name : ByteArray} (hp : l.Perm r) (hk : k < l.length) (hn : (names r).Nodup) (he : (g l k).name = name) : (l.eraseIdx k).Perm (without r name) := by
  subst he
  exact (erase_without hk ((hp.map Tm.name).nodup_iff.2 hn)).trans (hp.filter _)
theorem set_perm {l r : List Tm} {k : Nat} {t : Tm} (hp : l.Perm r) (hk : k < l.length) (hn : (names r).Nodup) (he : (g l k).name = t.name) : (l.set k t).Perm (without r t.name ++ [t]) := by
  have h1 := cons_erase (l := l.set k t) (i := k) (by simpa using hk)
  rw [g_set hk, if_pos rfl, List.eraseIdx_set_eq] at h1
  exact h1.symm.trans ((List.Perm.cons t (take_perm hp hk hn he)).trans (List.perm_append_singleton _ _).symm)
theorem add_perm {l r : List Tm} {t : Tm} (hp : l.Perm r) (hn : t.name ∉ names r) : (l ++ [t]).Perm (without r t.name ++ [t]) := by
  rw [without_none hn]
  exact hp.append_right _
theorem find_name {r : List Tm} {t : Tm} (hn : (names r).Nodup) (ht : t ∈ r) : r.find? (isN t.name) = some t := by
  induction r with
  | nil => simp at ht
  | cons x q ih =>
    obtain ⟨h1, h2⟩ := List.nodup_cons.1 hn
    rcases List.mem_cons.1 ht with rfl | ht
    · simp [isN]
    · have : x.name ≠ t.name := fun e => h1 (e ▸ List.mem_map_of_mem ht)
      rw [List.find?_cons_of_neg (by simp [isN, this])]
      exact ih h2 ht
theorem dueV_at {s : Cs} {B : Int} (h : Ok s B) {t : Tm} (ht : t ∈ s.r) : dueV s t.name = t.due := by rw [dueV, find_name h.nd ht]
theorem dueV_none {s : Cs} {name : ByteArray} (h : name ∉ names s.r) : dueV s name = 0 := by
  have : s.r.find? (isN name) = none := List.find?_eq_none.2 fun t ht => by
    have : t.name ≠ name := fun e => h (e ▸ List.mem_map_of_mem ht)
    simp [isN, this]
  rw [dueV, this]
/-! the next one that is told -/
theorem lt_total {a b : Tm} (h : a.turn ≠ b.turn) (h1 : lt a b = false) : lt b a = true := by
  simp only [lt, decide_eq_true_eq, decide_eq_false_iff_not] at *; omega
theorem turn_inj {r : List Tm} (h : r.Pairwise fun a b => a.turn < b.turn) {a b : Tm} (ha : a ∈ r) (hb : b ∈ r) (e : a.turn = b.turn) : a = b := by
  induction r with
  | nil => simp at ha
  | cons x q ih =>
    obtain ⟨h1, h2⟩ := List.pairwise_cons.1 h
    rcases List.mem_cons.1 ha with ea | ha' <;> rcases List.mem_cons.1 hb with eb | hb'
    · rw [ea, eb]
    · have := h1 b hb'; rw [ea] at e; omega
    · have := h1 a ha'; rw [eb] at e; omega
    · exact ih h2 ha' hb'
/-- the least of a heap is the first of those that are due now -/
theorem heap_first {l D R : List Tm} {x : Tm} {n : Int} (hh : HeapN l l.length) (hp : l.Perm (x :: D ++ R)) (hs : (x :: D).Pairwise fun a b => a.turn < b.turn) (hd : ∀ t ∈ x :: D, t.due = n) (hr : ∀ t ∈ R, n < t.due) : g l 0 = x ∧ 0 < l.length := by
  have hl : 0 < l.length := by rw [hp.length_eq]; simp
  refine ⟨?_, hl⟩
  have hm : g l 0 ∈ x :: D ++ R := hp.mem_iff.1 (g_mem hl)
  have hx : x ∈ l := hp.mem_iff.2 (by simp)
  obtain ⟨k, hk, ek⟩ := List.getElem_of_mem hx
  have hmin := heap_min hh k hk
  rw [g_at hk, ek] at hmin
  have dx := hd x (by simp)
  rcases List.mem_append.1 hm with h1 | h1
  · rcases List.mem_cons.1 h1 with h2 | h2
    · exact h2
    · have h3 := (List.pairwise_cons.1 hs).1 _ h2
      have h4 := hd _ h1
      simp only [lt, decide_eq_false_iff_not] at hmin
      omega
  · have h4 := hr _ h1
    simp only [lt, decide_eq_false_iff_not] at hmin
    omega
theorem heap_rest {l R : List Tm} {x : Tm} (hp : l.Perm (x :: R)) (h : g l 0 = x) (hl : 0 < l.length) : (l.eraseIdx 0).Perm R := by
  have h1 := cons_erase hl
  rw [h] at h1
  exact (h1.trans hp).cons_inv
theorem parts_perm (r : List Tm) (n : Int) : r.Perm (r.filter (nowDue n) ++ r.filter fun t => !nowDue n t) := (List.filter_append_perm _ _).symm
/-! the order of all -/
theorem srt_perm (r : List Tm) : (srt r).Perm r := List.mergeSort_perm _ _
theorem srt_sorted (r : List Tm) : (srt r).Pairwise fun a b => lt b a = false := by
  have := List.pairwise_mergeSort (le := fun a b : Tm => !lt b a) (fun a b c h1 h2 => by simp at *; exact lt_ntrans h2 h1) (fun a b => by
    cases h : lt b a
    · simp
    · simp [lt_asymm h]) r
  exact this.imp fun h => by simpa using h
theorem srt_unique {r l : List Tm} (hr : r.Pairwise fun a b => a.turn < b.turn) (hp : l.Perm r) (hs : l.Pairwise fun a b => lt b a = false) : l = srt r := by
  refine List.Perm.eq_of_pairwise (le := fun a b => lt b a = false) (fun a b ha hb h1 h2 => ?_) hs (srt_sorted r) (hp.trans (srt_perm r).symm)
  have e : a.turn = b.turn := by simp only [lt, decide_eq_false_iff_not] at h1 h2; omega
  exact turn_inj hr (hp.mem_iff.1 ha) ((srt_perm r).mem_iff.1 hb) e
end Cm
end Go.Proofs.Ytoganfdpaagomaa
