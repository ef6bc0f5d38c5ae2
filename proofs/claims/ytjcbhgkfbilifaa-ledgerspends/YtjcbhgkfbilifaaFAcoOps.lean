/- Calls on an account as plain values and as they come in; what an account becomes by them stays an account of ints. No condition. -/
import Derived.Test.YtjcbhgkfbilifaaFAcoMem
namespace Go.Proofs.Ytjcbhgkfbilifaa
open Go.ChangeShapes Go.WideShapes Go.ChangeAt Go.RowKit Go.Joins Ao
set_option linter.unusedVariables false

theorem acw0 : AcW ac0 := ⟨by decide, ⟨by decide, by decide⟩, ⟨by decide, by decide⟩, ⟨by decide, by decide⟩, ⟨by decide, by decide⟩, ⟨⟨by decide, by decide⟩, ⟨by decide, by decide⟩, ⟨by decide, by decide⟩, ⟨by decide, by decide⟩⟩, fun h hh => by cases hh⟩
theorem lkw0 : LkW lk0 := acw0.lk
theorem acw_of {A B : Ac} (h : AcW A) (hr : Right B) (hk : B.key = A.key) (hlo : I64 B.lo) (hhi : I64 B.hi) (hrd : I64 B.rd) (hlk : LkW B.lk) (hhs : ∀ x ∈ B.hs, HdW x) : AcW B := by
  refine ⟨hk ▸ h.key, hlo, hhi, ?_, hrd, hlk, hhs⟩
  have := hr.base
  unfold I64 at *
  omega
theorem ins_mem {h x : Hd} : ∀ {l : List Hd}, x ∈ insH h l → x = h ∨ x ∈ l
  | [], hm => by simp [insH] at hm; exact .inl hm
  | z :: r, hm => by
    unfold insH at hm
    by_cases e : z.nd < h.nd
    · rw [if_pos e] at hm
      rcases List.mem_cons.1 hm with rfl | hm
      · exact .inr (List.mem_cons_self ..)
      · rcases ins_mem hm with rfl | hm
        · exact .inl rfl
        · exact .inr (List.mem_cons_of_mem _ hm)
    · rw [if_neg e] at hm
      by_cases e2 : z.nd = h.nd
      · rw [if_pos e2] at hm
        rcases List.mem_cons.1 hm with rfl | hm
        · exact .inl rfl
        · exact .inr (List.mem_cons_of_mem _ hm)
      · rw [if_neg e2] at hm
        rcases List.mem_cons.1 hm with rfl | hm
        · exact .inl rfl
        · exact .inr hm
theorem acw_add {A : Ac} {n : Int} (h : AcW A) : AcW (addA A n) := by
  by_cases he : addE A n = 0
  · have hr := right_add he
    have e : addA A n = { A with base := A.base + n } := by unfold addA; rw [if_pos he]
    rw [e] at hr ⊢
    exact acw_of h hr rfl h.lo h.hi h.rd h.lk h.hs
  · unfold addA; rw [if_neg he]; exact acw0
theorem acw_grant {A : Ac} {node lease nodes : Int} (h : AcW A) (hn : I64 node) (hl : I64 lease) : AcW (grantA A node lease nodes) := by
  by_cases he : grantE A node lease nodes = 0
  · have hr := right_grant he h.small
    obtain ⟨r0, h1, h2, h3, h4, h5, h6, h7⟩ := grant_ok he
    have e : grantA A node lease nodes = { A with hs := insH (grantH A node lease nodes) A.hs } := by unfold grantA; rw [if_pos he]
    have s1 := share_le (v := upR A) (nodes := nodes) (room_nonneg A).2 h1
    have s2 := share_le (v := downR A) (nodes := nodes) (room_nonneg A).1 h1
    have o1 := of_small h.small node
    have o2 := of_nonneg r0 node
    have m1 := more_le s1.1 o1.1
    have m2 := more_le s2.1 o1.2
    rw [e] at hr ⊢
    refine acw_of h hr rfl h.lo h.hi h.rd h.lk fun x hx => ?_
    rcases ins_mem hx with rfl | hx
    · refine ⟨hn, ?_, ?_, ?_⟩
      · show I64 (match findH A.hs node with | some h => h.ls | none => lease)
        cases e2 : findH A.hs node with
        | none => exact hl
        | some z => exact (h.hs z (find_mem e2).1).ls
      · show I64 (moreI _ _)
        unfold I64; omega
      · show I64 (moreI _ _)
        unfold I64; omega
    · exact h.hs x hx
  · unfold grantA; rw [if_neg he]; exact acw0
theorem acw_freeze {A : Ac} {r : Int} (h : AcW A) (hr0 : I64 r) : AcW (freezeA A r) := by
  by_cases he : freezeE A r = 0
  · have hr := right_freeze he
    have e : freezeA A r = (if A.rd = 0 then { A with rd := r } else A) := by unfold freezeA; rw [if_pos he]
    rw [e] at hr ⊢
    by_cases h0 : A.rd = 0
    · rw [if_pos h0] at hr ⊢
      exact acw_of h hr rfl h.lo h.hi hr0 h.lk h.hs
    · rw [if_neg h0]; exact h
  · unfold freezeA; rw [if_neg he]; exact acw0
theorem acw_thaw {A : Ac} (h : AcW A) : AcW (thawA A) := by
  by_cases he : thawE A = 0
  · have hr := right_thaw he
    have e : thawA A = { A with rd := 0 } := by unfold thawA; rw [if_pos he]
    rw [e] at hr ⊢
    exact acw_of h hr rfl h.lo h.hi (show I64 0 from ⟨by decide, by decide⟩) h.lk h.hs
  · unfold thawA; rw [if_neg he]; exact acw0
theorem acw_report {A : Ac} {node lease r net : Int} (h : AcW A) : AcW (reportA A node lease r net) := by
  by_cases he : reportE A node lease r net = 0
  · have hr := right_report he
    have e : reportA A node lease r net = { A with base := A.base + net, hs := dropH A.hs node } := by unfold reportA; rw [if_pos he]
    rw [e] at hr ⊢
    exact acw_of h hr rfl h.lo h.hi h.rd h.lk fun x hx => h.hs x (List.mem_filter.1 hx).1
  · unfold reportA; rw [if_neg he]; exact acw0
theorem acw_bounds {A : Ac} {lo hi : Int} (h : AcW A) (h1 : I64 lo) (h2 : I64 hi) : AcW (boundsA A lo hi) := by
  by_cases he : boundsE A lo hi = 0
  · have hr := right_bounds he
    have e : boundsA A lo hi = { A with lo := lo, hi := hi } := by unfold boundsA; rw [if_pos he]
    rw [e] at hr ⊢
    exact acw_of h hr rfl h1 h2 h.rd h.lk h.hs
  · unfold boundsA; rw [if_neg he]; exact acw0
theorem acw_take {A : Ac} {l : Lk} (h : AcW A) (hl : LkW l) : AcW (takeA A l) := by
  by_cases he : takeE A l = 0
  · have hr := right_take he
    have e : takeA A l = { A with lk := l } := by unfold takeA; rw [if_pos he]
    rw [e] at hr ⊢
    exact acw_of h hr rfl h.lo h.hi h.rd hl h.hs
  · unfold takeA; rw [if_neg he]; exact acw0
theorem acw_free {A : Ac} {b : Bool} (h : AcW A) : AcW (freeA A b) := by
  by_cases he : freeE A = 0
  · have hr := right_free (commit := b) he
    have e : freeA A b = { A with base := if b then A.base + A.lk.n else A.base, lk := lk0 } := by unfold freeA; rw [if_pos he]
    rw [e] at hr ⊢
    exact acw_of h hr rfl h.lo h.hi h.rd lkw0 h.hs
  · unfold freeA; rw [if_neg he]; exact acw0

/-- a call: its kind, and all that it may be asked with -/
structure Opd where
  k : Int
  nd : Int
  ls : Int
  rd : Int
  n : Int
  lo : Int
  hi : Int
  lk : Lk
  cm : Bool
structure OpW (o : Opd) : Prop where
  k : I64 o.k
  nd : I64 o.nd
  ls : I64 o.ls
  rd : I64 o.rd
  n : I64 o.n
  lo : I64 o.lo
  hi : I64 o.hi
  lk : LkW o.lk
def oenc (o : Opd) : List Value := [.int .i64 o.k, .int .i64 o.nd, .int .i64 o.ls, .int .i64 o.rd, .int .i64 o.n, .int .i64 o.lo, .int .i64 o.hi, .int .i64 o.lk.c, .int .i64 o.lk.s, .int .i64 o.lk.h, .int .i64 o.lk.n, .bool o.cm]
def oval (o : Opd) : Value := .agg #[.int .i64 o.k, .int .i64 o.nd, .int .i64 o.ls, .int .i64 o.rd, .int .i64 o.n, .int .i64 o.lo, .int .i64 o.hi, .int .i64 o.lk.c, .int .i64 o.lk.s, .int .i64 o.lk.h, .int .i64 o.lk.n, .bool o.cm]
theorem oflat : Flat oenc 12 := ⟨fun _ => rfl, fun x v hv => by simp [oenc] at hv; rcases hv with rfl | rfl | rfl | rfl | rfl | rfl | rfl | rfl | rfl | rfl | rfl | rfl <;> rfl, by omega⟩
/-- what a call answers, and what the account becomes -/
def stepE (A : Ac) (o : Opd) (nodes : Int) : Int :=
  if o.k = 1 then grantE A o.nd o.ls nodes else if o.k = 2 then freezeE A o.rd else if o.k = 3 then thawE A else if o.k = 4 then reportE A o.nd o.ls o.rd o.n
  else if o.k = 5 then boundsE A o.lo o.hi else if o.k = 6 then takeE A o.lk else if o.k = 7 then freeE A else addE A o.n
def stepA (A : Ac) (o : Opd) (nodes : Int) : Ac :=
  if o.k = 1 then grantA A o.nd o.ls nodes else if o.k = 2 then freezeA A o.rd else if o.k = 3 then thawA A else if o.k = 4 then reportA A o.nd o.ls o.rd o.n
  else if o.k = 5 then boundsA A o.lo o.hi else if o.k = 6 then takeA A o.lk else if o.k = 7 then freeA A o.cm else addA A o.n
theorem acw_step {A : Ac} {o : Opd} {nodes : Int} (h : AcW A) (ho : OpW o) : AcW (stepA A o nodes) := by
  unfold stepA
  split
  · exact acw_grant h ho.nd ho.ls
  split
  · exact acw_freeze h ho.rd
  split
  · exact acw_thaw h
  split
  · exact acw_report h
  split
  · exact acw_bounds h ho.lo ho.hi
  split
  · exact acw_take h ho.lk
  split
  · exact acw_free h
  · exact acw_add h
theorem right_step {A : Ac} {o : Opd} {nodes : Int} (h : AcW A) (he : stepE A o nodes = 0) : Right (stepA A o nodes) ∧ (stepA A o nodes).key = A.key := by
  unfold stepE at he
  unfold stepA
  split at he
  · rename_i h1; rw [if_pos h1]
    exact ⟨right_grant he h.small, by unfold grantA; rw [if_pos he]⟩
  rename_i h1; rw [if_neg h1]
  split at he
  · rename_i h2; rw [if_pos h2]
    exact ⟨right_freeze he, by unfold freezeA; rw [if_pos he]; split <;> rfl⟩
  rename_i h2; rw [if_neg h2]
  split at he
  · rename_i h3; rw [if_pos h3]
    exact ⟨right_thaw he, by unfold thawA; rw [if_pos he]⟩
  rename_i h3; rw [if_neg h3]
  split at he
  · rename_i h4; rw [if_pos h4]
    exact ⟨right_report he, by unfold reportA; rw [if_pos he]⟩
  rename_i h4; rw [if_neg h4]
  split at he
  · rename_i h5; rw [if_pos h5]
    exact ⟨right_bounds he, by unfold boundsA; rw [if_pos he]⟩
  rename_i h5; rw [if_neg h5]
  split at he
  · rename_i h6; rw [if_pos h6]
    exact ⟨right_take he, by unfold takeA; rw [if_pos he]⟩
  rename_i h6; rw [if_neg h6]
  split at he
  · rename_i h7; rw [if_pos h7]
    exact ⟨right_free he, by unfold freeA; rw [if_pos he]⟩
  rename_i h7; rw [if_neg h7]
  exact ⟨right_add he, by unfold addA; rw [if_pos he]⟩
/-- what is refused is refused with nothing -/
theorem step_none {A : Ac} {o : Opd} {nodes : Int} (he : ¬ stepE A o nodes = 0) : stepA A o nodes = ac0 := by
  unfold stepE at he
  unfold stepA
  split at he
  · rename_i h1; rw [if_pos h1]; unfold grantA; rw [if_neg he]
  rename_i h1; rw [if_neg h1]
  split at he
  · rename_i h2; rw [if_pos h2]; unfold freezeA; rw [if_neg he]
  rename_i h2; rw [if_neg h2]
  split at he
  · rename_i h3; rw [if_pos h3]; unfold thawA; rw [if_neg he]
  rename_i h3; rw [if_neg h3]
  split at he
  · rename_i h4; rw [if_pos h4]; unfold reportA; rw [if_neg he]
  rename_i h4; rw [if_neg h4]
  split at he
  · rename_i h5; rw [if_pos h5]; unfold boundsA; rw [if_neg he]
  rename_i h5; rw [if_neg h5]
  split at he
  · rename_i h6; rw [if_pos h6]; unfold takeA; rw [if_neg he]
  rename_i h6; rw [if_neg h6]
  split at he
  · rename_i h7; rw [if_pos h7]; unfold freeA; rw [if_neg he]
  rename_i h7; rw [if_neg h7]
  unfold addA; rw [if_neg he]
section
variable {H : Type} {enc : TypeId × Value → H} {W : World} {b0 : Nat} {held : Bool} {m : Nat} {cs : List Value} {y : DataW H × List MemPlace}
theorem op_fields : ∃ f0 f1 f2 f3 f4 f5 f6 f7 : Field, Try.prog.underlying 30 = some (.struct #[f0, f1, f2, f3, f4, f5, f6, f7]) ∧ (f0.offset = 0 ∧ f0.type = 3) ∧ (f1.offset = 1 ∧ f1.type = 3) ∧ (f2.offset = 2 ∧ f2.type = 3) ∧ (f3.offset = 3 ∧ f3.type = 3) ∧ (f4.offset = 4 ∧ f4.type = 3) ∧ (f5.offset = 5 ∧ f5.type = 23) ∧ (f6.offset = 7 ∧ f6.type = 26) ∧ (f7.offset = 11 ∧ f7.type = 4) :=
  ⟨_, _, _, _, _, _, _, _, Try.underlying30, ⟨rfl, rfl⟩, ⟨rfl, rfl⟩, ⟨rfl, rfl⟩, ⟨rfl, rfl⟩, ⟨rfl, rfl⟩, ⟨rfl, rfl⟩, ⟨rfl, rfl⟩, ⟨rfl, rfl⟩⟩
theorem s_bool : Try.prog.cellsOf 4 = 1 := by kernel_rfl
theorem s_op : Try.prog.cellsOf 30 = 12 := by kernel_rfl
set_option maxRecDepth 100000 in
theorem rd_op (h : DataW.trod enc Try.prog W b0 (fun _ => true) held m 30 cs = some y) (hl : Lite 30 y.1) : ∃ o : Opd, cs = oenc o ∧ OpW o := by
  obtain ⟨f0, f1, f2, f3, f4, f5, f6, f7, hu, ⟨o0, t0⟩, ⟨o1, t1⟩, ⟨o2, t2⟩, ⟨o3, t3⟩, ⟨o4, t4⟩, ⟨o5, t5⟩, ⟨o6, t6⟩, ⟨o7, t7⟩⟩ := op_fields
  obtain ⟨k, hc, hf⟩ := rd_fields hu h hl
  rw [s_op] at hc
  match cs, hc with
  | [v0, v1, v2, v3, v4, v5, v6, v7, v8, v9, v10, v11], _ =>
    obtain ⟨z0, g0, _⟩ := hf 0 f0 rfl
    obtain ⟨z1, g1, _⟩ := hf 1 f1 rfl
    obtain ⟨z2, g2, _⟩ := hf 2 f2 rfl
    obtain ⟨z3, g3, _⟩ := hf 3 f3 rfl
    obtain ⟨z4, g4, _⟩ := hf 4 f4 rfl
    obtain ⟨z5, g5, l5⟩ := hf 5 f5 rfl
    obtain ⟨z6, g6, l6⟩ := hf 6 f6 rfl
    obtain ⟨z7, g7, _⟩ := hf 7 f7 rfl
    rw [t5] at l5
    rw [t6] at l6
    simp [o0, o1, o2, o3, o4, o5, o6, o7, t0, t1, t2, t3, t4, t5, t6, t7, s_int, s_bool, s_span, s_lock] at g0 g1 g2 g3 g4 g5 g6 g7
    obtain ⟨n0, e0, w0⟩ := fd_i64 Try.underlying3 g0
    obtain ⟨n1, e1, w1⟩ := fd_i64 Try.underlying3 g1
    obtain ⟨n2, e2, w2⟩ := fd_i64 Try.underlying3 g2
    obtain ⟨n3, e3, w3⟩ := fd_i64 Try.underlying3 g3
    obtain ⟨n4, e4, w4⟩ := fd_i64 Try.underlying3 g4
    obtain ⟨lo, hi, e5, w5, w5'⟩ := rd_span g5 l5
    obtain ⟨lk, e6, w6⟩ := rd_lock g6 l6
    obtain ⟨cm, e7⟩ := fd_bool Try.underlying4 g7
    simp [lenc] at e0 e1 e2 e3 e4 e5 e6 e7
    exact ⟨⟨n0, n1, n2, n3, n4, lo, hi, lk, cm⟩, by rw [e0, e1, e2, e3, e4, e5.1, e5.2, e6.1, e6.2.1, e6.2.2.1, e6.2.2.2, e7]; rfl, w0, w1, w2, w3, w4, w5, w5', w6⟩
set_option maxRecDepth 100000 in
theorem open_op_held {H : Type} {enc : TypeId × Value → H} {W : World} {r : Reach} {base b0 : Nat} {held : Bool} {v : Value} {d : DataW H} {p : List MemPlace}
    (hv : Value.okWide Try.prog W r base 30 v) (h : DataW.Trod enc Try.prog W b0 (fun _ => true) held 30 v d p)
    (hw : ∀ n ∈ d.weights Try.prog 30, n ≤ reachBytes) :
    ∃ (o : Opd), v = oval o ∧ OpW o := by
  obtain ⟨cs, rfl, hc⟩ := okWide_struct Try.underlying30 hv
  obtain ⟨fuel, hf⟩ := h
  obtain ⟨o, h1, h2⟩ := rd_op hf hw
  simp only [Value.cells] at h1
  refine ⟨o, ?_, h2⟩
  unfold oval
  rw [show cs = #[.int .i64 o.k, .int .i64 o.nd, .int .i64 o.ls, .int .i64 o.rd, .int .i64 o.n, .int .i64 o.lo, .int .i64 o.hi, .int .i64 o.lk.c, .int .i64 o.lk.s, .int .i64 o.lk.h, .int .i64 o.lk.n, .bool o.cm] from Array.toList_inj.1 h1]
end
/-- a list of ints that came in -/
def ienc (x : Int) : List Value := [.int .i64 x]
theorem iflat : Flat ienc 1 := ⟨fun _ => rfl, fun x v hv => by simp [ienc] at hv; rcases hv with rfl; rfl, by omega⟩
set_option maxRecDepth 100000 in
theorem open_ints_held {H : Type} {enc : TypeId × Value → H} {W : World} {r : Reach} {base b0 : Nat} {held : Bool} {v : Value} {d : DataW H} {p : List MemPlace}
    (hv : Value.okWide Try.prog W r base 152 v) (h : DataW.Trod enc Try.prog W b0 (fun _ => true) held 152 v d p)
    (hw : ∀ n ∈ d.weights Try.prog 152, n ≤ reachBytes) :
    ∃ (a : Option Addr) (len cap : Nat) (l : List Int), v = .slice a len cap ∧ Rl ienc 1 8 W a len l ∧ (∀ x ∈ l, I64 x) := by
  obtain ⟨a, len, cap, rfl⟩ := okWide_slice Try.underlying152 hv
  obtain ⟨fuel, hf⟩ := h
  obtain ⟨a', len', cap', l, h1, h2, h3, _⟩ := rd_flat (bytes := 8) Try.underlying152 s_int (by kernel_rfl) iflat I64 (fun m cs y h hl => fd_i64 Try.underlying3 h) hf hw
  simp [Value.cells] at h1
  obtain ⟨rfl, rfl, rfl⟩ := h1
  exact ⟨_, _, _, l, rfl, h2, h3⟩
set_option maxRecDepth 100000 in
theorem open_str {H : Type} {enc : TypeId × Value → H} {W : World} {r : Reach} {base b0 : Nat} {sp : Nat → Bool} {held : Bool} {v : Value} {d : DataW H} {p : List MemPlace}
    (hv : Value.okWide Try.prog W r base 9 v) (h : DataW.Trod enc Try.prog W b0 sp held 9 v d p) :
    ∃ a : ByteArray, v = .string a ∧ a.size ≤ maxLen := by
  obtain ⟨a, rfl, rfl, rfl, w⟩ := ChangeMaps.open_string Try.underlying9 hv h
  exact ⟨a, rfl, w⟩
set_option maxRecDepth 100000 in
theorem open_bl {H : Type} {enc : TypeId × Value → H} {W : World} {r : Reach} {base b0 : Nat} {sp : Nat → Bool} {held : Bool} {v : Value} {d : DataW H} {p : List MemPlace}
    (hv : Value.okWide Try.prog W r base 4 v) (h : DataW.Trod enc Try.prog W b0 sp held 4 v d p) :
    ∃ a : Bool, v = .bool a ∧ True := by
  obtain ⟨a, rfl, rfl, rfl⟩ := open_bool Try.underlying4 hv h
  exact ⟨a, rfl, trivial⟩
end Go.Proofs.Ytjcbhgkfbilifaa
