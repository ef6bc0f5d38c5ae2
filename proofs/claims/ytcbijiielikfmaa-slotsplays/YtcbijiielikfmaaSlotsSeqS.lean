/- The landed log's All, Run, Holes as sequences; of a nil log too. No condition. -/
import Derived.Test.YtcbijiielikfmaaSlotsHolesS
import Derived.Laws.EntriesVeiled
namespace Go.Proofs.Ytcbijiielikfmaa.Ls
open Go.ChangeShapes Go.WideShapes Go.ChangeAt Go.RowKit Go.Shelf Sx
set_option linter.unusedVariables false
attribute [local go_sem] Oper.semAt_some

/-- a call that hands out a sequence -/
def SeqP (xs : List (Array Value)) (Lv : Nat → Prop) (w : World) (e : Ending) (w' : World) : Prop :=
  ∃ gf lb K, e = .returned (.func (.func gf) #[] lb) ∧ (∀ args w, (callFunc gf args).run Try.prog w = .ok (.enter gf args) w) ∧ Below w.heap.size w w' ∧ Tells Try.prog gf lb xs K w' ∧ (∀ k, K k → ∃ o : Obj, w'.heap[k]? = some o ∧ o.isCells = true) ∧ ∀ k, K k → Lv k ∨ w.heap.size ≤ k
section
variable {w : World} {P : Nat} {L : Lay} {s : Ss Al}
theorem all_seq (h : Lg w P L s) : Calls Try.prog 76 #[.pointer (some ⟨P, 0, none⟩)] w (SeqP ((allL s.first s.ps).map argsOf) (fun k => some k ∈ L.bs) w) :=
  (all_any h).mono fun e w' ⟨Bp, Bf, v, he, hb, hk⟩ => by
    have hl := h.below hb
    have ka : Ka w' w.heap.size Bp Bf v s.first L.bs s.ps := ⟨hk, h.len, by have := h.ok.len; have := h.ok.m2; omega, h.ok.f1, h.ok.f2, hl.pl⟩
    refine ⟨_, _, KA Bp Bf v L.bs, he, enters_of Try.func82 (by kernel_rfl) rfl, hb, all2_tells ka, ka.cells, fun k hk' => ?_⟩
    rcases hk' with rfl | rfl | hk' | hk'
    · exact .inr hk.lp
    · exact .inr hk.lf
    · exact .inr (hk.row.lt k hk').1
    · exact .inl hk'
theorem all1_tells (w : World) (K : Nat → Prop) : Tells Try.prog 80 #[] [] K w := by
  intro V hV l J Jx U hJ hJx hU hY h0
  refine (callsIn_wide (n := 9)).1 (callsIn_of_wp Try.func80 rfl trivial ?_ rfl)
  simp only [Try.ntmps80, List.size_toArray, List.length_cons, List.length_nil, Nat.reduceAdd, Nat.reduceSub, Array.replicate_succ, Array.replicate_zero, List.push_toArray, List.append_toArray, List.nil_append, List.cons_append]
  gi_wp2
  go_end0
  exact ⟨⟨_, rfl⟩, .inl h0⟩
theorem all_seq_nil (w : World) (Lv : Nat → Prop) : Calls Try.prog 76 #[.pointer none] w (SeqP (((allL 0 ([] : List (Option Al))).map argsOf)) Lv w) := by
  have F : Hid (SeqP (((allL 0 ([] : List (Option Al))).map argsOf)) Lv w (.returned (.func (.func 80) #[] #[])) w) :=
    ⟨_, _, fun _ => False, rfl, enters_of Try.func80 (by kernel_rfl) rfl, Below.refl _ _, all1_tells w _, fun _ h => h.elim, fun _ h => h.elim⟩
  go_enter Try.func76, Try.ntmps76
  go_wp2_with fail
  go_ret
  exact F.out
/-- two boxes more, and what a sequence reads stands -/
theorem two_more {w2 : World} {K : Nat → Prop} (hc : ∀ k, K k → ∃ o : Obj, w2.heap[k]? = some o ∧ o.isCells = true) (o1 o2 : Obj) : KeepK K w2 ((w2.alloc o1).alloc o2) ∧ ∀ k, K k → ∃ o : Obj, ((w2.alloc o1).alloc o2).heap[k]? = some o ∧ o.isCells = true := by
  have b : Below w2.heap.size w2 ((w2.alloc o1).alloc o2) := below_alloc (below_alloc (Below.refl _ _) _) _
  have lt : ∀ k, K k → k < w2.heap.size := fun k hk => by
    obtain ⟨o, ho, _⟩ := hc k hk
    exact (Array.getElem?_eq_some_iff.1 ho).1
  exact ⟨keepK_below lt b, fun k hk => by
    obtain ⟨o, ho, h2⟩ := hc k hk
    exact ⟨o, (b.block k (lt k hk)).trans ho, h2⟩⟩
/-- Run and Holes, whatever First, Next and All answer -/
theorem run_of {p : Value} {F : Int} {ps : List (Option Al)} {Lv : Nat → Prop} (CN : Calls Try.prog 50 #[p] w fun e w' => e = .returned (.int .i64 (F + (nxt ps : Int))) ∧ ∃ k, w' = w.drewN k) (CA : ∀ q, Calls Try.prog 76 #[p] (w.drewN q) (SeqP ((allL F ps).map argsOf) Lv (w.drewN q))) :
    Calls Try.prog 77 #[p] w (SeqP ((runL F ps).map argsOf) Lv w) := by
  have CN' := hide CN
  have CA' := hide CA
  clear CN CA
  go_enter Try.func77, Try.ntmps77
  go_wp2_with fail
  refine CN'.out.mono ?_
  rintro e w1 ⟨rfl, q, rfl⟩
  go_wp2_with fail
  refine (CA'.out q).mono ?_
  rintro e w2 ⟨gf, lb, K, rfl, eg, hb, ht, hc, hk⟩
  have HB : Hid (Below w.heap.size w w2) := ⟨hb.os, hb.tape, hb.output, hb.size, hb.block⟩
  have HT := hide ht
  have HC := hide hc
  have HK : Hid (∀ k, K k → Lv k ∨ w.heap.size ≤ k) := hk
  have EG := hide eg
  clear hb ht hc hk eg
  go_wp2_with fail
  go_ret
  obtain ⟨k1, k2⟩ := two_more HC.out (.cells #[.int .i64 (F + (nxt ps : Int))] 3) (.cells #[.func (.func gf) #[] lb] 116)
  have b1 : Boxed ((w2.alloc (.cells #[.int .i64 (F + (nxt ps : Int))] 3)).alloc (.cells #[.func (.func gf) #[] lb] 116)) w2.heap.size 3 (.int .i64 (F + (nxt ps : Int))) := (Boxed.new w2 _ _).alloc _
  have b2 := box_two w2 (.cells #[.int .i64 (F + (nxt ps : Int))] 3) 116 (.func (.func gf) #[] lb)
  refine ⟨_, _, K2 (w2.heap.size + 1) w2.heap.size K, rfl, enters_of Try.func83 (by kernel_rfl) rfl, below_alloc (below_alloc HB.out _) _, run1_tells EG.out (HT.out.later k1) k2 b2 b1, fun k hk => ?_, fun k hk => ?_⟩
  · rcases hk with rfl | rfl | hk
    · exact ⟨_, b2, rfl⟩
    · exact ⟨_, b1, rfl⟩
    · exact k2 k hk
  · have := HB.out.size
    rcases hk with rfl | rfl | hk
    · exact .inr (by omega)
    · exact .inr this
    · exact HK.out k hk
theorem holes_of {p : Value} {F : Int} {ps : List (Option Al)} {Lv : Nat → Prop} (hF : 0 ≤ F ∧ F ≤ 1099511627776) (hm : ps.length ≤ 1024) (hlast : ∀ x, ps[ps.length - 1]? = some x → x.isSome = true) (CN : Calls Try.prog 49 #[p] w fun e w' => e = .returned (.int .i64 F) ∧ w' = w) (CA : Calls Try.prog 76 #[p] w (SeqP ((allL F ps).map argsOf) Lv w)) :
    Calls Try.prog 78 #[p] w (SeqP ((holesL F ps).map argH) Lv w) := by
  have CN' := hide CN
  have CA' := hide CA
  have HL := hide hlast
  clear CN CA hlast
  go_enter Try.func78, Try.ntmps78
  go_wp2_with fail
  refine CN'.out.mono ?_
  rintro e w1 ⟨rfl, rfl⟩
  go_wp2_with fail
  refine CA'.out.mono ?_
  rintro e w2 ⟨gf, lb, K, rfl, eg, hb, ht, hc, hk⟩
  have HB := hide hb
  have HT := hide ht
  have HC := hide hc
  have HK := hide hk
  have EG := hide eg
  clear hb ht hc hk eg
  go_wp2_with fail
  go_ret
  obtain ⟨k1, k2⟩ := two_more HC.out (.cells #[.int .i64 F] 3) (.cells #[.func (.func gf) #[] lb] 116)
  have b1 : Boxed ((w2.alloc (.cells #[.int .i64 F] 3)).alloc (.cells #[.func (.func gf) #[] lb] 116)) w2.heap.size 3 (.int .i64 F) := (Boxed.new w2 _ _).alloc _
  have b2 := box_two w2 (.cells #[.int .i64 F] 3) 116 (.func (.func gf) #[] lb)
  refine ⟨_, _, K2 (w2.heap.size + 1) w2.heap.size K, rfl, enters_of Try.func84 (by kernel_rfl) rfl, below_alloc (below_alloc HB.out _) _, holes1_tells EG.out hF hm HL.out (HT.out.later k1) k2 b2 b1, fun k hk => ?_, fun k hk => ?_⟩
  · rcases hk with rfl | rfl | hk
    · exact ⟨_, b2, rfl⟩
    · exact ⟨_, b1, rfl⟩
    · exact k2 k hk
  · have := HB.out.size
    rcases hk with rfl | rfl | hk
    · exact .inr (by omega)
    · exact .inr this
    · exact HK.out k hk
/-- what may be asked of a log, or of none: its three sequences -/
structure Asks (w : World) (p : Value) (F : Int) (ps : List (Option Al)) (Lv : Nat → Prop) : Prop where
  all : ∀ X, Below w.heap.size w X → Calls Try.prog 76 #[p] X (SeqP ((allL F ps).map argsOf) Lv X)
  run : ∀ X, Below w.heap.size w X → Calls Try.prog 77 #[p] X (SeqP ((runL F ps).map argsOf) Lv X)
  holes : ∀ X, Below w.heap.size w X → Calls Try.prog 78 #[p] X (SeqP ((holesL F ps).map argH) Lv X)
  most : ps.length ≤ 1024
  lt : ∀ k, Lv k → k < w.heap.size
theorem Lg.asks (h : Lg w P L s) : Asks w (.pointer (some ⟨P, 0, none⟩)) s.first s.ps (fun k => some k ∈ L.bs) := by
  have hm : s.ps.length ≤ 1024 := by have := h.ok.len; have := h.ok.m2; omega
  exact ⟨fun X hX => all_seq (h.below hX), fun X hX => run_of (next_any (h.below hX)) (fun q => all_seq ((h.below hX).drewN q)),
    fun X hX => holes_of ⟨by have := h.ok.f1; omega, h.ok.f2⟩ hm h.ok.last (first_any (h.below hX)) (all_seq (h.below hX)), hm, h.vlt⟩
theorem asks_nil (w : World) : Asks w (.pointer none) 0 [] (fun _ => False) :=
  ⟨fun X hX => all_seq_nil X _, fun X hX => run_of ((next_nil X).mono fun e w' ⟨a, b⟩ => ⟨a, 0, b⟩) (fun q => all_seq_nil _ _),
    fun X hX => holes_of ⟨by omega, by omega⟩ (by simp) (fun x h => by simp at h) (first_nil X) (all_seq_nil X _), by simp, fun _ h => h.elim⟩
end
end Go.Proofs.Ytcbijiielikfmaa.Ls
