/- The law folder's vote and ran: an acceptor that a list of calls was told to. No condition. -/
import Derived.Test.YtdnniokpkamjjabAccOps
import Derived.Test.YtdnniokpkamjjabAccAccept
import Derived.Test.YtdnniokpkamjjabAccForget
namespace Go.Proofs.Ytdnniokpkamjjab
open Go.ChangeShapes Go.WideShapes Go.ChangeAt Go.RowKit B8 Am
set_option linter.unusedVariables false

theorem vote_any (k : Int) (p : Vv) (w : World) :
    Calls Try.prog 9 #[.agg #[.int .i64 k, .int .i64 p.s, .int .i64 p.r, .int .i64 p.n, .slice p.a p.m p.cp]] w fun e w' => e = .returned (.agg #[.int .i64 p.s, .int .i64 p.r, .int .i64 p.n, .slice p.a p.m p.cp]) ∧ Below w.heap.size w w' := by
  go_enter Try.func9, Try.ntmps9
  go_wp2_with fail
  go_returns
  exact ⟨rfl, by go_grown⟩
/-- an acceptor whose blocks that may be written lie from N on -/
structure AcN (w : World) (N : Nat) (P : Nat → Prop) (A mb : Nat) (s : As) : Prop where
  ac : Ac w P A mb s
  hA : N ≤ A
  hM : N ≤ mb
theorem AcN.below {w w' : World} {N : Nat} {P : Nat → Prop} {A mb : Nat} {s : As} (h : AcN w N P A mb s) (hb : Below w.heap.size w w') : AcN w' N P A mb s := ⟨h.ac.below hb, h.hA, h.hM⟩
theorem AcN.from {w : World} {N : Nat} {P : Nat → Prop} {A mb : Nat} {s : As} (h : AcN w N P A mb s) : ∀ k, AM A mb k → N ≤ k := fun k hk => by
  rcases hk with rfl | rfl
  · exact h.hA
  · exact h.hM
theorem AcN.move {w w' : World} {N : Nat} {P : Nat → Prop} {A mb : Nat} {s s' : As} (h : AcN w N P A mb s) (hN : N ≤ w.heap.size) (hm : Mv w P A mb s' w') : AcN w' N P A mb s' ∧ Below N w w' :=
  ⟨⟨hm.2, h.hA, h.hM⟩, hm.1.below hN h.from⟩
theorem opc_cells {w : World} {b off : Nat} {kind : Int} {v : Vv} (h : w.rangeAt b off (opc ⟨kind, v⟩)) :
    w.cell? ⟨b, off, none⟩ = some (.int .i64 kind) ∧ w.cell? ⟨b, off + 1, none⟩ = some (.int .i64 v.s) ∧ w.cell? ⟨b, off + 2, none⟩ = some (.int .i64 v.r) ∧ w.cell? ⟨b, off + 3, none⟩ = some (.int .i64 v.n) ∧ w.cell? ⟨b, off + 4, none⟩ = some (.slice v.a v.m v.cp) :=
  ⟨h 0 _ rfl, h 1 _ rfl, h 2 _ rfl, h 3 _ rfl, h 4 _ rfl⟩
/-- what a call makes of an acceptor -/
def opS (s : As) (o : Opd) : As := if o.kind = 1 then prepS s o.v.r o.v.n else if o.kind = 2 then forgS s o.v.s else accS s o.v.vt
def runS (os : Nat → Opd) : Nat → As
  | 0 => newS
  | k + 1 => opS (runS os k) (os k)
end Go.Proofs.Ytdnniokpkamjjab
