/-
  No cell of these rows narrows 'for every input' (looked for: loops, veiled, ifaces, maps, wideKeys, modest, calm, conditions, laid).
  DERIVED. THE GIVEN ROWS OF THIS SEAT. 6 by the template 'for every input the law returns true; each argument reads behind the call as it read before'; 0 by the template 'total and deterministic' (their statements: YtjcbhgkfbilifaaTotals.lean).
  GIVEN WITH THE SEED: the statements are not yours to turn. If you find one false, say at which input.
  Laid BY PROGRAM, IN A SANDBOX (cutbox-rows.mjs): the forced cells as the released guide's own fill.sh prints them over the translation 219060cf44f99e4b… (all of the seat's roots in one cut). By AI agents, Wed Nov 11 2026. No macro, syntax, notation, axiom, sorry.
-/
import Derived.Test.YtjcbhgkfbilifaaChecked
import GoSem.Claim
import GoSem.ClaimJoined
import GoSem.ClaimMapViews
import Derived.JoinedTies
import Derived.KernelRfl
namespace Go.Proofs.Ytjcbhgkfbilifaa
/- THE CELL 'sum', in the pinned program and in every row, IS THE sha256 OF THE DUMP (.gsa) THAT YtjcbhgkfbilifaaProg.lean LOADS. Nothing in Lean hashes anything: it is a label: what it is worth is what the hold of that sum in a sandbox is worth. -/
noncomputable def Try.pinned : Pinned := { name := "ytjcbhgkfbilifaa", sum := "219060cf44f99e4bbddc30e70de8932d080d37f930a729d5c3d95309f9e7ca28", checked := Try.checked }
namespace Rows
def none {H : Type} : Left H := { results := [], args := [] }

/-- 'purselaw15.AccountPlays': WHATEVER THE INPUT: true; the input reads as it did. -/
def accountPlaysSpec : ChangeSpec := { name := "accountPlays", fn := fun _ => fun
  | [d1, d2, d3] => { results := [.lit (.bool true)], args := [d1, d2, d3] }
  | _ => none }
def accountPlaysRow : OpenClaim := { program := "ytjcbhgkfbilifaa", sum := "219060cf44f99e4bbddc30e70de8932d080d37f930a729d5c3d95309f9e7ca28", func := "purse/purselaw15.AccountPlays", spec := "accountPlays", inPlace := ["slices.overlaps[purse/api.Holder]", "math/bits.Add64"], unfollowed := true, recurses := true, plainKeys := false, apart := false }
def AccountPlaysSaid : Prop := accountPlaysRow.holds Try.pinned (OpenSpec.ofChange accountPlaysSpec)

/-- ITS FALSE NEIGHBOUR: 'it returns false'. Refute it at one input. -/
def accountPlaysWrong : ChangeSpec := { name := "accountPlays", fn := fun _ => fun
  | [d1, d2, d3] => { results := [.lit (.bool false)], args := [d1, d2, d3] }
  | _ => none }
def AccountPlaysWrongFalsely : Prop := accountPlaysRow.holds Try.pinned (OpenSpec.ofChange accountPlaysWrong)

/-- 'purselaw16.LedgerPlays': WHATEVER THE INPUT: true; the input reads as it did. -/
def ledgerPlaysSpec : ChangeSpec := { name := "ledgerPlays", fn := fun _ => fun
  | [d1, d2, d3, d4, d5] => { results := [.lit (.bool true)], args := [d1, d2, d3, d4, d5] }
  | _ => none }
def ledgerPlaysRow : OpenClaim := { program := "ytjcbhgkfbilifaa", sum := "219060cf44f99e4bbddc30e70de8932d080d37f930a729d5c3d95309f9e7ca28", func := "purse/purselaw16.LedgerPlays", spec := "ledgerPlays", inPlace := ["internal/bytealg.abigen_runtime_cmpstring", "slices.overlaps[purse/api.Right]"], unfollowed := true, recurses := true, plainKeys := false, apart := false }
def LedgerPlaysSaid : Prop := ledgerPlaysRow.holds Try.pinned (OpenSpec.ofChange ledgerPlaysSpec)

/-- ITS FALSE NEIGHBOUR: 'it returns false'. Refute it at one input. -/
def ledgerPlaysWrong : ChangeSpec := { name := "ledgerPlays", fn := fun _ => fun
  | [d1, d2, d3, d4, d5] => { results := [.lit (.bool false)], args := [d1, d2, d3, d4, d5] }
  | _ => none }
def LedgerPlaysWrongFalsely : Prop := ledgerPlaysRow.holds Try.pinned (OpenSpec.ofChange ledgerPlaysWrong)

/-- 'purselaw16.LedgerSpends': WHATEVER THE INPUT: true; the input reads as it did. -/
def ledgerSpendsSpec : ChangeSpec := { name := "ledgerSpends", fn := fun _ => fun
  | [d1, d2, d3, d4, d5] => { results := [.lit (.bool true)], args := [d1, d2, d3, d4, d5] }
  | _ => none }
def ledgerSpendsRow : OpenClaim := { program := "ytjcbhgkfbilifaa", sum := "219060cf44f99e4bbddc30e70de8932d080d37f930a729d5c3d95309f9e7ca28", func := "purse/purselaw16.LedgerSpends", spec := "ledgerSpends", inPlace := ["internal/bytealg.abigen_runtime_cmpstring", "math/bits.Add64", "slices.overlaps[purse/api.Right]"], unfollowed := true, recurses := true, plainKeys := false, apart := false }
def LedgerSpendsSaid : Prop := ledgerSpendsRow.holds Try.pinned (OpenSpec.ofChange ledgerSpendsSpec)

/-- ITS FALSE NEIGHBOUR: 'it returns false'. Refute it at one input. -/
def ledgerSpendsWrong : ChangeSpec := { name := "ledgerSpends", fn := fun _ => fun
  | [d1, d2, d3, d4, d5] => { results := [.lit (.bool false)], args := [d1, d2, d3, d4, d5] }
  | _ => none }
def LedgerSpendsWrongFalsely : Prop := ledgerSpendsRow.holds Try.pinned (OpenSpec.ofChange ledgerSpendsWrong)

/-- 'purselaw16.LedgerTrims': WHATEVER THE INPUT: true; the input reads as it did. -/
def ledgerTrimsSpec : ChangeSpec := { name := "ledgerTrims", fn := fun _ => fun
  | [d1, d2, d3, d4] => { results := [.lit (.bool true)], args := [d1, d2, d3, d4] }
  | _ => none }
def ledgerTrimsRow : OpenClaim := { program := "ytjcbhgkfbilifaa", sum := "219060cf44f99e4bbddc30e70de8932d080d37f930a729d5c3d95309f9e7ca28", func := "purse/purselaw16.LedgerTrims", spec := "ledgerTrims", inPlace := ["internal/bytealg.abigen_runtime_cmpstring", "math/bits.Add64", "slices.overlaps[purse/api.Right]"], unfollowed := true, recurses := true, plainKeys := false, apart := false }
def LedgerTrimsSaid : Prop := ledgerTrimsRow.holds Try.pinned (OpenSpec.ofChange ledgerTrimsSpec)

/-- ITS FALSE NEIGHBOUR: 'it returns false'. Refute it at one input. -/
def ledgerTrimsWrong : ChangeSpec := { name := "ledgerTrims", fn := fun _ => fun
  | [d1, d2, d3, d4] => { results := [.lit (.bool false)], args := [d1, d2, d3, d4] }
  | _ => none }
def LedgerTrimsWrongFalsely : Prop := ledgerTrimsRow.holds Try.pinned (OpenSpec.ofChange ledgerTrimsWrong)

/-- 'purselaw16.LedgerPuts': WHATEVER THE INPUT: true; the input reads as it did. -/
def ledgerPutsSpec : ChangeSpec := { name := "ledgerPuts", fn := fun _ => fun
  | [d1, d2, d3, d4, d5] => { results := [.lit (.bool true)], args := [d1, d2, d3, d4, d5] }
  | _ => none }
def ledgerPutsRow : OpenClaim := { program := "ytjcbhgkfbilifaa", sum := "219060cf44f99e4bbddc30e70de8932d080d37f930a729d5c3d95309f9e7ca28", func := "purse/purselaw16.LedgerPuts", spec := "ledgerPuts", inPlace := ["internal/bytealg.abigen_runtime_cmpstring", "slices.overlaps[purse/api.Right]"], unfollowed := true, recurses := true, plainKeys := false, apart := false }
def LedgerPutsSaid : Prop := ledgerPutsRow.holds Try.pinned (OpenSpec.ofChange ledgerPutsSpec)

/-- ITS FALSE NEIGHBOUR: 'it returns false'. Refute it at one input. -/
def ledgerPutsWrong : ChangeSpec := { name := "ledgerPuts", fn := fun _ => fun
  | [d1, d2, d3, d4, d5] => { results := [.lit (.bool false)], args := [d1, d2, d3, d4, d5] }
  | _ => none }
def LedgerPutsWrongFalsely : Prop := ledgerPutsRow.holds Try.pinned (OpenSpec.ofChange ledgerPutsWrong)

/-- 'purselaw16.LedgerNever': WHATEVER THE INPUT: true; the input reads as it did. -/
def ledgerNeverSpec : ChangeSpec := { name := "ledgerNever", fn := fun _ => fun
  | [d1, d2, d3] => { results := [.lit (.bool true)], args := [d1, d2, d3] }
  | _ => none }
def ledgerNeverRow : OpenClaim := { program := "ytjcbhgkfbilifaa", sum := "219060cf44f99e4bbddc30e70de8932d080d37f930a729d5c3d95309f9e7ca28", func := "purse/purselaw16.LedgerNever", spec := "ledgerNever", inPlace := ["internal/bytealg.abigen_runtime_cmpstring", "slices.overlaps[purse/api.Right]", "math/bits.Add64", "slices.overlaps[purse/api.Holder]"], unfollowed := true, recurses := true, plainKeys := false, apart := false }
def LedgerNeverSaid : Prop := ledgerNeverRow.holds Try.pinned (OpenSpec.ofChange ledgerNeverSpec)

/-- ITS FALSE NEIGHBOUR: 'it returns false'. Refute it at one input. -/
def ledgerNeverWrong : ChangeSpec := { name := "ledgerNever", fn := fun _ => fun
  | [d1, d2, d3] => { results := [.lit (.bool false)], args := [d1, d2, d3] }
  | _ => none }
def LedgerNeverWrongFalsely : Prop := ledgerNeverRow.holds Try.pinned (OpenSpec.ofChange ledgerNeverWrong)

/- THE SECOND FORM. 'bulk': how many values and letters a reading holds, each counted each time it is reached (what is shared counts as often as it is met; a slice's spare places count too). A statement '..UptoSaid' is the law's where the arguments, and the package variables that the reading takes, are together of bulk at most 1048576: NARROWER than '..Said'. Prove '..Said' where nothing that the law and all that it calls make is longer than what came in: it says more and counts as full. Else prove '..UptoSaid'. A law counts once. -/
mutual
def uptoBulk {H : Type} : DataW H → Nat
  | .lit (.string bytes) => bytes.length + 1
  | .lit _ => 1
  | .nil => 1
  | .ptr d => uptoBulk d + 1
  | .slice elems spare => uptoBulkAll elems + uptoBulkAll spare + 1
  | .agg parts => uptoBulkAll parts + 1
  | .iface _ d => uptoBulk d + 1
  | .map entries => uptoBulkEntries entries + 1
  | .held _ => 1
def uptoBulkAll {H : Type} : List (DataW H) → Nat
  | [] => 0
  | d :: r => uptoBulk d + uptoBulkAll r
def uptoBulkEntries {H : Type} : List (Lit × DataW H) → Nat
  | [] => 0
  | x :: r => uptoBulkEntry x + uptoBulkEntries r
def uptoBulkEntry {H : Type} : Lit × DataW H → Nat
  | (.string bytes, d) => bytes.length + uptoBulk d + 1
  | (_, d) => uptoBulk d + 1
 end
def uptoSmall : (H : Type) → List (DataW H) → Bool := fun _ ds => decide (uptoBulkAll ds ≤ 1048576)
def OpenSpec.upto (s : _root_.Go.ChangeSpec) : _root_.Go.OpenSpec := { _root_.Go.OpenSpec.ofChange s with cond := some uptoSmall }

/-- 'purselaw15.AccountPlays', WHERE WHAT IT READS IS OF BULK AT MOST 1048576: true; the input reads as it did. -/
def accountPlaysUptoRow : OpenClaim := { program := "ytjcbhgkfbilifaa", sum := "219060cf44f99e4bbddc30e70de8932d080d37f930a729d5c3d95309f9e7ca28", func := "purse/purselaw15.AccountPlays", spec := "accountPlays", inPlace := ["slices.overlaps[purse/api.Holder]", "math/bits.Add64"], unfollowed := true, recurses := true, plainKeys := false, apart := false, narrowed := true }
def AccountPlaysUptoSaid : Prop := accountPlaysUptoRow.holds Try.pinned (OpenSpec.upto accountPlaysSpec)

/-- 'purselaw16.LedgerPlays', WHERE WHAT IT READS IS OF BULK AT MOST 1048576: true; the input reads as it did. -/
def ledgerPlaysUptoRow : OpenClaim := { program := "ytjcbhgkfbilifaa", sum := "219060cf44f99e4bbddc30e70de8932d080d37f930a729d5c3d95309f9e7ca28", func := "purse/purselaw16.LedgerPlays", spec := "ledgerPlays", inPlace := ["internal/bytealg.abigen_runtime_cmpstring", "slices.overlaps[purse/api.Right]"], unfollowed := true, recurses := true, plainKeys := false, apart := false, narrowed := true }
def LedgerPlaysUptoSaid : Prop := ledgerPlaysUptoRow.holds Try.pinned (OpenSpec.upto ledgerPlaysSpec)

/-- 'purselaw16.LedgerSpends', WHERE WHAT IT READS IS OF BULK AT MOST 1048576: true; the input reads as it did. -/
def ledgerSpendsUptoRow : OpenClaim := { program := "ytjcbhgkfbilifaa", sum := "219060cf44f99e4bbddc30e70de8932d080d37f930a729d5c3d95309f9e7ca28", func := "purse/purselaw16.LedgerSpends", spec := "ledgerSpends", inPlace := ["internal/bytealg.abigen_runtime_cmpstring", "math/bits.Add64", "slices.overlaps[purse/api.Right]"], unfollowed := true, recurses := true, plainKeys := false, apart := false, narrowed := true }
def LedgerSpendsUptoSaid : Prop := ledgerSpendsUptoRow.holds Try.pinned (OpenSpec.upto ledgerSpendsSpec)

/-- 'purselaw16.LedgerTrims', WHERE WHAT IT READS IS OF BULK AT MOST 1048576: true; the input reads as it did. -/
def ledgerTrimsUptoRow : OpenClaim := { program := "ytjcbhgkfbilifaa", sum := "219060cf44f99e4bbddc30e70de8932d080d37f930a729d5c3d95309f9e7ca28", func := "purse/purselaw16.LedgerTrims", spec := "ledgerTrims", inPlace := ["internal/bytealg.abigen_runtime_cmpstring", "math/bits.Add64", "slices.overlaps[purse/api.Right]"], unfollowed := true, recurses := true, plainKeys := false, apart := false, narrowed := true }
def LedgerTrimsUptoSaid : Prop := ledgerTrimsUptoRow.holds Try.pinned (OpenSpec.upto ledgerTrimsSpec)

/-- 'purselaw16.LedgerPuts', WHERE WHAT IT READS IS OF BULK AT MOST 1048576: true; the input reads as it did. -/
def ledgerPutsUptoRow : OpenClaim := { program := "ytjcbhgkfbilifaa", sum := "219060cf44f99e4bbddc30e70de8932d080d37f930a729d5c3d95309f9e7ca28", func := "purse/purselaw16.LedgerPuts", spec := "ledgerPuts", inPlace := ["internal/bytealg.abigen_runtime_cmpstring", "slices.overlaps[purse/api.Right]"], unfollowed := true, recurses := true, plainKeys := false, apart := false, narrowed := true }
def LedgerPutsUptoSaid : Prop := ledgerPutsUptoRow.holds Try.pinned (OpenSpec.upto ledgerPutsSpec)

/-- 'purselaw16.LedgerNever', WHERE WHAT IT READS IS OF BULK AT MOST 1048576: true; the input reads as it did. -/
def ledgerNeverUptoRow : OpenClaim := { program := "ytjcbhgkfbilifaa", sum := "219060cf44f99e4bbddc30e70de8932d080d37f930a729d5c3d95309f9e7ca28", func := "purse/purselaw16.LedgerNever", spec := "ledgerNever", inPlace := ["internal/bytealg.abigen_runtime_cmpstring", "slices.overlaps[purse/api.Right]", "math/bits.Add64", "slices.overlaps[purse/api.Holder]"], unfollowed := true, recurses := true, plainKeys := false, apart := false, narrowed := true }
def LedgerNeverUptoSaid : Prop := ledgerNeverUptoRow.holds Try.pinned (OpenSpec.upto ledgerNeverSpec)

end Rows
end Go.Proofs.Ytjcbhgkfbilifaa
