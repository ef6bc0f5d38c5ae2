/-
  DERIVED. GIVEN WITH THE SEED: THE CARDS: each row of YtgenfklbponodaaDoorRows.lean that lists a variable, with what it lists TIED to the program's text (the seventh form; the later family's looks); each row that meets fmt, with fmt's text TOLD by the authors' own Lean function (tested against real Go, not proved from fmt's source: count such statements apart). THE CARD IS WHAT COUNTS. Prove the row's statement (the work); the ties are given (YtgenfklbponodaaDoorTie.lean); close each card by the builder's one call (the guide's Derived/Test/ToyasCard.lean, 'card_holds'). Laid BY PROGRAM, IN A SANDBOX (cutbox-door.mjs). By AI agents, Wed Nov 11 2026. No macro, syntax, notation, axiom, sorry.
-/
import Derived.Test.YtgenfklbponodaaDoorRows
import GoSem.ClaimSeven
namespace Go.Proofs.YtgenfklbponodaaDoor
namespace Rows

/-- THE TIED CARD OF 'purselaw02.CodecBurst'. -/
def codecBurstCard : Claim7 := { stood := { row := codecBurstRow, standIns := [], harness := (true, "ac014c9c6a9dfb0d470212034239488cec8330bac73bd4bf29f316da2cef74f7"), looks := false }, kinds := [], alts := [], laidByText := true, laidKinds := [.data], laidTests := true, laidLooks := .later }
def CodecBurstCardSaid : Prop := Claim7.holds Tryd.pinned (.plain (OpenSpec.ofChange codecBurstSpec)) codecBurstCard

/-- THE SECOND FORM's CARD OF 'purselaw02.CodecBurst'. -/
def codecBurstUptoCard : Claim7 := { stood := { row := codecBurstUptoRow, standIns := [], harness := (true, "ac014c9c6a9dfb0d470212034239488cec8330bac73bd4bf29f316da2cef74f7"), looks := false }, kinds := [], alts := [], laidByText := true, laidKinds := [.data], laidTests := true, laidLooks := .later }
def CodecBurstUptoCardSaid : Prop := Claim7.holds Tryd.pinned (.plain (OpenSpec.upto codecBurstSpec)) codecBurstUptoCard
end Rows
end Go.Proofs.YtgenfklbponodaaDoor
