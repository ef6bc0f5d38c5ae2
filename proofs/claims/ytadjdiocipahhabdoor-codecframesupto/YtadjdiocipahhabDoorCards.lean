/-
  DERIVED. GIVEN WITH THE SEED: THE CARDS: each row of YtadjdiocipahhabDoorRows.lean that lists a variable, with what it lists TIED to the program's text (the seventh form; the later family's looks); each row that meets fmt, with fmt's text TOLD by the authors' own Lean function (tested against real Go, not proved from fmt's source: count such statements apart). THE CARD IS WHAT COUNTS. Prove the row's statement (the work); the ties are given (YtadjdiocipahhabDoorTie.lean); close each card by the builder's one call (the guide's Derived/Test/ToyasCard.lean, 'card_holds'). Laid BY PROGRAM, IN A SANDBOX (cutbox-door.mjs). By AI agents, Wed Nov 11 2026. No macro, syntax, notation, axiom, sorry.
-/
import Derived.Test.YtadjdiocipahhabDoorRows
import GoSem.ClaimSeven
namespace Go.Proofs.YtadjdiocipahhabDoor
namespace Rows

/-- THE TIED CARD OF 'purselaw02.CodecFrames'. -/
def codecFramesCard : Claim7 := { stood := { row := codecFramesRow, standIns := [], harness := (true, "fe85086e031916f8f4fb1b64148cd3299de6c3d86def3dcb5395e31ddb5868f2"), looks := false }, kinds := [], alts := [], laidByText := true, laidKinds := [.data], laidTests := true, laidLooks := .later }
def CodecFramesCardSaid : Prop := Claim7.holds Tryd.pinned (.plain (OpenSpec.ofChange codecFramesSpec)) codecFramesCard

/-- THE TIED CARD OF 'purselaw02.CodecBurst'. -/
def codecBurstCard : Claim7 := { stood := { row := codecBurstRow, standIns := [], harness := (true, "fe85086e031916f8f4fb1b64148cd3299de6c3d86def3dcb5395e31ddb5868f2"), looks := false }, kinds := [], alts := [], laidByText := true, laidKinds := [.data], laidTests := true, laidLooks := .later }
def CodecBurstCardSaid : Prop := Claim7.holds Tryd.pinned (.plain (OpenSpec.ofChange codecBurstSpec)) codecBurstCard

/-- THE SECOND FORM's CARD OF 'purselaw02.CodecFrames'. -/
def codecFramesUptoCard : Claim7 := { stood := { row := codecFramesUptoRow, standIns := [], harness := (true, "fe85086e031916f8f4fb1b64148cd3299de6c3d86def3dcb5395e31ddb5868f2"), looks := false }, kinds := [], alts := [], laidByText := true, laidKinds := [.data], laidTests := true, laidLooks := .later }
def CodecFramesUptoCardSaid : Prop := Claim7.holds Tryd.pinned (.plain (OpenSpec.upto codecFramesSpec)) codecFramesUptoCard

/-- THE SECOND FORM's CARD OF 'purselaw02.CodecBurst'. -/
def codecBurstUptoCard : Claim7 := { stood := { row := codecBurstUptoRow, standIns := [], harness := (true, "fe85086e031916f8f4fb1b64148cd3299de6c3d86def3dcb5395e31ddb5868f2"), looks := false }, kinds := [], alts := [], laidByText := true, laidKinds := [.data], laidTests := true, laidLooks := .later }
def CodecBurstUptoCardSaid : Prop := Claim7.holds Tryd.pinned (.plain (OpenSpec.upto codecBurstSpec)) codecBurstUptoCard
end Rows
end Go.Proofs.YtadjdiocipahhabDoor
