/-
  DERIVED. GIVEN WITH THE SEED: THE CARDS: each row of YtadjdiocipahhaaDoorRows.lean that lists a variable, with what it lists TIED to the program's text (the seventh form; the later family's looks); each row that meets fmt, with fmt's text TOLD by the authors' own Lean function (tested against real Go, not proved from fmt's source: count such statements apart). THE CARD IS WHAT COUNTS. Prove the row's statement (the work); the ties are given (YtadjdiocipahhaaDoorTie.lean); close each card by the builder's one call (the guide's Derived/Test/ToyasCard.lean, 'card_holds'). Laid BY PROGRAM, IN A SANDBOX (cutbox-door.mjs). By AI agents, Wed Nov 11 2026. No macro, syntax, notation, axiom, sorry.
-/
import Derived.Test.YtadjdiocipahhaaDoorRows
import GoSem.ClaimSeven
namespace Go.Proofs.YtadjdiocipahhaaDoor
namespace Rows

/-- THE TIED CARD OF 'purselaw02.CodecWrites'. -/
def codecWritesCard : Claim7 := { stood := { row := codecWritesRow, standIns := [], harness := (true, "e8ac0f577012b170dd8e888edeabb688882b46013038f8d1647610461343e47c"), looks := false }, kinds := [], alts := [], laidByText := true, laidKinds := [.data], laidTests := true, laidLooks := .later }
def CodecWritesCardSaid : Prop := Claim7.holds Tryd.pinned (.plain (OpenSpec.ofChange codecWritesSpec)) codecWritesCard

/-- THE TIED CARD OF 'purselaw02.CodecUnframes'. -/
def codecUnframesCard : Claim7 := { stood := { row := codecUnframesRow, standIns := [], harness := (true, "e8ac0f577012b170dd8e888edeabb688882b46013038f8d1647610461343e47c"), looks := false }, kinds := [], alts := [], laidByText := true, laidKinds := [.data], laidTests := true, laidLooks := .later }
def CodecUnframesCardSaid : Prop := Claim7.holds Tryd.pinned (.plain (OpenSpec.ofChange codecUnframesSpec)) codecUnframesCard

/-- THE SECOND FORM's CARD OF 'purselaw02.CodecWrites'. -/
def codecWritesUptoCard : Claim7 := { stood := { row := codecWritesUptoRow, standIns := [], harness := (true, "e8ac0f577012b170dd8e888edeabb688882b46013038f8d1647610461343e47c"), looks := false }, kinds := [], alts := [], laidByText := true, laidKinds := [.data], laidTests := true, laidLooks := .later }
def CodecWritesUptoCardSaid : Prop := Claim7.holds Tryd.pinned (.plain (OpenSpec.upto codecWritesSpec)) codecWritesUptoCard

/-- THE SECOND FORM's CARD OF 'purselaw02.CodecUnframes'. -/
def codecUnframesUptoCard : Claim7 := { stood := { row := codecUnframesUptoRow, standIns := [], harness := (true, "e8ac0f577012b170dd8e888edeabb688882b46013038f8d1647610461343e47c"), looks := false }, kinds := [], alts := [], laidByText := true, laidKinds := [.data], laidTests := true, laidLooks := .later }
def CodecUnframesUptoCardSaid : Prop := Claim7.holds Tryd.pinned (.plain (OpenSpec.upto codecUnframesSpec)) codecUnframesUptoCard
end Rows
end Go.Proofs.YtadjdiocipahhaaDoor
