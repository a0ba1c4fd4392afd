/-
  DERIVED. GIVEN WITH THE SEED: THE CARDS: each row of YtnchndcanhmbeaaGreatDoorRows.lean that lists a variable, with what it lists TIED to the program's text (the seventh form; the later family's looks); each row that meets fmt, with fmt's text TOLD by the authors' own Lean function (tested against real Go, not proved from fmt's source: count such statements apart). THE CARD IS WHAT COUNTS. Prove the row's statement (the work); the ties are given (YtnchndcanhmbeaaGreatDoorTie.lean); close each card by the builder's one call (the guide's Derived/Test/ToyasCard.lean, 'card_holds'). Laid BY PROGRAM, IN A SANDBOX (cutbox-door.mjs). By AI agents, Wed Nov 11 2026. No macro, syntax, notation, axiom, sorry.
-/
import Derived.Test.YtnchndcanhmbeaaGreatDoorRows
import GoSem.ClaimSeven
namespace Go.Proofs.YtnchndcanhmbeaaGreatDoor
namespace Rows

/-- THE TIED CARD OF 'laws.FnExactPutCommand'. -/
def fnExactPutCommandCard : Claim7 := { stood := { row := fnExactPutCommandRow, standIns := [], harness := (true, "67f81ebb1baf2ddd107a770b3bf7d636b2eabb4c2e3d748102423573f405c804"), looks := true }, kinds := [], alts := [], laidByText := true, laidKinds := [.data, .data, .data], laidTests := true, laidLooks := .later }
def FnExactPutCommandCardSaid : Prop := Claim7.holds Tryz.pinned (.plain (OpenSpec.ofChange fnExactPutCommandSpec)) fnExactPutCommandCard

/-- THE TIED CARD OF 'laws.FnExactGetCommand'. -/
def fnExactGetCommandCard : Claim7 := { stood := { row := fnExactGetCommandRow, standIns := [], harness := (true, "67f81ebb1baf2ddd107a770b3bf7d636b2eabb4c2e3d748102423573f405c804"), looks := true }, kinds := [], alts := [], laidByText := true, laidKinds := [.data, .data, .data], laidTests := true, laidLooks := .later }
def FnExactGetCommandCardSaid : Prop := Claim7.holds Tryz.pinned (.plain (OpenSpec.ofChange fnExactGetCommandSpec)) fnExactGetCommandCard

/-- THE SECOND FORM's CARD OF 'laws.FnExactPutCommand'. -/
def fnExactPutCommandUptoCard : Claim7 := { stood := { row := fnExactPutCommandUptoRow, standIns := [], harness := (true, "67f81ebb1baf2ddd107a770b3bf7d636b2eabb4c2e3d748102423573f405c804"), looks := true }, kinds := [], alts := [], laidByText := true, laidKinds := [.data, .data, .data], laidTests := true, laidLooks := .later }
def FnExactPutCommandUptoCardSaid : Prop := Claim7.holds Tryz.pinned (.plain (OpenSpec.upto fnExactPutCommandSpec)) fnExactPutCommandUptoCard

/-- THE SECOND FORM's CARD OF 'laws.FnExactGetCommand'. -/
def fnExactGetCommandUptoCard : Claim7 := { stood := { row := fnExactGetCommandUptoRow, standIns := [], harness := (true, "67f81ebb1baf2ddd107a770b3bf7d636b2eabb4c2e3d748102423573f405c804"), looks := true }, kinds := [], alts := [], laidByText := true, laidKinds := [.data, .data, .data], laidTests := true, laidLooks := .later }
def FnExactGetCommandUptoCardSaid : Prop := Claim7.holds Tryz.pinned (.plain (OpenSpec.upto fnExactGetCommandSpec)) fnExactGetCommandUptoCard
end Rows
end Go.Proofs.YtnchndcanhmbeaaGreatDoor
