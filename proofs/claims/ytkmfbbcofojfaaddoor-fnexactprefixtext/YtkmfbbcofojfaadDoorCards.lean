/-
  DERIVED. GIVEN WITH THE SEED: THE CARDS: each row of YtkmfbbcofojfaadDoorRows.lean that lists a variable, with what it lists TIED to the program's text (the seventh form; the later family's looks); each row that meets fmt, with fmt's text TOLD by the authors' own Lean function (tested against real Go, not proved from fmt's source: count such statements apart). THE CARD IS WHAT COUNTS. Prove the row's statement (the work); the ties are given (YtkmfbbcofojfaadDoorTie.lean); close each card by the builder's one call (the guide's Derived/Test/ToyasCard.lean, 'card_holds'). Laid BY PROGRAM, IN A SANDBOX (cutbox-door.mjs). By AI agents, Wed Nov 11 2026. No macro, syntax, notation, axiom, sorry.
-/
import Derived.Test.YtkmfbbcofojfaadDoorRows
import GoSem.ClaimSeven
namespace Go.Proofs.YtkmfbbcofojfaadDoor
namespace Rows

/-- THE TIED CARD OF 'laws.FnExactPrefixText'. -/
def fnExactPrefixTextCard : Claim7 := { stood := { row := fnExactPrefixTextRow, standIns := [], harness := (true, "33fcc7a7e62c914b3e208746eb7b0cf33eb834229f41f6b4bd5af77c9d7921f8"), looks := true }, kinds := [], alts := [], laidByText := true, laidKinds := [.data, .data, .data], laidTests := true, laidLooks := .later }
def FnExactPrefixTextCardSaid : Prop := Claim7.holds Tryd.pinned (.plain (OpenSpec.ofChange fnExactPrefixTextSpec)) fnExactPrefixTextCard

/-- THE TIED CARD OF 'laws.FnExactParsePrefix'. -/
def fnExactParsePrefixCard : Claim7 := { stood := { row := fnExactParsePrefixRow, standIns := [], harness := (true, "33fcc7a7e62c914b3e208746eb7b0cf33eb834229f41f6b4bd5af77c9d7921f8"), looks := true }, kinds := [], alts := [], laidByText := true, laidKinds := [.data, .data, .data, .sentinel, .sentinel], laidTests := true, laidLooks := .later }
def FnExactParsePrefixCardSaid : Prop := Claim7.holds Tryd.pinned (.plain (OpenSpec.ofChange fnExactParsePrefixSpec)) fnExactParsePrefixCard

/-- THE SECOND FORM's CARD OF 'laws.FnExactPrefixText'. -/
def fnExactPrefixTextUptoCard : Claim7 := { stood := { row := fnExactPrefixTextUptoRow, standIns := [], harness := (true, "33fcc7a7e62c914b3e208746eb7b0cf33eb834229f41f6b4bd5af77c9d7921f8"), looks := true }, kinds := [], alts := [], laidByText := true, laidKinds := [.data, .data, .data], laidTests := true, laidLooks := .later }
def FnExactPrefixTextUptoCardSaid : Prop := Claim7.holds Tryd.pinned (.plain (OpenSpec.upto fnExactPrefixTextSpec)) fnExactPrefixTextUptoCard

/-- THE SECOND FORM's CARD OF 'laws.FnExactParsePrefix'. -/
def fnExactParsePrefixUptoCard : Claim7 := { stood := { row := fnExactParsePrefixUptoRow, standIns := [], harness := (true, "33fcc7a7e62c914b3e208746eb7b0cf33eb834229f41f6b4bd5af77c9d7921f8"), looks := true }, kinds := [], alts := [], laidByText := true, laidKinds := [.data, .data, .data, .sentinel, .sentinel], laidTests := true, laidLooks := .later }
def FnExactParsePrefixUptoCardSaid : Prop := Claim7.holds Tryd.pinned (.plain (OpenSpec.upto fnExactParsePrefixSpec)) fnExactParsePrefixUptoCard
end Rows
end Go.Proofs.YtkmfbbcofojfaadDoor
