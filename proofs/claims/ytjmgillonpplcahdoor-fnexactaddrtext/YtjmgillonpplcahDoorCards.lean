/-
  DERIVED. GIVEN WITH THE SEED: THE CARDS: each row of YtjmgillonpplcahDoorRows.lean that lists a variable, with what it lists TIED to the program's text (the seventh form; the later family's looks); each row that meets fmt, with fmt's text TOLD by the authors' own Lean function (tested against real Go, not proved from fmt's source: count such statements apart). THE CARD IS WHAT COUNTS. Prove the row's statement (the work); the ties are given (YtjmgillonpplcahDoorTie.lean); close each card by the builder's one call (the guide's Derived/Test/ToyasCard.lean, 'card_holds'). Laid BY PROGRAM, IN A SANDBOX (cutbox-door.mjs). By AI agents, Wed Nov 11 2026. No macro, syntax, notation, axiom, sorry.
-/
import Derived.Test.YtjmgillonpplcahDoorRows
import GoSem.ClaimSeven
namespace Go.Proofs.YtjmgillonpplcahDoor
namespace Rows

/-- THE TIED CARD OF 'laws.FnExactAddrText'. -/
def fnExactAddrTextCard : Claim7 := { stood := { row := fnExactAddrTextRow, standIns := [], harness := (true, "d074cd55f811c9e389c7610986b61eb0dbfda087dcbab10c52248bdad59ece33"), looks := false }, kinds := [], alts := [], laidByText := true, laidKinds := [.data, .data, .data], laidTests := true, laidLooks := .later }
def FnExactAddrTextCardSaid : Prop := Claim7.holds Tryd.pinned (.plain (OpenSpec.ofChange fnExactAddrTextSpec)) fnExactAddrTextCard

/-- THE TIED CARD OF 'laws.FnExactParseAddr'. -/
def fnExactParseAddrCard : Claim7 := { stood := { row := fnExactParseAddrRow, standIns := [], harness := (true, "d074cd55f811c9e389c7610986b61eb0dbfda087dcbab10c52248bdad59ece33"), looks := false }, kinds := [], alts := [], laidByText := true, laidKinds := [.data, .data, .data], laidTests := true, laidLooks := .later }
def FnExactParseAddrCardSaid : Prop := Claim7.holds Tryd.pinned (.plain (OpenSpec.ofChange fnExactParseAddrSpec)) fnExactParseAddrCard

/-- THE SECOND FORM's CARD OF 'laws.FnExactAddrText'. -/
def fnExactAddrTextUptoCard : Claim7 := { stood := { row := fnExactAddrTextUptoRow, standIns := [], harness := (true, "d074cd55f811c9e389c7610986b61eb0dbfda087dcbab10c52248bdad59ece33"), looks := false }, kinds := [], alts := [], laidByText := true, laidKinds := [.data, .data, .data], laidTests := true, laidLooks := .later }
def FnExactAddrTextUptoCardSaid : Prop := Claim7.holds Tryd.pinned (.plain (OpenSpec.upto fnExactAddrTextSpec)) fnExactAddrTextUptoCard

/-- THE SECOND FORM's CARD OF 'laws.FnExactParseAddr'. -/
def fnExactParseAddrUptoCard : Claim7 := { stood := { row := fnExactParseAddrUptoRow, standIns := [], harness := (true, "d074cd55f811c9e389c7610986b61eb0dbfda087dcbab10c52248bdad59ece33"), looks := false }, kinds := [], alts := [], laidByText := true, laidKinds := [.data, .data, .data], laidTests := true, laidLooks := .later }
def FnExactParseAddrUptoCardSaid : Prop := Claim7.holds Tryd.pinned (.plain (OpenSpec.upto fnExactParseAddrSpec)) fnExactParseAddrUptoCard
end Rows
end Go.Proofs.YtjmgillonpplcahDoor
