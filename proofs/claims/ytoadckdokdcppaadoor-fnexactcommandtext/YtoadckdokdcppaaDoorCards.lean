/-
  DERIVED. GIVEN WITH THE SEED: THE CARDS: each row of YtoadckdokdcppaaDoorRows.lean that lists a variable, with what it lists TIED to the program's text (the seventh form; the later family's looks); each row that meets fmt, with fmt's text TOLD by the authors' own Lean function (tested against real Go, not proved from fmt's source: count such statements apart). THE CARD IS WHAT COUNTS. Prove the row's statement (the work); the ties are given (YtoadckdokdcppaaDoorTie.lean); close each card by the builder's one call (the guide's Derived/Test/ToyasCard.lean, 'card_holds'). Laid BY PROGRAM, IN A SANDBOX (cutbox-door.mjs). By AI agents, Wed Nov 11 2026. No macro, syntax, notation, axiom, sorry.
-/
import Derived.Test.YtoadckdokdcppaaDoorRows
import GoSem.ClaimSeven
namespace Go.Proofs.YtoadckdokdcppaaDoor
namespace Rows

/-- THE TIED CARD OF 'laws.FnExactCommandOk'. -/
def fnExactCommandOkCard : Claim7 := { stood := { row := fnExactCommandOkRow, standIns := [], harness := (true, "fb89e2209a32d5884ee5fbe8d6a82bb4dd73f7812b5e4cdba7f3e77242aa4d8c"), looks := true }, kinds := [], alts := [], laidByText := true, laidKinds := [.data, .data, .data], laidTests := true, laidLooks := .later }
def FnExactCommandOkCardSaid : Prop := Claim7.holds Tryd.pinned (.plain (OpenSpec.ofChange fnExactCommandOkSpec)) fnExactCommandOkCard

/-- THE TIED CARD OF 'laws.FnExactCommandText'. -/
def fnExactCommandTextCard : Claim7 := { stood := { row := fnExactCommandTextRow, standIns := [], harness := (true, "fb89e2209a32d5884ee5fbe8d6a82bb4dd73f7812b5e4cdba7f3e77242aa4d8c"), looks := true }, kinds := [], alts := [], laidByText := true, laidKinds := [.data, .data, .data], laidTests := true, laidLooks := .later }
def FnExactCommandTextCardSaid : Prop := Claim7.holds Tryd.pinned (.plain (OpenSpec.ofChange fnExactCommandTextSpec)) fnExactCommandTextCard

/-- THE SECOND FORM's CARD OF 'laws.FnExactCommandOk'. -/
def fnExactCommandOkUptoCard : Claim7 := { stood := { row := fnExactCommandOkUptoRow, standIns := [], harness := (true, "fb89e2209a32d5884ee5fbe8d6a82bb4dd73f7812b5e4cdba7f3e77242aa4d8c"), looks := true }, kinds := [], alts := [], laidByText := true, laidKinds := [.data, .data, .data], laidTests := true, laidLooks := .later }
def FnExactCommandOkUptoCardSaid : Prop := Claim7.holds Tryd.pinned (.plain (OpenSpec.upto fnExactCommandOkSpec)) fnExactCommandOkUptoCard

/-- THE SECOND FORM's CARD OF 'laws.FnExactCommandText'. -/
def fnExactCommandTextUptoCard : Claim7 := { stood := { row := fnExactCommandTextUptoRow, standIns := [], harness := (true, "fb89e2209a32d5884ee5fbe8d6a82bb4dd73f7812b5e4cdba7f3e77242aa4d8c"), looks := true }, kinds := [], alts := [], laidByText := true, laidKinds := [.data, .data, .data], laidTests := true, laidLooks := .later }
def FnExactCommandTextUptoCardSaid : Prop := Claim7.holds Tryd.pinned (.plain (OpenSpec.upto fnExactCommandTextSpec)) fnExactCommandTextUptoCard
end Rows
end Go.Proofs.YtoadckdokdcppaaDoor
