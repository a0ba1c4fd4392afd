/-
  DERIVED. GIVEN WITH THE SEED: THE CARDS: each row of YtafbekjpmjjlpaaGreatDoorRows.lean that lists a variable, with what it lists TIED to the program's text (the seventh form; the later family's looks); each row that meets fmt, with fmt's text TOLD by the authors' own Lean function (tested against real Go, not proved from fmt's source: count such statements apart). THE CARD IS WHAT COUNTS. Prove the row's statement (the work); the ties are given (YtafbekjpmjjlpaaGreatDoorTie.lean); close each card by the builder's one call (the guide's Derived/Test/ToyasCard.lean, 'card_holds'). Laid BY PROGRAM, IN A SANDBOX (cutbox-door.mjs). By AI agents, Wed Nov 11 2026. No macro, syntax, notation, axiom, sorry.
-/
import Derived.Test.YtafbekjpmjjlpaaGreatDoorRows
import GoSem.ClaimSeven
namespace Go.Proofs.YtafbekjpmjjlpaaGreatDoor
namespace Rows

/-- THE TIED CARD OF 'laws.FnExactGrant'. -/
def fnExactGrantCard : Claim7 := { stood := { row := fnExactGrantRow, standIns := [], harness := (true, "38863f2137254e837885f68c6b9f16eda836bf69648f2e2584bf20348164b7ed"), looks := true }, kinds := [], alts := [], laidByText := true, laidKinds := [.handle], laidTests := true, laidLooks := .later }
def FnExactGrantCardSaid : Prop := Claim7.holds Tryz.pinned (.plain (OpenSpec.ofChange fnExactGrantSpec)) fnExactGrantCard

/-- THE SECOND FORM's CARD OF 'laws.FnExactGrant'. -/
def fnExactGrantUptoCard : Claim7 := { stood := { row := fnExactGrantUptoRow, standIns := [], harness := (true, "38863f2137254e837885f68c6b9f16eda836bf69648f2e2584bf20348164b7ed"), looks := true }, kinds := [], alts := [], laidByText := true, laidKinds := [.handle], laidTests := true, laidLooks := .later }
def FnExactGrantUptoCardSaid : Prop := Claim7.holds Tryz.pinned (.plain (OpenSpec.upto fnExactGrantSpec)) fnExactGrantUptoCard
end Rows
end Go.Proofs.YtafbekjpmjjlpaaGreatDoor
