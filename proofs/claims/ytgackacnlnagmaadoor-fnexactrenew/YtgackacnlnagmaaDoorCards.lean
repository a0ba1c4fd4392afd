/-
  DERIVED. GIVEN WITH THE SEED: THE CARDS: each row of YtgackacnlnagmaaDoorRows.lean that lists a variable, with what it lists TIED to the program's text (the seventh form; the later family's looks); each row that meets fmt, with fmt's text TOLD by the authors' own Lean function (tested against real Go, not proved from fmt's source: count such statements apart). THE CARD IS WHAT COUNTS. Prove the row's statement (the work); the ties are given (YtgackacnlnagmaaDoorTie.lean); close each card by the builder's one call (the guide's Derived/Test/ToyasCard.lean, 'card_holds'). Laid BY PROGRAM, IN A SANDBOX (cutbox-door.mjs). By AI agents, Wed Nov 11 2026. No macro, syntax, notation, axiom, sorry.
-/
import Derived.Test.YtgackacnlnagmaaDoorRows
import GoSem.ClaimSeven
namespace Go.Proofs.YtgackacnlnagmaaDoor
namespace Rows

/-- THE TIED CARD OF 'laws.FnExactRenew'. -/
def fnExactRenewCard : Claim7 := { stood := { row := fnExactRenewRow, standIns := [], harness := (true, "8e1a315f30833f9136bff7c2988b3f2a1f8662a96412b0be2ddf735785e28fef"), looks := true }, kinds := [], alts := [], laidByText := true, laidKinds := [.handle], laidTests := true, laidLooks := .later }
def FnExactRenewCardSaid : Prop := Claim7.holds Tryd.pinned (.plain (OpenSpec.ofChange fnExactRenewSpec)) fnExactRenewCard

/-- THE TIED CARD OF 'laws.FnExactRelease'. -/
def fnExactReleaseCard : Claim7 := { stood := { row := fnExactReleaseRow, standIns := [], harness := (true, "8e1a315f30833f9136bff7c2988b3f2a1f8662a96412b0be2ddf735785e28fef"), looks := true }, kinds := [], alts := [], laidByText := true, laidKinds := [.handle], laidTests := true, laidLooks := .later }
def FnExactReleaseCardSaid : Prop := Claim7.holds Tryd.pinned (.plain (OpenSpec.ofChange fnExactReleaseSpec)) fnExactReleaseCard

/-- THE TIED CARD OF 'laws.FnExactHolder'. -/
def fnExactHolderCard : Claim7 := { stood := { row := fnExactHolderRow, standIns := [], harness := (true, "8e1a315f30833f9136bff7c2988b3f2a1f8662a96412b0be2ddf735785e28fef"), looks := true }, kinds := [], alts := [], laidByText := true, laidKinds := [.handle], laidTests := true, laidLooks := .later }
def FnExactHolderCardSaid : Prop := Claim7.holds Tryd.pinned (.plain (OpenSpec.ofChange fnExactHolderSpec)) fnExactHolderCard

/-- THE SECOND FORM's CARD OF 'laws.FnExactRenew'. -/
def fnExactRenewUptoCard : Claim7 := { stood := { row := fnExactRenewUptoRow, standIns := [], harness := (true, "8e1a315f30833f9136bff7c2988b3f2a1f8662a96412b0be2ddf735785e28fef"), looks := true }, kinds := [], alts := [], laidByText := true, laidKinds := [.handle], laidTests := true, laidLooks := .later }
def FnExactRenewUptoCardSaid : Prop := Claim7.holds Tryd.pinned (.plain (OpenSpec.upto fnExactRenewSpec)) fnExactRenewUptoCard

/-- THE SECOND FORM's CARD OF 'laws.FnExactRelease'. -/
def fnExactReleaseUptoCard : Claim7 := { stood := { row := fnExactReleaseUptoRow, standIns := [], harness := (true, "8e1a315f30833f9136bff7c2988b3f2a1f8662a96412b0be2ddf735785e28fef"), looks := true }, kinds := [], alts := [], laidByText := true, laidKinds := [.handle], laidTests := true, laidLooks := .later }
def FnExactReleaseUptoCardSaid : Prop := Claim7.holds Tryd.pinned (.plain (OpenSpec.upto fnExactReleaseSpec)) fnExactReleaseUptoCard

/-- THE SECOND FORM's CARD OF 'laws.FnExactHolder'. -/
def fnExactHolderUptoCard : Claim7 := { stood := { row := fnExactHolderUptoRow, standIns := [], harness := (true, "8e1a315f30833f9136bff7c2988b3f2a1f8662a96412b0be2ddf735785e28fef"), looks := true }, kinds := [], alts := [], laidByText := true, laidKinds := [.handle], laidTests := true, laidLooks := .later }
def FnExactHolderUptoCardSaid : Prop := Claim7.holds Tryd.pinned (.plain (OpenSpec.upto fnExactHolderSpec)) fnExactHolderUptoCard
end Rows
end Go.Proofs.YtgackacnlnagmaaDoor
