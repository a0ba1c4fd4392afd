/-
  DERIVED. GIVEN WITH THE SEED: THE CARDS: each row of YtofnnpjadehgmaaDoorRows.lean that lists a variable, with what it lists TIED to the program's text (the seventh form; the later family's looks); each row that meets fmt, with fmt's text TOLD by the authors' own Lean function (tested against real Go, not proved from fmt's source: count such statements apart). THE CARD IS WHAT COUNTS. Prove the row's statement (the work); the ties are given (YtofnnpjadehgmaaDoorTie.lean); close each card by the builder's one call (the guide's Derived/Test/ToyasCard.lean, 'card_holds'). Laid BY PROGRAM, IN A SANDBOX (cutbox-door.mjs). By AI agents, Wed Nov 11 2026. No macro, syntax, notation, axiom, sorry.
-/
import Derived.Test.YtofnnpjadehgmaaDoorRows
import GoSem.ClaimSeven
namespace Go.Proofs.YtofnnpjadehgmaaDoor
namespace Rows

/-- THE TIED CARD OF 'laws.FnAddrs'. -/
def fnAddrsCard : Claim7 := { stood := { row := fnAddrsRow, standIns := [], harness := (true, "c879622877dbaf6a91ad7c113c20f5b7c69358da13727c8dd166fcd914f3a56f"), looks := true }, kinds := [], alts := [], laidByText := true, laidKinds := [.data, .data, .data], laidTests := true, laidLooks := .later }
def FnAddrsCardSaid : Prop := Claim7.holds Tryd.pinned (.plain (OpenSpec.ofChange fnAddrsSpec)) fnAddrsCard

/-- THE TIED CARD OF 'laws.FnExactParseAddr'. -/
def fnExactParseAddrCard : Claim7 := { stood := { row := fnExactParseAddrRow, standIns := [], harness := (true, "c879622877dbaf6a91ad7c113c20f5b7c69358da13727c8dd166fcd914f3a56f"), looks := true }, kinds := [], alts := [], laidByText := true, laidKinds := [.data, .data, .data], laidTests := true, laidLooks := .later }
def FnExactParseAddrCardSaid : Prop := Claim7.holds Tryd.pinned (.plain (OpenSpec.ofChange fnExactParseAddrSpec)) fnExactParseAddrCard

/-- THE TIED CARD OF 'laws.FnExactParsePrefix'. -/
def fnExactParsePrefixCard : Claim7 := { stood := { row := fnExactParsePrefixRow, standIns := [], harness := (true, "c879622877dbaf6a91ad7c113c20f5b7c69358da13727c8dd166fcd914f3a56f"), looks := true }, kinds := [], alts := [], laidByText := true, laidKinds := [.data, .data, .data, .sentinel, .sentinel], laidTests := true, laidLooks := .later }
def FnExactParsePrefixCardSaid : Prop := Claim7.holds Tryd.pinned (.plain (OpenSpec.ofChange fnExactParsePrefixSpec)) fnExactParsePrefixCard

/-- THE SECOND FORM's CARD OF 'laws.FnAddrs'. -/
def fnAddrsUptoCard : Claim7 := { stood := { row := fnAddrsUptoRow, standIns := [], harness := (true, "c879622877dbaf6a91ad7c113c20f5b7c69358da13727c8dd166fcd914f3a56f"), looks := true }, kinds := [], alts := [], laidByText := true, laidKinds := [.data, .data, .data], laidTests := true, laidLooks := .later }
def FnAddrsUptoCardSaid : Prop := Claim7.holds Tryd.pinned (.plain (OpenSpec.upto fnAddrsSpec)) fnAddrsUptoCard

/-- THE SECOND FORM's CARD OF 'laws.FnExactParseAddr'. -/
def fnExactParseAddrUptoCard : Claim7 := { stood := { row := fnExactParseAddrUptoRow, standIns := [], harness := (true, "c879622877dbaf6a91ad7c113c20f5b7c69358da13727c8dd166fcd914f3a56f"), looks := true }, kinds := [], alts := [], laidByText := true, laidKinds := [.data, .data, .data], laidTests := true, laidLooks := .later }
def FnExactParseAddrUptoCardSaid : Prop := Claim7.holds Tryd.pinned (.plain (OpenSpec.upto fnExactParseAddrSpec)) fnExactParseAddrUptoCard

/-- THE SECOND FORM's CARD OF 'laws.FnExactParsePrefix'. -/
def fnExactParsePrefixUptoCard : Claim7 := { stood := { row := fnExactParsePrefixUptoRow, standIns := [], harness := (true, "c879622877dbaf6a91ad7c113c20f5b7c69358da13727c8dd166fcd914f3a56f"), looks := true }, kinds := [], alts := [], laidByText := true, laidKinds := [.data, .data, .data, .sentinel, .sentinel], laidTests := true, laidLooks := .later }
def FnExactParsePrefixUptoCardSaid : Prop := Claim7.holds Tryd.pinned (.plain (OpenSpec.upto fnExactParsePrefixSpec)) fnExactParsePrefixUptoCard
end Rows
end Go.Proofs.YtofnnpjadehgmaaDoor
