/-
  No cell of these rows narrows 'for every input' (looked for: loops, veiled, ifaces, maps, wideKeys, modest, calm, conditions, laid).
  DERIVED. THE GIVEN ROWS OF THIS SEAT. 4 by the template 'for every input the law returns true; each argument reads behind the call as it read before'; 0 by the template 'total and deterministic' (their statements: YtkmfbbcofojfaadTotals.lean).
  GIVEN WITH THE SEED: the statements are not yours to turn. If you find one false, say at which input.
  Laid BY PROGRAM, IN A SANDBOX (cutbox-rows.mjs): the forced cells as the released guide's own fill.sh prints them over the translation 08c8f47c78e3b3c8… (all of the seat's roots in one cut). By AI agents, Wed Nov 11 2026. No macro, syntax, notation, axiom, sorry.
-/
import Derived.Test.YtkmfbbcofojfaadChecked
import GoSem.Claim
import GoSem.ClaimJoined
import GoSem.ClaimMapViews
import Derived.JoinedTies
import Derived.KernelRfl
namespace Go.Proofs.Ytkmfbbcofojfaad
/- THE CELL 'sum', in the pinned program and in every row, IS THE sha256 OF THE DUMP (.gsa) THAT YtkmfbbcofojfaadProg.lean LOADS. Nothing in Lean hashes anything: it is a label: what it is worth is what the hold of that sum in a sandbox is worth. -/
noncomputable def Try.pinned : Pinned := { name := "ytkmfbbcofojfaad", sum := "08c8f47c78e3b3c8473364be844be45b81ea08da6c57dc3175ad23423637fad5", checked := Try.checked }
namespace Rows
def none {H : Type} : Left H := { results := [], args := [] }

/-- 'laws.FnExactAbove': WHATEVER THE INPUT: true; the input reads as it did. -/
def fnExactAboveSpec : ChangeSpec := { name := "fnExactAbove", fn := fun _ => fun
  | [d] => { results := [.lit (.bool true)], args := [d] }
  | _ => none }
def fnExactAboveRow : OpenClaim := { program := "ytkmfbbcofojfaad", sum := "08c8f47c78e3b3c8473364be844be45b81ea08da6c57dc3175ad23423637fad5", func := "loop.example/g00113/laws.FnExactAbove", spec := "fnExactAbove", apart := false }
def FnExactAboveSaid : Prop := fnExactAboveRow.holds Try.pinned (OpenSpec.ofChange fnExactAboveSpec)

/-- ITS FALSE NEIGHBOUR: 'it returns false'. Refute it at one input. -/
def fnExactAboveWrong : ChangeSpec := { name := "fnExactAbove", fn := fun _ => fun
  | [d] => { results := [.lit (.bool false)], args := [d] }
  | _ => none }
def FnExactAboveWrongFalsely : Prop := fnExactAboveRow.holds Try.pinned (OpenSpec.ofChange fnExactAboveWrong)

/-- 'laws.FnExactSibling': WHATEVER THE INPUT: true; the input reads as it did. -/
def fnExactSiblingSpec : ChangeSpec := { name := "fnExactSibling", fn := fun _ => fun
  | [d] => { results := [.lit (.bool true)], args := [d] }
  | _ => none }
def fnExactSiblingRow : OpenClaim := { program := "ytkmfbbcofojfaad", sum := "08c8f47c78e3b3c8473364be844be45b81ea08da6c57dc3175ad23423637fad5", func := "loop.example/g00113/laws.FnExactSibling", spec := "fnExactSibling", apart := false }
def FnExactSiblingSaid : Prop := fnExactSiblingRow.holds Try.pinned (OpenSpec.ofChange fnExactSiblingSpec)

/-- ITS FALSE NEIGHBOUR: 'it returns false'. Refute it at one input. -/
def fnExactSiblingWrong : ChangeSpec := { name := "fnExactSibling", fn := fun _ => fun
  | [d] => { results := [.lit (.bool false)], args := [d] }
  | _ => none }
def FnExactSiblingWrongFalsely : Prop := fnExactSiblingRow.holds Try.pinned (OpenSpec.ofChange fnExactSiblingWrong)

/-- 'laws.FnExactNthOf': WHATEVER THE INPUT: true; the input reads as it did. -/
def fnExactNthOfSpec : ChangeSpec := { name := "fnExactNthOf", fn := fun _ => fun
  | [d1, d2] => { results := [.lit (.bool true)], args := [d1, d2] }
  | _ => none }
def fnExactNthOfRow : OpenClaim := { program := "ytkmfbbcofojfaad", sum := "08c8f47c78e3b3c8473364be844be45b81ea08da6c57dc3175ad23423637fad5", func := "loop.example/g00113/laws.FnExactNthOf", spec := "fnExactNthOf", inPlace := ["math/bits.Add64"], apart := false }
def FnExactNthOfSaid : Prop := fnExactNthOfRow.holds Try.pinned (OpenSpec.ofChange fnExactNthOfSpec)

/-- ITS FALSE NEIGHBOUR: 'it returns false'. Refute it at one input. -/
def fnExactNthOfWrong : ChangeSpec := { name := "fnExactNthOf", fn := fun _ => fun
  | [d1, d2] => { results := [.lit (.bool false)], args := [d1, d2] }
  | _ => none }
def FnExactNthOfWrongFalsely : Prop := fnExactNthOfRow.holds Try.pinned (OpenSpec.ofChange fnExactNthOfWrong)

/-- 'laws.FnExactPlaceOf': WHATEVER THE INPUT: true; the input reads as it did. -/
def fnExactPlaceOfSpec : ChangeSpec := { name := "fnExactPlaceOf", fn := fun _ => fun
  | [d1, d2] => { results := [.lit (.bool true)], args := [d1, d2] }
  | _ => none }
def fnExactPlaceOfRow : OpenClaim := { program := "ytkmfbbcofojfaad", sum := "08c8f47c78e3b3c8473364be844be45b81ea08da6c57dc3175ad23423637fad5", func := "loop.example/g00113/laws.FnExactPlaceOf", spec := "fnExactPlaceOf", inPlace := ["math/bits.Sub64"], apart := false }
def FnExactPlaceOfSaid : Prop := fnExactPlaceOfRow.holds Try.pinned (OpenSpec.ofChange fnExactPlaceOfSpec)

/-- ITS FALSE NEIGHBOUR: 'it returns false'. Refute it at one input. -/
def fnExactPlaceOfWrong : ChangeSpec := { name := "fnExactPlaceOf", fn := fun _ => fun
  | [d1, d2] => { results := [.lit (.bool false)], args := [d1, d2] }
  | _ => none }
def FnExactPlaceOfWrongFalsely : Prop := fnExactPlaceOfRow.holds Try.pinned (OpenSpec.ofChange fnExactPlaceOfWrong)

/- THE SECOND FORM. 'bulk': how many values and letters a reading holds, each counted each time it is reached (what is shared counts as often as it is met; a slice's spare places count too). A statement '..UptoSaid' is the law's where the arguments, and the package variables that the reading takes, are together of bulk at most 1048576: NARROWER than '..Said'. Prove '..Said' where nothing that the law and all that it calls make is longer than what came in: it says more and counts as full. Else prove '..UptoSaid'. A law counts once. -/
mutual
def uptoBulk {H : Type} : DataW H → Nat
  | .lit (.string bytes) => bytes.length + 1
  | .lit _ => 1
  | .nil => 1
  | .ptr d => uptoBulk d + 1
  | .slice elems spare => uptoBulkAll elems + uptoBulkAll spare + 1
  | .agg parts => uptoBulkAll parts + 1
  | .iface _ d => uptoBulk d + 1
  | .map entries => uptoBulkEntries entries + 1
  | .held _ => 1
def uptoBulkAll {H : Type} : List (DataW H) → Nat
  | [] => 0
  | d :: r => uptoBulk d + uptoBulkAll r
def uptoBulkEntries {H : Type} : List (Lit × DataW H) → Nat
  | [] => 0
  | x :: r => uptoBulkEntry x + uptoBulkEntries r
def uptoBulkEntry {H : Type} : Lit × DataW H → Nat
  | (.string bytes, d) => bytes.length + uptoBulk d + 1
  | (_, d) => uptoBulk d + 1
 end
def uptoSmall : (H : Type) → List (DataW H) → Bool := fun _ ds => decide (uptoBulkAll ds ≤ 1048576)
def OpenSpec.upto (s : _root_.Go.ChangeSpec) : _root_.Go.OpenSpec := { _root_.Go.OpenSpec.ofChange s with cond := some uptoSmall }

/-- 'laws.FnExactAbove', WHERE WHAT IT READS IS OF BULK AT MOST 1048576: true; the input reads as it did. -/
def fnExactAboveUptoRow : OpenClaim := { program := "ytkmfbbcofojfaad", sum := "08c8f47c78e3b3c8473364be844be45b81ea08da6c57dc3175ad23423637fad5", func := "loop.example/g00113/laws.FnExactAbove", spec := "fnExactAbove", apart := false, narrowed := true }
def FnExactAboveUptoSaid : Prop := fnExactAboveUptoRow.holds Try.pinned (OpenSpec.upto fnExactAboveSpec)

/-- 'laws.FnExactSibling', WHERE WHAT IT READS IS OF BULK AT MOST 1048576: true; the input reads as it did. -/
def fnExactSiblingUptoRow : OpenClaim := { program := "ytkmfbbcofojfaad", sum := "08c8f47c78e3b3c8473364be844be45b81ea08da6c57dc3175ad23423637fad5", func := "loop.example/g00113/laws.FnExactSibling", spec := "fnExactSibling", apart := false, narrowed := true }
def FnExactSiblingUptoSaid : Prop := fnExactSiblingUptoRow.holds Try.pinned (OpenSpec.upto fnExactSiblingSpec)

/-- 'laws.FnExactNthOf', WHERE WHAT IT READS IS OF BULK AT MOST 1048576: true; the input reads as it did. -/
def fnExactNthOfUptoRow : OpenClaim := { program := "ytkmfbbcofojfaad", sum := "08c8f47c78e3b3c8473364be844be45b81ea08da6c57dc3175ad23423637fad5", func := "loop.example/g00113/laws.FnExactNthOf", spec := "fnExactNthOf", inPlace := ["math/bits.Add64"], apart := false, narrowed := true }
def FnExactNthOfUptoSaid : Prop := fnExactNthOfUptoRow.holds Try.pinned (OpenSpec.upto fnExactNthOfSpec)

/-- 'laws.FnExactPlaceOf', WHERE WHAT IT READS IS OF BULK AT MOST 1048576: true; the input reads as it did. -/
def fnExactPlaceOfUptoRow : OpenClaim := { program := "ytkmfbbcofojfaad", sum := "08c8f47c78e3b3c8473364be844be45b81ea08da6c57dc3175ad23423637fad5", func := "loop.example/g00113/laws.FnExactPlaceOf", spec := "fnExactPlaceOf", inPlace := ["math/bits.Sub64"], apart := false, narrowed := true }
def FnExactPlaceOfUptoSaid : Prop := fnExactPlaceOfUptoRow.holds Try.pinned (OpenSpec.upto fnExactPlaceOfSpec)

end Rows
end Go.Proofs.Ytkmfbbcofojfaad
