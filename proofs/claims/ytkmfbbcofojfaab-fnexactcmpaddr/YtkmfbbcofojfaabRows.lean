/-
  No cell of these rows narrows 'for every input' (looked for: loops, veiled, ifaces, maps, wideKeys, modest, calm, conditions, laid).
  DERIVED. THE GIVEN ROWS OF THIS SEAT. 4 by the template 'for every input the law returns true; each argument reads behind the call as it read before'; 0 by the template 'total and deterministic' (their statements: YtkmfbbcofojfaabTotals.lean).
  GIVEN WITH THE SEED: the statements are not yours to turn. If you find one false, say at which input.
  Laid BY PROGRAM, IN A SANDBOX (cutbox-rows.mjs): the forced cells as the released guide's own fill.sh prints them over the translation 43272326ccd3ac3c… (all of the seat's roots in one cut). By AI agents, Wed Nov 11 2026. No macro, syntax, notation, axiom, sorry.
-/
import Derived.Test.YtkmfbbcofojfaabChecked
import GoSem.Claim
import GoSem.ClaimJoined
import GoSem.ClaimMapViews
import Derived.JoinedTies
import Derived.KernelRfl
namespace Go.Proofs.Ytkmfbbcofojfaab
/- THE CELL 'sum', in the pinned program and in every row, IS THE sha256 OF THE DUMP (.gsa) THAT YtkmfbbcofojfaabProg.lean LOADS. Nothing in Lean hashes anything: it is a label: what it is worth is what the hold of that sum in a sandbox is worth. -/
noncomputable def Try.pinned : Pinned := { name := "ytkmfbbcofojfaab", sum := "43272326ccd3ac3c2a7d2e1ff28509b09e45ba6453f8fe5cf645fe49c0d3184c", checked := Try.checked }
namespace Rows
def none {H : Type} : Left H := { results := [], args := [] }

/-- 'laws.FnExactCmpAddr': WHATEVER THE INPUT: true; the input reads as it did. -/
def fnExactCmpAddrSpec : ChangeSpec := { name := "fnExactCmpAddr", fn := fun _ => fun
  | [d1, d2] => { results := [.lit (.bool true)], args := [d1, d2] }
  | _ => none }
def fnExactCmpAddrRow : OpenClaim := { program := "ytkmfbbcofojfaab", sum := "43272326ccd3ac3c2a7d2e1ff28509b09e45ba6453f8fe5cf645fe49c0d3184c", func := "loop.example/g00113/laws.FnExactCmpAddr", spec := "fnExactCmpAddr", apart := false }
def FnExactCmpAddrSaid : Prop := fnExactCmpAddrRow.holds Try.pinned (OpenSpec.ofChange fnExactCmpAddrSpec)

/-- ITS FALSE NEIGHBOUR: 'it returns false'. Refute it at one input. -/
def fnExactCmpAddrWrong : ChangeSpec := { name := "fnExactCmpAddr", fn := fun _ => fun
  | [d1, d2] => { results := [.lit (.bool false)], args := [d1, d2] }
  | _ => none }
def FnExactCmpAddrWrongFalsely : Prop := fnExactCmpAddrRow.holds Try.pinned (OpenSpec.ofChange fnExactCmpAddrWrong)

/-- 'laws.FnExactAddTo': WHATEVER THE INPUT: true; the input reads as it did. -/
def fnExactAddToSpec : ChangeSpec := { name := "fnExactAddTo", fn := fun _ => fun
  | [d1, d2] => { results := [.lit (.bool true)], args := [d1, d2] }
  | _ => none }
def fnExactAddToRow : OpenClaim := { program := "ytkmfbbcofojfaab", sum := "43272326ccd3ac3c2a7d2e1ff28509b09e45ba6453f8fe5cf645fe49c0d3184c", func := "loop.example/g00113/laws.FnExactAddTo", spec := "fnExactAddTo", inPlace := ["math/bits.Add64"], apart := false }
def FnExactAddToSaid : Prop := fnExactAddToRow.holds Try.pinned (OpenSpec.ofChange fnExactAddToSpec)

/-- ITS FALSE NEIGHBOUR: 'it returns false'. Refute it at one input. -/
def fnExactAddToWrong : ChangeSpec := { name := "fnExactAddTo", fn := fun _ => fun
  | [d1, d2] => { results := [.lit (.bool false)], args := [d1, d2] }
  | _ => none }
def FnExactAddToWrongFalsely : Prop := fnExactAddToRow.holds Try.pinned (OpenSpec.ofChange fnExactAddToWrong)

/-- 'laws.FnExactGapTo': WHATEVER THE INPUT: true; the input reads as it did. -/
def fnExactGapToSpec : ChangeSpec := { name := "fnExactGapTo", fn := fun _ => fun
  | [d1, d2] => { results := [.lit (.bool true)], args := [d1, d2] }
  | _ => none }
def fnExactGapToRow : OpenClaim := { program := "ytkmfbbcofojfaab", sum := "43272326ccd3ac3c2a7d2e1ff28509b09e45ba6453f8fe5cf645fe49c0d3184c", func := "loop.example/g00113/laws.FnExactGapTo", spec := "fnExactGapTo", inPlace := ["math/bits.Sub64"], apart := false }
def FnExactGapToSaid : Prop := fnExactGapToRow.holds Try.pinned (OpenSpec.ofChange fnExactGapToSpec)

/-- ITS FALSE NEIGHBOUR: 'it returns false'. Refute it at one input. -/
def fnExactGapToWrong : ChangeSpec := { name := "fnExactGapTo", fn := fun _ => fun
  | [d1, d2] => { results := [.lit (.bool false)], args := [d1, d2] }
  | _ => none }
def FnExactGapToWrongFalsely : Prop := fnExactGapToRow.holds Try.pinned (OpenSpec.ofChange fnExactGapToWrong)

/-- 'laws.FnExactPrefixOk': WHATEVER THE INPUT: true; the input reads as it did. -/
def fnExactPrefixOkSpec : ChangeSpec := { name := "fnExactPrefixOk", fn := fun _ => fun
  | [d] => { results := [.lit (.bool true)], args := [d] }
  | _ => none }
def fnExactPrefixOkRow : OpenClaim := { program := "ytkmfbbcofojfaab", sum := "43272326ccd3ac3c2a7d2e1ff28509b09e45ba6453f8fe5cf645fe49c0d3184c", func := "loop.example/g00113/laws.FnExactPrefixOk", spec := "fnExactPrefixOk", apart := false }
def FnExactPrefixOkSaid : Prop := fnExactPrefixOkRow.holds Try.pinned (OpenSpec.ofChange fnExactPrefixOkSpec)

/-- ITS FALSE NEIGHBOUR: 'it returns false'. Refute it at one input. -/
def fnExactPrefixOkWrong : ChangeSpec := { name := "fnExactPrefixOk", fn := fun _ => fun
  | [d] => { results := [.lit (.bool false)], args := [d] }
  | _ => none }
def FnExactPrefixOkWrongFalsely : Prop := fnExactPrefixOkRow.holds Try.pinned (OpenSpec.ofChange fnExactPrefixOkWrong)

/- THE SECOND FORM. 'bulk': how many values and letters a reading holds, each counted each time it is reached (what is shared counts as often as it is met; a slice's spare places count too). A statement '..UptoSaid' is the law's where the arguments, and the package variables that the reading takes, are together of bulk at most 1048576: NARROWER than '..Said'. Prove '..Said' where nothing that the law and all that it calls make is longer than what came in: it says more and counts as full. Else prove '..UptoSaid'. A law counts once. -/
mutual
def uptoBulk {H : Type} : DataW H → Nat
  | .lit (.string bytes) => bytes.length + 1
  | .lit _ => 1
  | .nil => 1
  | .ptr d => uptoBulk d + 1
  | .slice elems spare => uptoBulkAll elems + uptoBulkAll spare + 1
  | .agg parts => uptoBulkAll parts + 1
  | .iface _ d => uptoBulk d + 1
  | .map entries => uptoBulkEntries entries + 1
  | .held _ => 1
def uptoBulkAll {H : Type} : List (DataW H) → Nat
  | [] => 0
  | d :: r => uptoBulk d + uptoBulkAll r
def uptoBulkEntries {H : Type} : List (Lit × DataW H) → Nat
  | [] => 0
  | x :: r => uptoBulkEntry x + uptoBulkEntries r
def uptoBulkEntry {H : Type} : Lit × DataW H → Nat
  | (.string bytes, d) => bytes.length + uptoBulk d + 1
  | (_, d) => uptoBulk d + 1
 end
def uptoSmall : (H : Type) → List (DataW H) → Bool := fun _ ds => decide (uptoBulkAll ds ≤ 1048576)
def OpenSpec.upto (s : _root_.Go.ChangeSpec) : _root_.Go.OpenSpec := { _root_.Go.OpenSpec.ofChange s with cond := some uptoSmall }

/-- 'laws.FnExactCmpAddr', WHERE WHAT IT READS IS OF BULK AT MOST 1048576: true; the input reads as it did. -/
def fnExactCmpAddrUptoRow : OpenClaim := { program := "ytkmfbbcofojfaab", sum := "43272326ccd3ac3c2a7d2e1ff28509b09e45ba6453f8fe5cf645fe49c0d3184c", func := "loop.example/g00113/laws.FnExactCmpAddr", spec := "fnExactCmpAddr", apart := false, narrowed := true }
def FnExactCmpAddrUptoSaid : Prop := fnExactCmpAddrUptoRow.holds Try.pinned (OpenSpec.upto fnExactCmpAddrSpec)

/-- 'laws.FnExactAddTo', WHERE WHAT IT READS IS OF BULK AT MOST 1048576: true; the input reads as it did. -/
def fnExactAddToUptoRow : OpenClaim := { program := "ytkmfbbcofojfaab", sum := "43272326ccd3ac3c2a7d2e1ff28509b09e45ba6453f8fe5cf645fe49c0d3184c", func := "loop.example/g00113/laws.FnExactAddTo", spec := "fnExactAddTo", inPlace := ["math/bits.Add64"], apart := false, narrowed := true }
def FnExactAddToUptoSaid : Prop := fnExactAddToUptoRow.holds Try.pinned (OpenSpec.upto fnExactAddToSpec)

/-- 'laws.FnExactGapTo', WHERE WHAT IT READS IS OF BULK AT MOST 1048576: true; the input reads as it did. -/
def fnExactGapToUptoRow : OpenClaim := { program := "ytkmfbbcofojfaab", sum := "43272326ccd3ac3c2a7d2e1ff28509b09e45ba6453f8fe5cf645fe49c0d3184c", func := "loop.example/g00113/laws.FnExactGapTo", spec := "fnExactGapTo", inPlace := ["math/bits.Sub64"], apart := false, narrowed := true }
def FnExactGapToUptoSaid : Prop := fnExactGapToUptoRow.holds Try.pinned (OpenSpec.upto fnExactGapToSpec)

/-- 'laws.FnExactPrefixOk', WHERE WHAT IT READS IS OF BULK AT MOST 1048576: true; the input reads as it did. -/
def fnExactPrefixOkUptoRow : OpenClaim := { program := "ytkmfbbcofojfaab", sum := "43272326ccd3ac3c2a7d2e1ff28509b09e45ba6453f8fe5cf645fe49c0d3184c", func := "loop.example/g00113/laws.FnExactPrefixOk", spec := "fnExactPrefixOk", apart := false, narrowed := true }
def FnExactPrefixOkUptoSaid : Prop := fnExactPrefixOkUptoRow.holds Try.pinned (OpenSpec.upto fnExactPrefixOkSpec)

end Rows
end Go.Proofs.Ytkmfbbcofojfaab
