/-
  No cell of these rows narrows 'for every input' (looked for: loops, veiled, ifaces, maps, wideKeys, modest, calm, conditions, laid).
  DERIVED. THE GIVEN ROWS OF THIS SEAT. 6 by the template 'for every input the law returns true; each argument reads behind the call as it read before'; 0 by the template 'total and deterministic' (their statements: YtamocbkamjnonaaTotals.lean).
  GIVEN WITH THE SEED: the statements are not yours to turn. If you find one false, say at which input.
  Laid BY PROGRAM, IN A SANDBOX (cutbox-rows.mjs): the forced cells as the released guide's own fill.sh prints them over the translation f1e8022334a448a2… (all of the seat's roots in one cut). By AI agents, Wed Nov 11 2026. No macro, syntax, notation, axiom, sorry.
-/
import Derived.Test.YtamocbkamjnonaaChecked
import GoSem.Claim
import GoSem.ClaimJoined
import GoSem.ClaimMapViews
import Derived.JoinedTies
import Derived.KernelRfl
namespace Go.Proofs.Ytamocbkamjnonaa
/- THE CELL 'sum', in the pinned program and in every row, IS THE sha256 OF THE DUMP (.gsa) THAT YtamocbkamjnonaaProg.lean LOADS. Nothing in Lean hashes anything: it is a label: what it is worth is what the hold of that sum in a sandbox is worth. -/
noncomputable def Try.pinned : Pinned := { name := "ytamocbkamjnonaa", sum := "f1e8022334a448a24a38bc6738e382b91cc38cb609c2fa484591c81c6d64eb4e", checked := Try.checked }
namespace Rows
def none {H : Type} : Left H := { results := [], args := [] }

/-- 'laws.FnExactCollapse': WHATEVER THE INPUT: true; the input reads as it did. -/
def fnExactCollapseSpec : ChangeSpec := { name := "fnExactCollapse", fn := fun _ => fun
  | [d] => { results := [.lit (.bool true)], args := [d] }
  | _ => none }
def fnExactCollapseRow : OpenClaim := { program := "ytamocbkamjnonaa", sum := "f1e8022334a448a24a38bc6738e382b91cc38cb609c2fa484591c81c6d64eb4e", func := "loop.example/g00113/laws.FnExactCollapse", spec := "fnExactCollapse", unfollowed := true, recurses := true, apart := false }
def FnExactCollapseSaid : Prop := fnExactCollapseRow.holds Try.pinned (OpenSpec.ofChange fnExactCollapseSpec)

/-- ITS FALSE NEIGHBOUR: 'it returns false'. Refute it at one input. -/
def fnExactCollapseWrong : ChangeSpec := { name := "fnExactCollapse", fn := fun _ => fun
  | [d] => { results := [.lit (.bool false)], args := [d] }
  | _ => none }
def FnExactCollapseWrongFalsely : Prop := fnExactCollapseRow.holds Try.pinned (OpenSpec.ofChange fnExactCollapseWrong)

/-- 'laws.FnExactWithout': WHATEVER THE INPUT: true; the input reads as it did. -/
def fnExactWithoutSpec : ChangeSpec := { name := "fnExactWithout", fn := fun _ => fun
  | [d1, d2] => { results := [.lit (.bool true)], args := [d1, d2] }
  | _ => none }
def fnExactWithoutRow : OpenClaim := { program := "ytamocbkamjnonaa", sum := "f1e8022334a448a24a38bc6738e382b91cc38cb609c2fa484591c81c6d64eb4e", func := "loop.example/g00113/laws.FnExactWithout", spec := "fnExactWithout", unfollowed := true, recurses := true, apart := false }
def FnExactWithoutSaid : Prop := fnExactWithoutRow.holds Try.pinned (OpenSpec.ofChange fnExactWithoutSpec)

/-- ITS FALSE NEIGHBOUR: 'it returns false'. Refute it at one input. -/
def fnExactWithoutWrong : ChangeSpec := { name := "fnExactWithout", fn := fun _ => fun
  | [d1, d2] => { results := [.lit (.bool false)], args := [d1, d2] }
  | _ => none }
def FnExactWithoutWrongFalsely : Prop := fnExactWithoutRow.holds Try.pinned (OpenSpec.ofChange fnExactWithoutWrong)

/-- 'laws.FnExactFirstFree': WHATEVER THE INPUT: true; the input reads as it did. -/
def fnExactFirstFreeSpec : ChangeSpec := { name := "fnExactFirstFree", fn := fun _ => fun
  | [d1, d2, d3] => { results := [.lit (.bool true)], args := [d1, d2, d3] }
  | _ => none }
def fnExactFirstFreeRow : OpenClaim := { program := "ytamocbkamjnonaa", sum := "f1e8022334a448a24a38bc6738e382b91cc38cb609c2fa484591c81c6d64eb4e", func := "loop.example/g00113/laws.FnExactFirstFree", spec := "fnExactFirstFree", unfollowed := true, recurses := true, apart := false }
def FnExactFirstFreeSaid : Prop := fnExactFirstFreeRow.holds Try.pinned (OpenSpec.ofChange fnExactFirstFreeSpec)

/-- ITS FALSE NEIGHBOUR: 'it returns false'. Refute it at one input. -/
def fnExactFirstFreeWrong : ChangeSpec := { name := "fnExactFirstFree", fn := fun _ => fun
  | [d1, d2, d3] => { results := [.lit (.bool false)], args := [d1, d2, d3] }
  | _ => none }
def FnExactFirstFreeWrongFalsely : Prop := fnExactFirstFreeRow.holds Try.pinned (OpenSpec.ofChange fnExactFirstFreeWrong)

/-- 'laws.FnExactFreeCount': WHATEVER THE INPUT: true; the input reads as it did. -/
def fnExactFreeCountSpec : ChangeSpec := { name := "fnExactFreeCount", fn := fun _ => fun
  | [d1, d2, d3] => { results := [.lit (.bool true)], args := [d1, d2, d3] }
  | _ => none }
def fnExactFreeCountRow : OpenClaim := { program := "ytamocbkamjnonaa", sum := "f1e8022334a448a24a38bc6738e382b91cc38cb609c2fa484591c81c6d64eb4e", func := "loop.example/g00113/laws.FnExactFreeCount", spec := "fnExactFreeCount", unfollowed := true, recurses := true, apart := false }
def FnExactFreeCountSaid : Prop := fnExactFreeCountRow.holds Try.pinned (OpenSpec.ofChange fnExactFreeCountSpec)

/-- ITS FALSE NEIGHBOUR: 'it returns false'. Refute it at one input. -/
def fnExactFreeCountWrong : ChangeSpec := { name := "fnExactFreeCount", fn := fun _ => fun
  | [d1, d2, d3] => { results := [.lit (.bool false)], args := [d1, d2, d3] }
  | _ => none }
def FnExactFreeCountWrongFalsely : Prop := fnExactFreeCountRow.holds Try.pinned (OpenSpec.ofChange fnExactFreeCountWrong)

/-- 'laws.FnExactFirstAddr': WHATEVER THE INPUT: true; the input reads as it did. -/
def fnExactFirstAddrSpec : ChangeSpec := { name := "fnExactFirstAddr", fn := fun _ => fun
  | [d1, d2] => { results := [.lit (.bool true)], args := [d1, d2] }
  | _ => none }
def fnExactFirstAddrRow : OpenClaim := { program := "ytamocbkamjnonaa", sum := "f1e8022334a448a24a38bc6738e382b91cc38cb609c2fa484591c81c6d64eb4e", func := "loop.example/g00113/laws.FnExactFirstAddr", spec := "fnExactFirstAddr", unfollowed := true, recurses := true, apart := false }
def FnExactFirstAddrSaid : Prop := fnExactFirstAddrRow.holds Try.pinned (OpenSpec.ofChange fnExactFirstAddrSpec)

/-- ITS FALSE NEIGHBOUR: 'it returns false'. Refute it at one input. -/
def fnExactFirstAddrWrong : ChangeSpec := { name := "fnExactFirstAddr", fn := fun _ => fun
  | [d1, d2] => { results := [.lit (.bool false)], args := [d1, d2] }
  | _ => none }
def FnExactFirstAddrWrongFalsely : Prop := fnExactFirstAddrRow.holds Try.pinned (OpenSpec.ofChange fnExactFirstAddrWrong)

/-- 'laws.FnExactLargest': WHATEVER THE INPUT: true; the input reads as it did. -/
def fnExactLargestSpec : ChangeSpec := { name := "fnExactLargest", fn := fun _ => fun
  | [d1, d2] => { results := [.lit (.bool true)], args := [d1, d2] }
  | _ => none }
def fnExactLargestRow : OpenClaim := { program := "ytamocbkamjnonaa", sum := "f1e8022334a448a24a38bc6738e382b91cc38cb609c2fa484591c81c6d64eb4e", func := "loop.example/g00113/laws.FnExactLargest", spec := "fnExactLargest", unfollowed := true, recurses := true, apart := false }
def FnExactLargestSaid : Prop := fnExactLargestRow.holds Try.pinned (OpenSpec.ofChange fnExactLargestSpec)

/-- ITS FALSE NEIGHBOUR: 'it returns false'. Refute it at one input. -/
def fnExactLargestWrong : ChangeSpec := { name := "fnExactLargest", fn := fun _ => fun
  | [d1, d2] => { results := [.lit (.bool false)], args := [d1, d2] }
  | _ => none }
def FnExactLargestWrongFalsely : Prop := fnExactLargestRow.holds Try.pinned (OpenSpec.ofChange fnExactLargestWrong)

/- THE SECOND FORM. 'bulk': how many values and letters a reading holds, each counted each time it is reached (what is shared counts as often as it is met; a slice's spare places count too). A statement '..UptoSaid' is the law's where the arguments, and the package variables that the reading takes, are together of bulk at most 1048576: NARROWER than '..Said'. Prove '..Said' where nothing that the law and all that it calls make is longer than what came in: it says more and counts as full. Else prove '..UptoSaid'. A law counts once. -/
mutual
def uptoBulk {H : Type} : DataW H → Nat
  | .lit (.string bytes) => bytes.length + 1
  | .lit _ => 1
  | .nil => 1
  | .ptr d => uptoBulk d + 1
  | .slice elems spare => uptoBulkAll elems + uptoBulkAll spare + 1
  | .agg parts => uptoBulkAll parts + 1
  | .iface _ d => uptoBulk d + 1
  | .map entries => uptoBulkEntries entries + 1
  | .held _ => 1
def uptoBulkAll {H : Type} : List (DataW H) → Nat
  | [] => 0
  | d :: r => uptoBulk d + uptoBulkAll r
def uptoBulkEntries {H : Type} : List (Lit × DataW H) → Nat
  | [] => 0
  | x :: r => uptoBulkEntry x + uptoBulkEntries r
def uptoBulkEntry {H : Type} : Lit × DataW H → Nat
  | (.string bytes, d) => bytes.length + uptoBulk d + 1
  | (_, d) => uptoBulk d + 1
 end
def uptoSmall : (H : Type) → List (DataW H) → Bool := fun _ ds => decide (uptoBulkAll ds ≤ 1048576)
def OpenSpec.upto (s : _root_.Go.ChangeSpec) : _root_.Go.OpenSpec := { _root_.Go.OpenSpec.ofChange s with cond := some uptoSmall }

/-- 'laws.FnExactCollapse', WHERE WHAT IT READS IS OF BULK AT MOST 1048576: true; the input reads as it did. -/
def fnExactCollapseUptoRow : OpenClaim := { program := "ytamocbkamjnonaa", sum := "f1e8022334a448a24a38bc6738e382b91cc38cb609c2fa484591c81c6d64eb4e", func := "loop.example/g00113/laws.FnExactCollapse", spec := "fnExactCollapse", unfollowed := true, recurses := true, apart := false, narrowed := true }
def FnExactCollapseUptoSaid : Prop := fnExactCollapseUptoRow.holds Try.pinned (OpenSpec.upto fnExactCollapseSpec)

/-- 'laws.FnExactWithout', WHERE WHAT IT READS IS OF BULK AT MOST 1048576: true; the input reads as it did. -/
def fnExactWithoutUptoRow : OpenClaim := { program := "ytamocbkamjnonaa", sum := "f1e8022334a448a24a38bc6738e382b91cc38cb609c2fa484591c81c6d64eb4e", func := "loop.example/g00113/laws.FnExactWithout", spec := "fnExactWithout", unfollowed := true, recurses := true, apart := false, narrowed := true }
def FnExactWithoutUptoSaid : Prop := fnExactWithoutUptoRow.holds Try.pinned (OpenSpec.upto fnExactWithoutSpec)

/-- 'laws.FnExactFirstFree', WHERE WHAT IT READS IS OF BULK AT MOST 1048576: true; the input reads as it did. -/
def fnExactFirstFreeUptoRow : OpenClaim := { program := "ytamocbkamjnonaa", sum := "f1e8022334a448a24a38bc6738e382b91cc38cb609c2fa484591c81c6d64eb4e", func := "loop.example/g00113/laws.FnExactFirstFree", spec := "fnExactFirstFree", unfollowed := true, recurses := true, apart := false, narrowed := true }
def FnExactFirstFreeUptoSaid : Prop := fnExactFirstFreeUptoRow.holds Try.pinned (OpenSpec.upto fnExactFirstFreeSpec)

/-- 'laws.FnExactFreeCount', WHERE WHAT IT READS IS OF BULK AT MOST 1048576: true; the input reads as it did. -/
def fnExactFreeCountUptoRow : OpenClaim := { program := "ytamocbkamjnonaa", sum := "f1e8022334a448a24a38bc6738e382b91cc38cb609c2fa484591c81c6d64eb4e", func := "loop.example/g00113/laws.FnExactFreeCount", spec := "fnExactFreeCount", unfollowed := true, recurses := true, apart := false, narrowed := true }
def FnExactFreeCountUptoSaid : Prop := fnExactFreeCountUptoRow.holds Try.pinned (OpenSpec.upto fnExactFreeCountSpec)

/-- 'laws.FnExactFirstAddr', WHERE WHAT IT READS IS OF BULK AT MOST 1048576: true; the input reads as it did. -/
def fnExactFirstAddrUptoRow : OpenClaim := { program := "ytamocbkamjnonaa", sum := "f1e8022334a448a24a38bc6738e382b91cc38cb609c2fa484591c81c6d64eb4e", func := "loop.example/g00113/laws.FnExactFirstAddr", spec := "fnExactFirstAddr", unfollowed := true, recurses := true, apart := false, narrowed := true }
def FnExactFirstAddrUptoSaid : Prop := fnExactFirstAddrUptoRow.holds Try.pinned (OpenSpec.upto fnExactFirstAddrSpec)

/-- 'laws.FnExactLargest', WHERE WHAT IT READS IS OF BULK AT MOST 1048576: true; the input reads as it did. -/
def fnExactLargestUptoRow : OpenClaim := { program := "ytamocbkamjnonaa", sum := "f1e8022334a448a24a38bc6738e382b91cc38cb609c2fa484591c81c6d64eb4e", func := "loop.example/g00113/laws.FnExactLargest", spec := "fnExactLargest", unfollowed := true, recurses := true, apart := false, narrowed := true }
def FnExactLargestUptoSaid : Prop := fnExactLargestUptoRow.holds Try.pinned (OpenSpec.upto fnExactLargestSpec)

end Rows
end Go.Proofs.Ytamocbkamjnonaa
