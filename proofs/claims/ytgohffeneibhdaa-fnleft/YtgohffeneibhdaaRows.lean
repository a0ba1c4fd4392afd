/-
  No cell of these rows narrows 'for every input' (looked for: loops, veiled, ifaces, maps, wideKeys, modest, calm, conditions, laid).
  DERIVED. THE GIVEN ROWS OF THIS SEAT. 3 by the template 'for every input the law returns true; each argument reads behind the call as it read before'; 0 by the template 'total and deterministic' (their statements: YtgohffeneibhdaaTotals.lean).
  GIVEN WITH THE SEED: the statements are not yours to turn. If you find one false, say at which input.
  Laid BY PROGRAM, IN A SANDBOX (cutbox-rows.mjs): the forced cells as the released guide's own fill.sh prints them over the translation 4d76f87147f7cc4f… (all of the seat's roots in one cut). By AI agents, Wed Nov 11 2026. No macro, syntax, notation, axiom, sorry.
-/
import Derived.Test.YtgohffeneibhdaaChecked
import GoSem.Claim
import GoSem.ClaimJoined
import GoSem.ClaimMapViews
import Derived.JoinedTies
import Derived.KernelRfl
namespace Go.Proofs.Ytgohffeneibhdaa
/- THE CELL 'sum', in the pinned program and in every row, IS THE sha256 OF THE DUMP (.gsa) THAT YtgohffeneibhdaaProg.lean LOADS. Nothing in Lean hashes anything: it is a label: what it is worth is what the hold of that sum in a sandbox is worth. -/
noncomputable def Try.pinned : Pinned := { name := "ytgohffeneibhdaa", sum := "4d76f87147f7cc4f8dc39eee5db91a3e2bdc46704e25418d07bba9b7a24db4ac", checked := Try.checked }
namespace Rows
def none {H : Type} : Left H := { results := [], args := [] }

/-- 'laws.FnCollapsed': WHATEVER THE INPUT: true; the input reads as it did. -/
def fnCollapsedSpec : ChangeSpec := { name := "fnCollapsed", fn := fun _ => fun
  | [d] => { results := [.lit (.bool true)], args := [d] }
  | _ => none }
def fnCollapsedRow : OpenClaim := { program := "ytgohffeneibhdaa", sum := "4d76f87147f7cc4f8dc39eee5db91a3e2bdc46704e25418d07bba9b7a24db4ac", func := "loop.example/g00113/laws.FnCollapsed", spec := "fnCollapsed", unfollowed := true, recurses := true, apart := false }
def FnCollapsedSaid : Prop := fnCollapsedRow.holds Try.pinned (OpenSpec.ofChange fnCollapsedSpec)

/-- ITS FALSE NEIGHBOUR: 'it returns false'. Refute it at one input. -/
def fnCollapsedWrong : ChangeSpec := { name := "fnCollapsed", fn := fun _ => fun
  | [d] => { results := [.lit (.bool false)], args := [d] }
  | _ => none }
def FnCollapsedWrongFalsely : Prop := fnCollapsedRow.holds Try.pinned (OpenSpec.ofChange fnCollapsedWrong)

/-- 'laws.FnLeft': WHATEVER THE INPUT: true; the input reads as it did. -/
def fnLeftSpec : ChangeSpec := { name := "fnLeft", fn := fun _ => fun
  | [d] => { results := [.lit (.bool true)], args := [d] }
  | _ => none }
def fnLeftRow : OpenClaim := { program := "ytgohffeneibhdaa", sum := "4d76f87147f7cc4f8dc39eee5db91a3e2bdc46704e25418d07bba9b7a24db4ac", func := "loop.example/g00113/laws.FnLeft", spec := "fnLeft", unfollowed := true, recurses := true, apart := false }
def FnLeftSaid : Prop := fnLeftRow.holds Try.pinned (OpenSpec.ofChange fnLeftSpec)

/-- ITS FALSE NEIGHBOUR: 'it returns false'. Refute it at one input. -/
def fnLeftWrong : ChangeSpec := { name := "fnLeft", fn := fun _ => fun
  | [d] => { results := [.lit (.bool false)], args := [d] }
  | _ => none }
def FnLeftWrongFalsely : Prop := fnLeftRow.holds Try.pinned (OpenSpec.ofChange fnLeftWrong)

/-- 'laws.FnExactCollapse': WHATEVER THE INPUT: true; the input reads as it did. -/
def fnExactCollapseSpec : ChangeSpec := { name := "fnExactCollapse", fn := fun _ => fun
  | [d] => { results := [.lit (.bool true)], args := [d] }
  | _ => none }
def fnExactCollapseRow : OpenClaim := { program := "ytgohffeneibhdaa", sum := "4d76f87147f7cc4f8dc39eee5db91a3e2bdc46704e25418d07bba9b7a24db4ac", func := "loop.example/g00113/laws.FnExactCollapse", spec := "fnExactCollapse", unfollowed := true, recurses := true, apart := false }
def FnExactCollapseSaid : Prop := fnExactCollapseRow.holds Try.pinned (OpenSpec.ofChange fnExactCollapseSpec)

/-- ITS FALSE NEIGHBOUR: 'it returns false'. Refute it at one input. -/
def fnExactCollapseWrong : ChangeSpec := { name := "fnExactCollapse", fn := fun _ => fun
  | [d] => { results := [.lit (.bool false)], args := [d] }
  | _ => none }
def FnExactCollapseWrongFalsely : Prop := fnExactCollapseRow.holds Try.pinned (OpenSpec.ofChange fnExactCollapseWrong)

/- THE SECOND FORM. 'bulk': how many values and letters a reading holds, each counted each time it is reached (what is shared counts as often as it is met; a slice's spare places count too). A statement '..UptoSaid' is the law's where the arguments, and the package variables that the reading takes, are together of bulk at most 1048576: NARROWER than '..Said'. Prove '..Said' where nothing that the law and all that it calls make is longer than what came in: it says more and counts as full. Else prove '..UptoSaid'. A law counts once. -/
mutual
def uptoBulk {H : Type} : DataW H → Nat
  | .lit (.string bytes) => bytes.length + 1
  | .lit _ => 1
  | .nil => 1
  | .ptr d => uptoBulk d + 1
  | .slice elems spare => uptoBulkAll elems + uptoBulkAll spare + 1
  | .agg parts => uptoBulkAll parts + 1
  | .iface _ d => uptoBulk d + 1
  | .map entries => uptoBulkEntries entries + 1
  | .held _ => 1
def uptoBulkAll {H : Type} : List (DataW H) → Nat
  | [] => 0
  | d :: r => uptoBulk d + uptoBulkAll r
def uptoBulkEntries {H : Type} : List (Lit × DataW H) → Nat
  | [] => 0
  | x :: r => uptoBulkEntry x + uptoBulkEntries r
def uptoBulkEntry {H : Type} : Lit × DataW H → Nat
  | (.string bytes, d) => bytes.length + uptoBulk d + 1
  | (_, d) => uptoBulk d + 1
 end
def uptoSmall : (H : Type) → List (DataW H) → Bool := fun _ ds => decide (uptoBulkAll ds ≤ 1048576)
def OpenSpec.upto (s : _root_.Go.ChangeSpec) : _root_.Go.OpenSpec := { _root_.Go.OpenSpec.ofChange s with cond := some uptoSmall }

/-- 'laws.FnCollapsed', WHERE WHAT IT READS IS OF BULK AT MOST 1048576: true; the input reads as it did. -/
def fnCollapsedUptoRow : OpenClaim := { program := "ytgohffeneibhdaa", sum := "4d76f87147f7cc4f8dc39eee5db91a3e2bdc46704e25418d07bba9b7a24db4ac", func := "loop.example/g00113/laws.FnCollapsed", spec := "fnCollapsed", unfollowed := true, recurses := true, apart := false, narrowed := true }
def FnCollapsedUptoSaid : Prop := fnCollapsedUptoRow.holds Try.pinned (OpenSpec.upto fnCollapsedSpec)

/-- 'laws.FnLeft', WHERE WHAT IT READS IS OF BULK AT MOST 1048576: true; the input reads as it did. -/
def fnLeftUptoRow : OpenClaim := { program := "ytgohffeneibhdaa", sum := "4d76f87147f7cc4f8dc39eee5db91a3e2bdc46704e25418d07bba9b7a24db4ac", func := "loop.example/g00113/laws.FnLeft", spec := "fnLeft", unfollowed := true, recurses := true, apart := false, narrowed := true }
def FnLeftUptoSaid : Prop := fnLeftUptoRow.holds Try.pinned (OpenSpec.upto fnLeftSpec)

/-- 'laws.FnExactCollapse', WHERE WHAT IT READS IS OF BULK AT MOST 1048576: true; the input reads as it did. -/
def fnExactCollapseUptoRow : OpenClaim := { program := "ytgohffeneibhdaa", sum := "4d76f87147f7cc4f8dc39eee5db91a3e2bdc46704e25418d07bba9b7a24db4ac", func := "loop.example/g00113/laws.FnExactCollapse", spec := "fnExactCollapse", unfollowed := true, recurses := true, apart := false, narrowed := true }
def FnExactCollapseUptoSaid : Prop := fnExactCollapseUptoRow.holds Try.pinned (OpenSpec.upto fnExactCollapseSpec)

end Rows
end Go.Proofs.Ytgohffeneibhdaa
