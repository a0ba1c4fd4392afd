/-
  No cell of these rows narrows 'for every input' (looked for: loops, veiled, ifaces, maps, wideKeys, modest, calm, conditions, laid).
  DERIVED. THE GIVEN ROWS OF THIS SEAT. 3 by the template 'for every input the law returns true; each argument reads behind the call as it read before'; 0 by the template 'total and deterministic' (their statements: YtdbcdichmmcnbaaGreatTotals.lean).
  GIVEN WITH THE SEED: the statements are not yours to turn. If you find one false, say at which input.
  Laid BY PROGRAM, IN A SANDBOX (cutbox-rows.mjs): the forced cells as the released guide's own fill.sh prints them over the translation 769d6648e004c60e… (all of the seat's roots in one cut). By AI agents, Wed Nov 11 2026. No macro, syntax, notation, axiom, sorry.
-/
import Derived.Test.YtdbcdichmmcnbaaGreatChecked
import GoSem.Claim
import GoSem.ClaimJoined
import GoSem.ClaimMapViews
import Derived.JoinedTies
import Derived.KernelRfl
namespace Go.Proofs.YtdbcdichmmcnbaaGreat
/- THE CELL 'sum', in the pinned program and in every row, IS THE sha256 OF THE DUMP (.gsa) THAT YtdbcdichmmcnbaaGreatProg.lean LOADS. Nothing in Lean hashes anything: it is a label: what it is worth is what the hold of that sum in a sandbox is worth. -/
noncomputable def Tryz.pinned : Pinned := { name := "ytdbcdichmmcnbaagreat", sum := "769d6648e004c60e078ad777e2e4eb401130df2976c6ae9a01990c78115d90d7", checked := Tryz.checked }
namespace Rows
def none {H : Type} : Left H := { results := [], args := [] }

/-- 'laws.FnCarved': WHATEVER THE INPUT: true; the input reads as it did. -/
def fnCarvedSpec : ChangeSpec := { name := "fnCarved", fn := fun _ => fun
  | [d] => { results := [.lit (.bool true)], args := [d] }
  | _ => none }
def fnCarvedRow : OpenClaim := { program := "ytdbcdichmmcnbaagreat", sum := "769d6648e004c60e078ad777e2e4eb401130df2976c6ae9a01990c78115d90d7", func := "loop.example/g00113/laws.FnCarved", spec := "fnCarved", unfollowed := true, recurses := true, plainKeys := false, apart := false }
def FnCarvedSaid : Prop := fnCarvedRow.holds Tryz.pinned (OpenSpec.ofChange fnCarvedSpec)

/-- ITS FALSE NEIGHBOUR: 'it returns false'. Refute it at one input. -/
def fnCarvedWrong : ChangeSpec := { name := "fnCarved", fn := fun _ => fun
  | [d] => { results := [.lit (.bool false)], args := [d] }
  | _ => none }
def FnCarvedWrongFalsely : Prop := fnCarvedRow.holds Tryz.pinned (OpenSpec.ofChange fnCarvedWrong)

/-- 'laws.FnPools': WHATEVER THE INPUT: true; the input reads as it did. -/
def fnPoolsSpec : ChangeSpec := { name := "fnPools", fn := fun _ => fun
  | [d] => { results := [.lit (.bool true)], args := [d] }
  | _ => none }
def fnPoolsRow : OpenClaim := { program := "ytdbcdichmmcnbaagreat", sum := "769d6648e004c60e078ad777e2e4eb401130df2976c6ae9a01990c78115d90d7", func := "loop.example/g00113/laws.FnPools", spec := "fnPools", unfollowed := true, recurses := true, plainKeys := false, apart := false }
def FnPoolsSaid : Prop := fnPoolsRow.holds Tryz.pinned (OpenSpec.ofChange fnPoolsSpec)

/-- ITS FALSE NEIGHBOUR: 'it returns false'. Refute it at one input. -/
def fnPoolsWrong : ChangeSpec := { name := "fnPools", fn := fun _ => fun
  | [d] => { results := [.lit (.bool false)], args := [d] }
  | _ => none }
def FnPoolsWrongFalsely : Prop := fnPoolsRow.holds Tryz.pinned (OpenSpec.ofChange fnPoolsWrong)

/-- 'laws.FnExactCarve': WHATEVER THE INPUT: true; the input reads as it did. -/
def fnExactCarveSpec : ChangeSpec := { name := "fnExactCarve", fn := fun _ => fun
  | [d1, d2, d3] => { results := [.lit (.bool true)], args := [d1, d2, d3] }
  | _ => none }
def fnExactCarveRow : OpenClaim := { program := "ytdbcdichmmcnbaagreat", sum := "769d6648e004c60e078ad777e2e4eb401130df2976c6ae9a01990c78115d90d7", func := "loop.example/g00113/laws.FnExactCarve", spec := "fnExactCarve", unfollowed := true, recurses := true, plainKeys := false, apart := false }
def FnExactCarveSaid : Prop := fnExactCarveRow.holds Tryz.pinned (OpenSpec.ofChange fnExactCarveSpec)

/-- ITS FALSE NEIGHBOUR: 'it returns false'. Refute it at one input. -/
def fnExactCarveWrong : ChangeSpec := { name := "fnExactCarve", fn := fun _ => fun
  | [d1, d2, d3] => { results := [.lit (.bool false)], args := [d1, d2, d3] }
  | _ => none }
def FnExactCarveWrongFalsely : Prop := fnExactCarveRow.holds Tryz.pinned (OpenSpec.ofChange fnExactCarveWrong)

/- THE SECOND FORM. 'bulk': how many values and letters a reading holds, each counted each time it is reached (what is shared counts as often as it is met; a slice's spare places count too). A statement '..UptoSaid' is the law's where the arguments, and the package variables that the reading takes, are together of bulk at most 1048576: NARROWER than '..Said'. Prove '..Said' where nothing that the law and all that it calls make is longer than what came in: it says more and counts as full. Else prove '..UptoSaid'. A law counts once. -/
mutual
def uptoBulk {H : Type} : DataW H → Nat
  | .lit (.string bytes) => bytes.length + 1
  | .lit _ => 1
  | .nil => 1
  | .ptr d => uptoBulk d + 1
  | .slice elems spare => uptoBulkAll elems + uptoBulkAll spare + 1
  | .agg parts => uptoBulkAll parts + 1
  | .iface _ d => uptoBulk d + 1
  | .map entries => uptoBulkEntries entries + 1
  | .held _ => 1
def uptoBulkAll {H : Type} : List (DataW H) → Nat
  | [] => 0
  | d :: r => uptoBulk d + uptoBulkAll r
def uptoBulkEntries {H : Type} : List (Lit × DataW H) → Nat
  | [] => 0
  | x :: r => uptoBulkEntry x + uptoBulkEntries r
def uptoBulkEntry {H : Type} : Lit × DataW H → Nat
  | (.string bytes, d) => bytes.length + uptoBulk d + 1
  | (_, d) => uptoBulk d + 1
 end
def uptoSmall : (H : Type) → List (DataW H) → Bool := fun _ ds => decide (uptoBulkAll ds ≤ 1048576)
def OpenSpec.upto (s : _root_.Go.ChangeSpec) : _root_.Go.OpenSpec := { _root_.Go.OpenSpec.ofChange s with cond := some uptoSmall }

/-- 'laws.FnCarved', WHERE WHAT IT READS IS OF BULK AT MOST 1048576: true; the input reads as it did. -/
def fnCarvedUptoRow : OpenClaim := { program := "ytdbcdichmmcnbaagreat", sum := "769d6648e004c60e078ad777e2e4eb401130df2976c6ae9a01990c78115d90d7", func := "loop.example/g00113/laws.FnCarved", spec := "fnCarved", unfollowed := true, recurses := true, plainKeys := false, apart := false, narrowed := true }
def FnCarvedUptoSaid : Prop := fnCarvedUptoRow.holds Tryz.pinned (OpenSpec.upto fnCarvedSpec)

/-- 'laws.FnPools', WHERE WHAT IT READS IS OF BULK AT MOST 1048576: true; the input reads as it did. -/
def fnPoolsUptoRow : OpenClaim := { program := "ytdbcdichmmcnbaagreat", sum := "769d6648e004c60e078ad777e2e4eb401130df2976c6ae9a01990c78115d90d7", func := "loop.example/g00113/laws.FnPools", spec := "fnPools", unfollowed := true, recurses := true, plainKeys := false, apart := false, narrowed := true }
def FnPoolsUptoSaid : Prop := fnPoolsUptoRow.holds Tryz.pinned (OpenSpec.upto fnPoolsSpec)

/-- 'laws.FnExactCarve', WHERE WHAT IT READS IS OF BULK AT MOST 1048576: true; the input reads as it did. -/
def fnExactCarveUptoRow : OpenClaim := { program := "ytdbcdichmmcnbaagreat", sum := "769d6648e004c60e078ad777e2e4eb401130df2976c6ae9a01990c78115d90d7", func := "loop.example/g00113/laws.FnExactCarve", spec := "fnExactCarve", unfollowed := true, recurses := true, plainKeys := false, apart := false, narrowed := true }
def FnExactCarveUptoSaid : Prop := fnExactCarveUptoRow.holds Tryz.pinned (OpenSpec.upto fnExactCarveSpec)

end Rows
end Go.Proofs.YtdbcdichmmcnbaaGreat
