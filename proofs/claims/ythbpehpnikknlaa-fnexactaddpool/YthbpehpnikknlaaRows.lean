/-
  No cell of these rows narrows 'for every input' (looked for: loops, veiled, ifaces, maps, wideKeys, modest, calm, conditions, laid).
  DERIVED. THE GIVEN ROWS OF THIS SEAT. 6 by the template 'for every input the law returns true; each argument reads behind the call as it read before'; 0 by the template 'total and deterministic' (their statements: YthbpehpnikknlaaTotals.lean).
  GIVEN WITH THE SEED: the statements are not yours to turn. If you find one false, say at which input.
  Laid BY PROGRAM, IN A SANDBOX (cutbox-rows.mjs): the forced cells as the released guide's own fill.sh prints them over the translation 7a0f55ae22f3533c… (all of the seat's roots in one cut). By AI agents, Wed Nov 11 2026. No macro, syntax, notation, axiom, sorry.
-/
import Derived.Test.YthbpehpnikknlaaChecked
import GoSem.Claim
import GoSem.ClaimJoined
import GoSem.ClaimMapViews
import Derived.JoinedTies
import Derived.KernelRfl
namespace Go.Proofs.Ythbpehpnikknlaa
/- THE CELL 'sum', in the pinned program and in every row, IS THE sha256 OF THE DUMP (.gsa) THAT YthbpehpnikknlaaProg.lean LOADS. Nothing in Lean hashes anything: it is a label: what it is worth is what the hold of that sum in a sandbox is worth. -/
noncomputable def Try.pinned : Pinned := { name := "ythbpehpnikknlaa", sum := "7a0f55ae22f3533cf6e8738137bcad2614cd683865c8c080bab8b9f35f27e566", checked := Try.checked }
namespace Rows
def none {H : Type} : Left H := { results := [], args := [] }

/-- 'laws.FnExactOwnerOk': WHATEVER THE INPUT: true; the input reads as it did. -/
def fnExactOwnerOkSpec : ChangeSpec := { name := "fnExactOwnerOk", fn := fun _ => fun
  | [d] => { results := [.lit (.bool true)], args := [d] }
  | _ => none }
def fnExactOwnerOkRow : OpenClaim := { program := "ythbpehpnikknlaa", sum := "7a0f55ae22f3533cf6e8738137bcad2614cd683865c8c080bab8b9f35f27e566", func := "loop.example/g00113/laws.FnExactOwnerOk", spec := "fnExactOwnerOk", apart := false }
def FnExactOwnerOkSaid : Prop := fnExactOwnerOkRow.holds Try.pinned (OpenSpec.ofChange fnExactOwnerOkSpec)

/-- ITS FALSE NEIGHBOUR: 'it returns false'. Refute it at one input. -/
def fnExactOwnerOkWrong : ChangeSpec := { name := "fnExactOwnerOk", fn := fun _ => fun
  | [d] => { results := [.lit (.bool false)], args := [d] }
  | _ => none }
def FnExactOwnerOkWrongFalsely : Prop := fnExactOwnerOkRow.holds Try.pinned (OpenSpec.ofChange fnExactOwnerOkWrong)

/-- 'laws.FnExactPlanOk': WHATEVER THE INPUT: true; the input reads as it did. -/
def fnExactPlanOkSpec : ChangeSpec := { name := "fnExactPlanOk", fn := fun _ => fun
  | [d] => { results := [.lit (.bool true)], args := [d] }
  | _ => none }
def fnExactPlanOkRow : OpenClaim := { program := "ythbpehpnikknlaa", sum := "7a0f55ae22f3533cf6e8738137bcad2614cd683865c8c080bab8b9f35f27e566", func := "loop.example/g00113/laws.FnExactPlanOk", spec := "fnExactPlanOk", unfollowed := true, recurses := true, apart := false }
def FnExactPlanOkSaid : Prop := fnExactPlanOkRow.holds Try.pinned (OpenSpec.ofChange fnExactPlanOkSpec)

/-- ITS FALSE NEIGHBOUR: 'it returns false'. Refute it at one input. -/
def fnExactPlanOkWrong : ChangeSpec := { name := "fnExactPlanOk", fn := fun _ => fun
  | [d] => { results := [.lit (.bool false)], args := [d] }
  | _ => none }
def FnExactPlanOkWrongFalsely : Prop := fnExactPlanOkRow.holds Try.pinned (OpenSpec.ofChange fnExactPlanOkWrong)

/-- 'laws.FnExactAddPool': WHATEVER THE INPUT: true; the input reads as it did. -/
def fnExactAddPoolSpec : ChangeSpec := { name := "fnExactAddPool", fn := fun _ => fun
  | [d1, d2] => { results := [.lit (.bool true)], args := [d1, d2] }
  | _ => none }
def fnExactAddPoolRow : OpenClaim := { program := "ythbpehpnikknlaa", sum := "7a0f55ae22f3533cf6e8738137bcad2614cd683865c8c080bab8b9f35f27e566", func := "loop.example/g00113/laws.FnExactAddPool", spec := "fnExactAddPool", unfollowed := true, recurses := true, apart := false }
def FnExactAddPoolSaid : Prop := fnExactAddPoolRow.holds Try.pinned (OpenSpec.ofChange fnExactAddPoolSpec)

/-- ITS FALSE NEIGHBOUR: 'it returns false'. Refute it at one input. -/
def fnExactAddPoolWrong : ChangeSpec := { name := "fnExactAddPool", fn := fun _ => fun
  | [d1, d2] => { results := [.lit (.bool false)], args := [d1, d2] }
  | _ => none }
def FnExactAddPoolWrongFalsely : Prop := fnExactAddPoolRow.holds Try.pinned (OpenSpec.ofChange fnExactAddPoolWrong)

/-- 'laws.FnExactDropPool': WHATEVER THE INPUT: true; the input reads as it did. -/
def fnExactDropPoolSpec : ChangeSpec := { name := "fnExactDropPool", fn := fun _ => fun
  | [d1, d2] => { results := [.lit (.bool true)], args := [d1, d2] }
  | _ => none }
def fnExactDropPoolRow : OpenClaim := { program := "ythbpehpnikknlaa", sum := "7a0f55ae22f3533cf6e8738137bcad2614cd683865c8c080bab8b9f35f27e566", func := "loop.example/g00113/laws.FnExactDropPool", spec := "fnExactDropPool", unfollowed := true, recurses := true, apart := false }
def FnExactDropPoolSaid : Prop := fnExactDropPoolRow.holds Try.pinned (OpenSpec.ofChange fnExactDropPoolSpec)

/-- ITS FALSE NEIGHBOUR: 'it returns false'. Refute it at one input. -/
def fnExactDropPoolWrong : ChangeSpec := { name := "fnExactDropPool", fn := fun _ => fun
  | [d1, d2] => { results := [.lit (.bool false)], args := [d1, d2] }
  | _ => none }
def FnExactDropPoolWrongFalsely : Prop := fnExactDropPoolRow.holds Try.pinned (OpenSpec.ofChange fnExactDropPoolWrong)

/-- 'laws.FnExactBlockOf': WHATEVER THE INPUT: true; the input reads as it did. -/
def fnExactBlockOfSpec : ChangeSpec := { name := "fnExactBlockOf", fn := fun _ => fun
  | [d1, d2] => { results := [.lit (.bool true)], args := [d1, d2] }
  | _ => none }
def fnExactBlockOfRow : OpenClaim := { program := "ythbpehpnikknlaa", sum := "7a0f55ae22f3533cf6e8738137bcad2614cd683865c8c080bab8b9f35f27e566", func := "loop.example/g00113/laws.FnExactBlockOf", spec := "fnExactBlockOf", unfollowed := true, recurses := true, apart := false }
def FnExactBlockOfSaid : Prop := fnExactBlockOfRow.holds Try.pinned (OpenSpec.ofChange fnExactBlockOfSpec)

/-- ITS FALSE NEIGHBOUR: 'it returns false'. Refute it at one input. -/
def fnExactBlockOfWrong : ChangeSpec := { name := "fnExactBlockOf", fn := fun _ => fun
  | [d1, d2] => { results := [.lit (.bool false)], args := [d1, d2] }
  | _ => none }
def FnExactBlockOfWrongFalsely : Prop := fnExactBlockOfRow.holds Try.pinned (OpenSpec.ofChange fnExactBlockOfWrong)

/-- 'laws.FnExactUsage': WHATEVER THE INPUT: true; the input reads as it did. -/
def fnExactUsageSpec : ChangeSpec := { name := "fnExactUsage", fn := fun _ => fun
  | [d] => { results := [.lit (.bool true)], args := [d] }
  | _ => none }
def fnExactUsageRow : OpenClaim := { program := "ythbpehpnikknlaa", sum := "7a0f55ae22f3533cf6e8738137bcad2614cd683865c8c080bab8b9f35f27e566", func := "loop.example/g00113/laws.FnExactUsage", spec := "fnExactUsage", unfollowed := true, recurses := true, apart := false }
def FnExactUsageSaid : Prop := fnExactUsageRow.holds Try.pinned (OpenSpec.ofChange fnExactUsageSpec)

/-- ITS FALSE NEIGHBOUR: 'it returns false'. Refute it at one input. -/
def fnExactUsageWrong : ChangeSpec := { name := "fnExactUsage", fn := fun _ => fun
  | [d] => { results := [.lit (.bool false)], args := [d] }
  | _ => none }
def FnExactUsageWrongFalsely : Prop := fnExactUsageRow.holds Try.pinned (OpenSpec.ofChange fnExactUsageWrong)

/- THE SECOND FORM. 'bulk': how many values and letters a reading holds, each counted each time it is reached (what is shared counts as often as it is met; a slice's spare places count too). A statement '..UptoSaid' is the law's where the arguments, and the package variables that the reading takes, are together of bulk at most 1048576: NARROWER than '..Said'. Prove '..Said' where nothing that the law and all that it calls make is longer than what came in: it says more and counts as full. Else prove '..UptoSaid'. A law counts once. -/
mutual
def uptoBulk {H : Type} : DataW H → Nat
  | .lit (.string bytes) => bytes.length + 1
  | .lit _ => 1
  | .nil => 1
  | .ptr d => uptoBulk d + 1
  | .slice elems spare => uptoBulkAll elems + uptoBulkAll spare + 1
  | .agg parts => uptoBulkAll parts + 1
  | .iface _ d => uptoBulk d + 1
  | .map entries => uptoBulkEntries entries + 1
  | .held _ => 1
def uptoBulkAll {H : Type} : List (DataW H) → Nat
  | [] => 0
  | d :: r => uptoBulk d + uptoBulkAll r
def uptoBulkEntries {H : Type} : List (Lit × DataW H) → Nat
  | [] => 0
  | x :: r => uptoBulkEntry x + uptoBulkEntries r
def uptoBulkEntry {H : Type} : Lit × DataW H → Nat
  | (.string bytes, d) => bytes.length + uptoBulk d + 1
  | (_, d) => uptoBulk d + 1
 end
def uptoSmall : (H : Type) → List (DataW H) → Bool := fun _ ds => decide (uptoBulkAll ds ≤ 1048576)
def OpenSpec.upto (s : _root_.Go.ChangeSpec) : _root_.Go.OpenSpec := { _root_.Go.OpenSpec.ofChange s with cond := some uptoSmall }

/-- 'laws.FnExactOwnerOk', WHERE WHAT IT READS IS OF BULK AT MOST 1048576: true; the input reads as it did. -/
def fnExactOwnerOkUptoRow : OpenClaim := { program := "ythbpehpnikknlaa", sum := "7a0f55ae22f3533cf6e8738137bcad2614cd683865c8c080bab8b9f35f27e566", func := "loop.example/g00113/laws.FnExactOwnerOk", spec := "fnExactOwnerOk", apart := false, narrowed := true }
def FnExactOwnerOkUptoSaid : Prop := fnExactOwnerOkUptoRow.holds Try.pinned (OpenSpec.upto fnExactOwnerOkSpec)

/-- 'laws.FnExactPlanOk', WHERE WHAT IT READS IS OF BULK AT MOST 1048576: true; the input reads as it did. -/
def fnExactPlanOkUptoRow : OpenClaim := { program := "ythbpehpnikknlaa", sum := "7a0f55ae22f3533cf6e8738137bcad2614cd683865c8c080bab8b9f35f27e566", func := "loop.example/g00113/laws.FnExactPlanOk", spec := "fnExactPlanOk", unfollowed := true, recurses := true, apart := false, narrowed := true }
def FnExactPlanOkUptoSaid : Prop := fnExactPlanOkUptoRow.holds Try.pinned (OpenSpec.upto fnExactPlanOkSpec)

/-- 'laws.FnExactAddPool', WHERE WHAT IT READS IS OF BULK AT MOST 1048576: true; the input reads as it did. -/
def fnExactAddPoolUptoRow : OpenClaim := { program := "ythbpehpnikknlaa", sum := "7a0f55ae22f3533cf6e8738137bcad2614cd683865c8c080bab8b9f35f27e566", func := "loop.example/g00113/laws.FnExactAddPool", spec := "fnExactAddPool", unfollowed := true, recurses := true, apart := false, narrowed := true }
def FnExactAddPoolUptoSaid : Prop := fnExactAddPoolUptoRow.holds Try.pinned (OpenSpec.upto fnExactAddPoolSpec)

/-- 'laws.FnExactDropPool', WHERE WHAT IT READS IS OF BULK AT MOST 1048576: true; the input reads as it did. -/
def fnExactDropPoolUptoRow : OpenClaim := { program := "ythbpehpnikknlaa", sum := "7a0f55ae22f3533cf6e8738137bcad2614cd683865c8c080bab8b9f35f27e566", func := "loop.example/g00113/laws.FnExactDropPool", spec := "fnExactDropPool", unfollowed := true, recurses := true, apart := false, narrowed := true }
def FnExactDropPoolUptoSaid : Prop := fnExactDropPoolUptoRow.holds Try.pinned (OpenSpec.upto fnExactDropPoolSpec)

/-- 'laws.FnExactBlockOf', WHERE WHAT IT READS IS OF BULK AT MOST 1048576: true; the input reads as it did. -/
def fnExactBlockOfUptoRow : OpenClaim := { program := "ythbpehpnikknlaa", sum := "7a0f55ae22f3533cf6e8738137bcad2614cd683865c8c080bab8b9f35f27e566", func := "loop.example/g00113/laws.FnExactBlockOf", spec := "fnExactBlockOf", unfollowed := true, recurses := true, apart := false, narrowed := true }
def FnExactBlockOfUptoSaid : Prop := fnExactBlockOfUptoRow.holds Try.pinned (OpenSpec.upto fnExactBlockOfSpec)

/-- 'laws.FnExactUsage', WHERE WHAT IT READS IS OF BULK AT MOST 1048576: true; the input reads as it did. -/
def fnExactUsageUptoRow : OpenClaim := { program := "ythbpehpnikknlaa", sum := "7a0f55ae22f3533cf6e8738137bcad2614cd683865c8c080bab8b9f35f27e566", func := "loop.example/g00113/laws.FnExactUsage", spec := "fnExactUsage", unfollowed := true, recurses := true, apart := false, narrowed := true }
def FnExactUsageUptoSaid : Prop := fnExactUsageUptoRow.holds Try.pinned (OpenSpec.upto fnExactUsageSpec)

end Rows
end Go.Proofs.Ythbpehpnikknlaa
