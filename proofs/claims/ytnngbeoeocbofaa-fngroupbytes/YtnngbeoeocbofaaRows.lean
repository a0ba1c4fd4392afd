/-
  No cell of these rows narrows 'for every input' (looked for: loops, veiled, ifaces, maps, wideKeys, modest, calm, conditions, laid).
  DERIVED. THE GIVEN ROWS OF THIS SEAT. 6 by the template 'for every input the law returns true; each argument reads behind the call as it read before'; 0 by the template 'total and deterministic' (their statements: YtnngbeoeocbofaaTotals.lean).
  GIVEN WITH THE SEED: the statements are not yours to turn. If you find one false, say at which input.
  Laid BY PROGRAM, IN A SANDBOX (cutbox-rows.mjs): the forced cells as the released guide's own fill.sh prints them over the translation 16a6af53b2f5fff4… (all of the seat's roots in one cut). By AI agents, Wed Nov 11 2026. No macro, syntax, notation, axiom, sorry.
-/
import Derived.Test.YtnngbeoeocbofaaChecked
import GoSem.Claim
import GoSem.ClaimJoined
import GoSem.ClaimMapViews
import Derived.JoinedTies
import Derived.KernelRfl
namespace Go.Proofs.Ytnngbeoeocbofaa
/- THE CELL 'sum', in the pinned program and in every row, IS THE sha256 OF THE DUMP (.gsa) THAT YtnngbeoeocbofaaProg.lean LOADS. Nothing in Lean hashes anything: it is a label: what it is worth is what the hold of that sum in a sandbox is worth. -/
noncomputable def Try.pinned : Pinned := { name := "ytnngbeoeocbofaa", sum := "16a6af53b2f5fff4935a8052e723eb451c9f23dde8346cfbabfbc26ff9e863b0", checked := Try.checked }
namespace Rows
def none {H : Type} : Left H := { results := [], args := [] }

/-- 'laws.FnGroupBytes': WHATEVER THE INPUT: true; the input reads as it did. -/
def fnGroupBytesSpec : ChangeSpec := { name := "fnGroupBytes", fn := fun _ => fun
  | [d] => { results := [.lit (.bool true)], args := [d] }
  | _ => none }
def fnGroupBytesRow : OpenClaim := { program := "ytnngbeoeocbofaa", sum := "16a6af53b2f5fff4935a8052e723eb451c9f23dde8346cfbabfbc26ff9e863b0", func := "loop.example/g00113/laws.FnGroupBytes", spec := "fnGroupBytes", unfollowed := true, recurses := true, apart := false }
def FnGroupBytesSaid : Prop := fnGroupBytesRow.holds Try.pinned (OpenSpec.ofChange fnGroupBytesSpec)

/-- ITS FALSE NEIGHBOUR: 'it returns false'. Refute it at one input. -/
def fnGroupBytesWrong : ChangeSpec := { name := "fnGroupBytes", fn := fun _ => fun
  | [d] => { results := [.lit (.bool false)], args := [d] }
  | _ => none }
def FnGroupBytesWrongFalsely : Prop := fnGroupBytesRow.holds Try.pinned (OpenSpec.ofChange fnGroupBytesWrong)

/-- 'laws.FnExactGroupOk': WHATEVER THE INPUT: true; the input reads as it did. -/
def fnExactGroupOkSpec : ChangeSpec := { name := "fnExactGroupOk", fn := fun _ => fun
  | [d] => { results := [.lit (.bool true)], args := [d] }
  | _ => none }
def fnExactGroupOkRow : OpenClaim := { program := "ytnngbeoeocbofaa", sum := "16a6af53b2f5fff4935a8052e723eb451c9f23dde8346cfbabfbc26ff9e863b0", func := "loop.example/g00113/laws.FnExactGroupOk", spec := "fnExactGroupOk", apart := false }
def FnExactGroupOkSaid : Prop := fnExactGroupOkRow.holds Try.pinned (OpenSpec.ofChange fnExactGroupOkSpec)

/-- ITS FALSE NEIGHBOUR: 'it returns false'. Refute it at one input. -/
def fnExactGroupOkWrong : ChangeSpec := { name := "fnExactGroupOk", fn := fun _ => fun
  | [d] => { results := [.lit (.bool false)], args := [d] }
  | _ => none }
def FnExactGroupOkWrongFalsely : Prop := fnExactGroupOkRow.holds Try.pinned (OpenSpec.ofChange fnExactGroupOkWrong)

/-- 'laws.FnExactJoint': WHATEVER THE INPUT: true; the input reads as it did. -/
def fnExactJointSpec : ChangeSpec := { name := "fnExactJoint", fn := fun _ => fun
  | [d1, d2] => { results := [.lit (.bool true)], args := [d1, d2] }
  | _ => none }
def fnExactJointRow : OpenClaim := { program := "ytnngbeoeocbofaa", sum := "16a6af53b2f5fff4935a8052e723eb451c9f23dde8346cfbabfbc26ff9e863b0", func := "loop.example/g00113/laws.FnExactJoint", spec := "fnExactJoint", apart := false }
def FnExactJointSaid : Prop := fnExactJointRow.holds Try.pinned (OpenSpec.ofChange fnExactJointSpec)

/-- ITS FALSE NEIGHBOUR: 'it returns false'. Refute it at one input. -/
def fnExactJointWrong : ChangeSpec := { name := "fnExactJoint", fn := fun _ => fun
  | [d1, d2] => { results := [.lit (.bool false)], args := [d1, d2] }
  | _ => none }
def FnExactJointWrongFalsely : Prop := fnExactJointRow.holds Try.pinned (OpenSpec.ofChange fnExactJointWrong)

/-- 'laws.FnExactSettled': WHATEVER THE INPUT: true; the input reads as it did. -/
def fnExactSettledSpec : ChangeSpec := { name := "fnExactSettled", fn := fun _ => fun
  | [d] => { results := [.lit (.bool true)], args := [d] }
  | _ => none }
def fnExactSettledRow : OpenClaim := { program := "ytnngbeoeocbofaa", sum := "16a6af53b2f5fff4935a8052e723eb451c9f23dde8346cfbabfbc26ff9e863b0", func := "loop.example/g00113/laws.FnExactSettled", spec := "fnExactSettled", apart := false }
def FnExactSettledSaid : Prop := fnExactSettledRow.holds Try.pinned (OpenSpec.ofChange fnExactSettledSpec)

/-- ITS FALSE NEIGHBOUR: 'it returns false'. Refute it at one input. -/
def fnExactSettledWrong : ChangeSpec := { name := "fnExactSettled", fn := fun _ => fun
  | [d] => { results := [.lit (.bool false)], args := [d] }
  | _ => none }
def FnExactSettledWrongFalsely : Prop := fnExactSettledRow.holds Try.pinned (OpenSpec.ofChange fnExactSettledWrong)

/-- 'laws.FnExactPutGroup': WHATEVER THE INPUT: true; the input reads as it did. -/
def fnExactPutGroupSpec : ChangeSpec := { name := "fnExactPutGroup", fn := fun _ => fun
  | [d] => { results := [.lit (.bool true)], args := [d] }
  | _ => none }
def fnExactPutGroupRow : OpenClaim := { program := "ytnngbeoeocbofaa", sum := "16a6af53b2f5fff4935a8052e723eb451c9f23dde8346cfbabfbc26ff9e863b0", func := "loop.example/g00113/laws.FnExactPutGroup", spec := "fnExactPutGroup", apart := false }
def FnExactPutGroupSaid : Prop := fnExactPutGroupRow.holds Try.pinned (OpenSpec.ofChange fnExactPutGroupSpec)

/-- ITS FALSE NEIGHBOUR: 'it returns false'. Refute it at one input. -/
def fnExactPutGroupWrong : ChangeSpec := { name := "fnExactPutGroup", fn := fun _ => fun
  | [d] => { results := [.lit (.bool false)], args := [d] }
  | _ => none }
def FnExactPutGroupWrongFalsely : Prop := fnExactPutGroupRow.holds Try.pinned (OpenSpec.ofChange fnExactPutGroupWrong)

/-- 'laws.FnExactGetGroup': WHATEVER THE INPUT: true; the input reads as it did. -/
def fnExactGetGroupSpec : ChangeSpec := { name := "fnExactGetGroup", fn := fun _ => fun
  | [d] => { results := [.lit (.bool true)], args := [d] }
  | _ => none }
def fnExactGetGroupRow : OpenClaim := { program := "ytnngbeoeocbofaa", sum := "16a6af53b2f5fff4935a8052e723eb451c9f23dde8346cfbabfbc26ff9e863b0", func := "loop.example/g00113/laws.FnExactGetGroup", spec := "fnExactGetGroup", apart := false }
def FnExactGetGroupSaid : Prop := fnExactGetGroupRow.holds Try.pinned (OpenSpec.ofChange fnExactGetGroupSpec)

/-- ITS FALSE NEIGHBOUR: 'it returns false'. Refute it at one input. -/
def fnExactGetGroupWrong : ChangeSpec := { name := "fnExactGetGroup", fn := fun _ => fun
  | [d] => { results := [.lit (.bool false)], args := [d] }
  | _ => none }
def FnExactGetGroupWrongFalsely : Prop := fnExactGetGroupRow.holds Try.pinned (OpenSpec.ofChange fnExactGetGroupWrong)

/- THE SECOND FORM. 'bulk': how many values and letters a reading holds, each counted each time it is reached (what is shared counts as often as it is met; a slice's spare places count too). A statement '..UptoSaid' is the law's where the arguments, and the package variables that the reading takes, are together of bulk at most 1048576: NARROWER than '..Said'. Prove '..Said' where nothing that the law and all that it calls make is longer than what came in: it says more and counts as full. Else prove '..UptoSaid'. A law counts once. -/
mutual
def uptoBulk {H : Type} : DataW H → Nat
  | .lit (.string bytes) => bytes.length + 1
  | .lit _ => 1
  | .nil => 1
  | .ptr d => uptoBulk d + 1
  | .slice elems spare => uptoBulkAll elems + uptoBulkAll spare + 1
  | .agg parts => uptoBulkAll parts + 1
  | .iface _ d => uptoBulk d + 1
  | .map entries => uptoBulkEntries entries + 1
  | .held _ => 1
def uptoBulkAll {H : Type} : List (DataW H) → Nat
  | [] => 0
  | d :: r => uptoBulk d + uptoBulkAll r
def uptoBulkEntries {H : Type} : List (Lit × DataW H) → Nat
  | [] => 0
  | x :: r => uptoBulkEntry x + uptoBulkEntries r
def uptoBulkEntry {H : Type} : Lit × DataW H → Nat
  | (.string bytes, d) => bytes.length + uptoBulk d + 1
  | (_, d) => uptoBulk d + 1
 end
def uptoSmall : (H : Type) → List (DataW H) → Bool := fun _ ds => decide (uptoBulkAll ds ≤ 1048576)
def OpenSpec.upto (s : _root_.Go.ChangeSpec) : _root_.Go.OpenSpec := { _root_.Go.OpenSpec.ofChange s with cond := some uptoSmall }

/-- 'laws.FnGroupBytes', WHERE WHAT IT READS IS OF BULK AT MOST 1048576: true; the input reads as it did. -/
def fnGroupBytesUptoRow : OpenClaim := { program := "ytnngbeoeocbofaa", sum := "16a6af53b2f5fff4935a8052e723eb451c9f23dde8346cfbabfbc26ff9e863b0", func := "loop.example/g00113/laws.FnGroupBytes", spec := "fnGroupBytes", unfollowed := true, recurses := true, apart := false, narrowed := true }
def FnGroupBytesUptoSaid : Prop := fnGroupBytesUptoRow.holds Try.pinned (OpenSpec.upto fnGroupBytesSpec)

/-- 'laws.FnExactGroupOk', WHERE WHAT IT READS IS OF BULK AT MOST 1048576: true; the input reads as it did. -/
def fnExactGroupOkUptoRow : OpenClaim := { program := "ytnngbeoeocbofaa", sum := "16a6af53b2f5fff4935a8052e723eb451c9f23dde8346cfbabfbc26ff9e863b0", func := "loop.example/g00113/laws.FnExactGroupOk", spec := "fnExactGroupOk", apart := false, narrowed := true }
def FnExactGroupOkUptoSaid : Prop := fnExactGroupOkUptoRow.holds Try.pinned (OpenSpec.upto fnExactGroupOkSpec)

/-- 'laws.FnExactJoint', WHERE WHAT IT READS IS OF BULK AT MOST 1048576: true; the input reads as it did. -/
def fnExactJointUptoRow : OpenClaim := { program := "ytnngbeoeocbofaa", sum := "16a6af53b2f5fff4935a8052e723eb451c9f23dde8346cfbabfbc26ff9e863b0", func := "loop.example/g00113/laws.FnExactJoint", spec := "fnExactJoint", apart := false, narrowed := true }
def FnExactJointUptoSaid : Prop := fnExactJointUptoRow.holds Try.pinned (OpenSpec.upto fnExactJointSpec)

/-- 'laws.FnExactSettled', WHERE WHAT IT READS IS OF BULK AT MOST 1048576: true; the input reads as it did. -/
def fnExactSettledUptoRow : OpenClaim := { program := "ytnngbeoeocbofaa", sum := "16a6af53b2f5fff4935a8052e723eb451c9f23dde8346cfbabfbc26ff9e863b0", func := "loop.example/g00113/laws.FnExactSettled", spec := "fnExactSettled", apart := false, narrowed := true }
def FnExactSettledUptoSaid : Prop := fnExactSettledUptoRow.holds Try.pinned (OpenSpec.upto fnExactSettledSpec)

/-- 'laws.FnExactPutGroup', WHERE WHAT IT READS IS OF BULK AT MOST 1048576: true; the input reads as it did. -/
def fnExactPutGroupUptoRow : OpenClaim := { program := "ytnngbeoeocbofaa", sum := "16a6af53b2f5fff4935a8052e723eb451c9f23dde8346cfbabfbc26ff9e863b0", func := "loop.example/g00113/laws.FnExactPutGroup", spec := "fnExactPutGroup", apart := false, narrowed := true }
def FnExactPutGroupUptoSaid : Prop := fnExactPutGroupUptoRow.holds Try.pinned (OpenSpec.upto fnExactPutGroupSpec)

/-- 'laws.FnExactGetGroup', WHERE WHAT IT READS IS OF BULK AT MOST 1048576: true; the input reads as it did. -/
def fnExactGetGroupUptoRow : OpenClaim := { program := "ytnngbeoeocbofaa", sum := "16a6af53b2f5fff4935a8052e723eb451c9f23dde8346cfbabfbc26ff9e863b0", func := "loop.example/g00113/laws.FnExactGetGroup", spec := "fnExactGetGroup", apart := false, narrowed := true }
def FnExactGetGroupUptoSaid : Prop := fnExactGetGroupUptoRow.holds Try.pinned (OpenSpec.upto fnExactGetGroupSpec)

end Rows
end Go.Proofs.Ytnngbeoeocbofaa
