/-
  The specification's l2Last of a right prefix, by its plain twin; nothing old in memory turns.
-/
import Derived.Test.YthbpehpnikknlaaBSHi
import Derived.Deep.RegionHeld3
import Derived.Deep.RegionWith
import Derived.Deep.DeepCutAuto
namespace Go.Proofs.Ythbpehpnikknlaa
open Go.RowKit

theorem bNotU (M : BitVec 64) : bits .xor .u64 IntKind.u64.max (M.toNat : Int) = ((~~~ M).toNat : Int) := by
  show IntKind.u64.wrap ((BitVec.ofInt 64 IntKind.u64.max ^^^ BitVec.ofInt 64 M.toNat).toNat : Int) = _
  rw [ofN, show BitVec.ofInt 64 IntKind.u64.max = BitVec.allOnes 64 by decide, BitVec.allOnes_xor, wrapUn]

end Go.Proofs.Ythbpehpnikknlaa
