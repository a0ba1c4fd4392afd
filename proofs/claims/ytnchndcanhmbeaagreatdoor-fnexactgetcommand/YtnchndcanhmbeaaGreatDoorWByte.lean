/-
  The specification's l1Byte: a number from 0 to 255; the cursor lies as before, on or one farther; nothing else turns.
-/
import Derived.Test.YtnchndcanhmbeaaGreatDoorWCur
import Derived.RegionTactic
namespace Go.Proofs.YtnchndcanhmbeaaGreatDoor
open Go.RowKit

theorem and255 (x : Int) : 0 ≤ bits .and .i64 x 255 ∧ bits .and .i64 x 255 ≤ 255 := by
  have e : bits .and .i64 x 255 = IntKind.i64.wrap ((BitVec.ofInt 64 x &&& BitVec.ofInt 64 255).toNat : Int) := rfl
  have h : (BitVec.ofInt 64 x &&& BitVec.ofInt 64 255).toNat ≤ 255 := by
    rw [BitVec.toNat_and]
    exact Nat.le_trans Nat.and_le_right (by decide)
  rw [e, IntKind.wrap_i64]
  omega

end Go.Proofs.YtnchndcanhmbeaaGreatDoor
