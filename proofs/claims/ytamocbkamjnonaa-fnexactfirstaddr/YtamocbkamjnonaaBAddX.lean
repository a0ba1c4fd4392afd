/-
  Both AddTo return one and the same pair, whose address is right and whose words are of 64 bits.
-/
import Derived.Test.YtamocbkamjnonaaLAddTo
namespace Go.Proofs.Ytamocbkamjnonaa
open Go.RowKit

theorem wrap64_bd (x : Int) : -9223372036854775808 ≤ wrap64 x ∧ wrap64 x ≤ 9223372036854775807 := by unfold wrap64; omega

end Go.Proofs.Ytamocbkamjnonaa
