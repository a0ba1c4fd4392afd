/-
  The laws' toPrefix hands back what it got; nothing old in memory turns.
-/
import Derived.Test.YtgackacnlnagmaaDoorAOk
import Derived.Deep.RegionWith
import Derived.Deep.DeepCutAuto
namespace Go.Proofs.YtgackacnlnagmaaDoor
open Go.RowKit

end Go.Proofs.YtgackacnlnagmaaDoor
