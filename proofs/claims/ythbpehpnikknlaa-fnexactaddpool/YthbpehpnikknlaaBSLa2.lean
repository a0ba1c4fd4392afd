/-
  The specification's LastOf, by its plain twin; nothing old in memory turns.
-/
import Derived.Test.YthbpehpnikknlaaBSPok
import Derived.Test.YthbpehpnikknlaaBSLast
import Derived.Deep.RegionWith
import Derived.Deep.DeepCutAuto
namespace Go.Proofs.Ythbpehpnikknlaa
open Go.RowKit

end Go.Proofs.Ythbpehpnikknlaa
