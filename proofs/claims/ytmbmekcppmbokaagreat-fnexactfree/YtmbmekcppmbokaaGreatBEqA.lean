/-
  The laws' eqAddr of two that are alike is true; nothing old in memory turns.
-/
import Derived.Test.YtmbmekcppmbokaaGreatAOk
import Derived.Deep.RegionWith
import Derived.Deep.DeepCutAuto
namespace Go.Proofs.YtmbmekcppmbokaaGreat
open Go.RowKit

set_option maxHeartbeats 1000000 in
theorem eqA_same (s : Bool) (h l : Int) (w : World) :
    Calls Tryz.prog 40 #[.agg #[.bool s, .int .i64 h, .int .i64 l], .agg #[.bool s, .int .i64 h, .int .i64 l]] w fun e w' => e = .returned (.bool true) ∧ Below w.heap.size w w' := by
  go_enter Tryz.func40, Tryz.ntmps40
  go_wp2
  go_ret
  refine ⟨rfl, ?_⟩
  repeat (first | with_reducible exact Below.refl _ _ | (with_reducible refine Below.drew ?_) | (with_reducible refine Below.alloc ?_ ?_ _; rotate_left; (focus (first | omega | (simp; omega) | (simp; done)))) | (with_reducible refine Below.setCell ?_ ?_ _; rotate_left; (focus (first | omega | (simp; omega) | (simp; done)))))

end Go.Proofs.YtmbmekcppmbokaaGreat
