/-
  The specification's HasAddr as a whole, by its plain twin; nothing old in memory turns.
-/
import Derived.Test.YtmbmekcppmbokaaGreatBSHas2
import Derived.Deep.RegionWith
import Derived.Deep.DeepCutAuto
namespace Go.Proofs.YtmbmekcppmbokaaGreat
open Go.RowKit

/-- whether the prefix (s, H, L, b) has the address (s', H', L') -/
def hadB (s : Bool) (H L : BitVec 64) (b : Int) (s' : Bool) (H' L' : BitVec 64) : Bool := pokB s H L b && (okB s' H'.toInt L'.toInt && hasB s H L ((wd s : Int) - b).toNat s' H' L')

theorem sHasAddr_any (s : Bool) (H L : BitVec 64) (b : Int) (s' : Bool) (H' L' : BitVec 64) (w : World) :
    Calls Tryz.prog 78 #[.agg #[.bool s, .int .i64 H.toInt, .int .i64 L.toInt, .int .i64 b], .agg #[.bool s', .int .i64 H'.toInt, .int .i64 L'.toInt]] w fun e w' => e = .returned (.bool (hadB s H L b s' H' L')) ∧ Below w.heap.size w w' := by
  cases hp : pokB s H L b
  · rw [show hadB s H L b s' H' L' = false by simp [hadB, hp]]
    exact sHasAddr_no s H L b s' H' L' hp w
  · cases hok : okB s' H'.toInt L'.toInt
    · rw [show hadB s H L b s' H' L' = false by simp [hadB, hok]]
      exact sHasAddr_bad s H L b s' H' L' hp hok w
    · rw [show hadB s H L b s' H' L' = hasB s H L ((wd s : Int) - b).toNat s' H' L' by rw [hadB, hp, hok]; rfl]
      have hb : 0 ≤ b ∧ b ≤ (wd s : Int) := by
        simp only [pokB, Bool.and_eq_true, decide_eq_true_eq] at hp
        exact hp.2.1
      by_cases e : s' = s
      · subst e
        exact sHasAddr_same s' H L b _ H' L' hp hok (by omega) (by omega) w
      · have e1 : (s' == s) = false := by simpa using e
        rw [show hasB s H L ((wd s : Int) - b).toNat s' H' L' = false by rw [hasB, e1]; rfl]
        cases s <;> cases s'
        · cases e1
        · exact sHasAddr_ft H L b H' L' hp hok w
        · exact sHasAddr_tf H L b H' L' hp hok w
        · cases e1

end Go.Proofs.YtmbmekcppmbokaaGreat
