/-
  The program's Within, by its plain twin; nothing old in memory turns.
-/
import Derived.Test.YtamocbkamjnonaaBSpX
import Derived.Test.YtamocbkamjnonaaBSWith
import Derived.Test.YtamocbkamjnonaaBSpC
import Derived.Deep.RegionWith
import Derived.Deep.DeepCutAuto
namespace Go.Proofs.Ytamocbkamjnonaa
open Go.RowKit

theorem win_with {s : Bool} {H L : BitVec 64} {b : Int} {s' : Bool} {H' L' : BitVec 64} {b' : Int} {n m : Nat} (hp : pokB s H L b = true) (hq : pokB s' H' L' b' = true) (hn : (n : Int) = (wd s : Int) - b) (hm : (m : Int) = (wd s' : Int) - b') :
    winB s H L b s' H' L' b' = withB s H L n s' H' L' m := by
  have ho := (pokB_parts hp).1
  rw [winB, hp, hq, withB, hadB, hq, ho, ← hm]
  simp only [Bool.true_and, Int.toNat_natCast]
  by_cases e : s = s'
  · subst e
    rw [show decide (b' ≤ b) = decide (n ≤ m) from decide_eq_decide.mpr (by omega)]
  · have : hasB s' H' L' m s H L = false := by
      rw [hasB, show (s == s') = false by simpa using e]; rfl
    rw [this, Bool.and_false, Bool.and_false]
theorem win_no1 {s : Bool} {H L : BitVec 64} {b : Int} {s' : Bool} {H' L' : BitVec 64} {b' : Int} (hp : pokB s H L b = false) : winB s H L b s' H' L' b' = false := by rw [winB, hp]; rfl
theorem win_no2 {s : Bool} {H L : BitVec 64} {b : Int} {s' : Bool} {H' L' : BitVec 64} {b' : Int} (hq : pokB s' H' L' b' = false) : winB s H L b s' H' L' b' = false := by rw [winB, hq]; simp

end Go.Proofs.Ytamocbkamjnonaa
